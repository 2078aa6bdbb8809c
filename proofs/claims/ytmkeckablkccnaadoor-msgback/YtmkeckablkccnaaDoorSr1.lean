/- A source in memory: a reader and the first fault; numbers that are read off it. -/
import Derived.Test.YtmkeckablkccnaaDoorSr0
namespace Go.Proofs.YtmkeckablkccnaaDoor
open Go.RowKit
set_option maxRecDepth 100000

/-- what is left, and the first fault (0: none) -/
structure Sr where
  l : List Int
  f : Int

/-- a number of k bytes -/
def gN (k : Nat) (num : List Int → Int) (s : Sr) : Int × Sr := if s.f = 0 then (if k ≤ s.l.length then (num s.l, ⟨s.l.drop k, 0⟩) else (0, ⟨s.l, 20⟩)) else (0, s)
def p8 : Sr → Int × Sr := gN 1 fun l => l.getD 0 0
def p16 : Sr → Int × Sr := gN 2 rd16
def p32 : Sr → Int × Sr := gN 4 rd32
def p64 : Sr → Int × Sr := gN 8 rd64

/-- a source lies at S, its reader at R -/
structure Sat (w : World) (S R : Nat) (s : Sr) : Prop where
  src : w.heap[S]? = some (.cells #[.pointer (some ⟨R, 0, none⟩), .int .i64 s.f] 82 (0, 0))
  rd : Rb w R s.l
  ord : R < S
  len : s.l.length ≤ 100000

def SR (S R : Nat) : Nat → Prop := fun k => k = S ∨ k = R

theorem Sat.ne {w : World} {S R : Nat} {s : Sr} (h : Sat w S R s) : S ≠ R := by have := h.ord; omega
theorem Sat.lt {w : World} {S R : Nat} {s : Sr} (h : Sat w S R s) : S < w.heap.size ∧ R < w.heap.size := ⟨lt_of_block h.src, h.rd.lt⟩
theorem Sat.on {w w' : World} {S R : Nat} {s : Sr} (h : Sat w S R s) (hb : Below w.heap.size w w') : Sat w' S R s :=
  ⟨(hb.block _ (lt_of_block h.src)).trans h.src, h.rd.below hb, h.ord, h.len⟩
theorem Sat.cell0 {w : World} {S R : Nat} {s : Sr} (h : Sat w S R s) : w.cell? ⟨S, 0, none⟩ = some (.pointer (some ⟨R, 0, none⟩)) := by rw [cell_of_row _ _ _ _ _ _ h.src]; rfl
theorem Sat.cell1 {w : World} {S R : Nat} {s : Sr} (h : Sat w S R s) : w.cell? ⟨S, 1, none⟩ = some (.int .i64 s.f) := by rw [cell_of_row _ _ _ _ _ _ h.src]; rfl
theorem Sat.free1 {w : World} {S R : Nat} {s : Sr} (h : Sat w S R s) : w.frozen? ⟨S, 1, none⟩ = false := frozen_of_row _ _ _ _ _ h.src
/-- what is written behind the reader leaves it as it was -/
theorem Sat.kept {T : Nat → Prop} {w w' : World} {S R : Nat} {s : Sr} (h : Sat w S R s) (hk : Kept T w w') (hS : ¬ T S) (hT : ∀ k, k ≤ R → ¬ T k) : Sat w' S R s :=
  ⟨by rw [hk.block S (lt_of_block h.src) hS]; exact h.src, h.rd.kept hk hT, h.ord, h.len⟩
/-- a fault is kept -/
theorem Sat.fault {w : World} {S R : Nat} {s : Sr} (h : Sat w S R s) (f : Int) : Sat (w.setCell ⟨S, 1, none⟩ (.int .i64 f)) S R ⟨s.l, f⟩ := by
  have hk : Kept (fun k => k = S) w (w.setCell ⟨S, 1, none⟩ (.int .i64 f)) := (Kept.refl _ _).setCell _ _ (fun _ => rfl)
  have ho := h.ord
  exact ⟨heap_setCell_same _ _ _ _ _ _ h.src, h.rd.kept hk (fun k hk' e => by omega), ho, h.len⟩
theorem Sat.read {w w' : World} {S R : Nat} {s : Sr} (h : Sat w S R s) {l : List Int} (hr : Rb w' R l) (hk : Kept (fun k => k = R) w w') (hl : l.length ≤ s.l.length) : Sat w' S R ⟨l, s.f⟩ :=
  ⟨by rw [hk.block S (lt_of_block h.src) h.ne]; exact h.src, hr, h.ord, Nat.le_trans hl h.len⟩
theorem Kept.sr {S R : Nat} {w w' : World} (h : Kept (fun k => k = R) w w') : Kept (SR S R) w w' := h.mono (fun _ _ e => .inr e)
theorem Kept.sf {S R : Nat} {w w' : World} (h : Kept (fun k => k = S) w w') : Kept (SR S R) w w' := h.mono (fun _ _ e => .inl e)

set_option maxHeartbeats 1600000 in
theorem get_8 (w : World) (S R : Nat) (s : Sr) (h : Sat w S R s) :
    Calls Tryd.prog 65 #[.pointer (some ⟨S, 0, none⟩), .func (.func 66) #[.pointer (some ⟨R, 0, none⟩)] #[]] w fun e w' => e = .returned (.int .u8 (p8 s).1) ∧ Sat w' S R (p8 s).2 ∧ Kept (SR S R) w w' := by
  have q1 := h.cell1
  have z1 := h.free1
  have H := Lib.hid h
  unfold p8 gN
  by_cases hf : s.f = 0
  · rw [if_pos hf]
    rw [hf] at q1
    have HF := Lib.hid hf
    by_cases hk : 1 ≤ s.l.length
    · rw [if_pos hk]
      have C := Lib.hid (r8_b w R s.l h.rd hk (Nat.le_trans h.len (by decide)))
      have HR : Hid (∀ w1, Rb w1 R (s.l.drop 1) → Kept (fun k => k = R) w w1 → Sat w1 S R ⟨s.l.drop 1, 0⟩) := Lib.hid (fun w1 h1 h2 => by have := h.read h1 h2 (by simp); rw [hf] at this; exact this)
      simp only
      clear h hf hk
      generalize s.l.getD 0 0 = x at *
      go_enter Tryd.func65, Tryd.ntmps65
      go_wp2_with fail
      refine Calls.mono C.out ?_
      rintro e w1 ⟨rfl, h2, h3⟩
      have H2 := Lib.hid (HR.out w1 h2 h3)
      have H3 := Lib.hid h3
      clear h2 h3
      go_wp2_with fail
      go_ret
      exact ⟨rfl, H2.out, H3.out.sr⟩
    · rw [if_neg hk]
      have C := Lib.hid (r8_short w R s.l h.rd.toRd (by omega))
      simp only
      clear h hf hk
      go_enter Tryd.func65, Tryd.ntmps65
      go_wp2_with fail
      refine Calls.mono C.out ?_
      rintro e w1 ⟨rfl, rfl⟩
      go_wp2_with fail
      go_ret
      exact ⟨rfl, H.out.fault 20, Kept.sf ((Kept.refl _ _).setCell _ _ (fun _ => rfl))⟩
  · rw [if_neg hf]
    have hf2 : (s.f == 0) = false := by simp [hf]
    simp only
    clear h hf
    go_enter Tryd.func65, Tryd.ntmps65
    go_wp2_with fail
    go_ret
    exact ⟨rfl, H.out, Kept.refl _ _⟩

set_option maxHeartbeats 1600000 in
theorem s8 (w : World) (S R : Nat) (s : Sr) (h : Sat w S R s) :
    Calls Tryd.prog 36 #[.pointer (some ⟨S, 0, none⟩)] w fun e w' => e = .returned (.int .u8 (p8 s).1) ∧ Sat w' S R (p8 s).2 ∧ Kept (SR S R) w w' := by
  have q0 := h.cell0
  have C := Lib.hid (get_8 w S R s h)
  generalize p8 s = x at C ⊢
  have hmf : ∀ (fn : Fn) (first cap : Array Value) (w : World), (Instr.makeFunc fn first cap).run Tryd.prog w = .ok (.func fn first cap) w := fun _ _ _ _ => rfl
  clear h
  go_enter Tryd.func36, Tryd.ntmps36
  go_wp2_with fail
  refine Calls.mono C.out ?_
  rintro e w1 ⟨rfl, h2, h3⟩
  have H2 := Lib.hid h2
  have H3 := Lib.hid h3
  clear h2 h3
  go_wp2_with fail
  go_ret
  exact ⟨rfl, H2.out, H3.out⟩

set_option maxHeartbeats 1600000 in
theorem get_16 (w : World) (S R : Nat) (s : Sr) (h : Sat w S R s) :
    Calls Tryd.prog 125 #[.pointer (some ⟨S, 0, none⟩), .func (.func 126) #[.pointer (some ⟨R, 0, none⟩)] #[]] w fun e w' => e = .returned (.int .u16 (p16 s).1) ∧ Sat w' S R (p16 s).2 ∧ Kept (SR S R) w w' := by
  have q1 := h.cell1
  have z1 := h.free1
  have H := Lib.hid h
  unfold p16 gN
  by_cases hf : s.f = 0
  · rw [if_pos hf]
    rw [hf] at q1
    have HF := Lib.hid hf
    by_cases hk : 2 ≤ s.l.length
    · rw [if_pos hk]
      have C := Lib.hid (r16_b w R s.l h.rd hk (Nat.le_trans h.len (by decide)))
      have HR : Hid (∀ w1, Rb w1 R (s.l.drop 2) → Kept (fun k => k = R) w w1 → Sat w1 S R ⟨s.l.drop 2, 0⟩) := Lib.hid (fun w1 h1 h2 => by have := h.read h1 h2 (by simp); rw [hf] at this; exact this)
      simp only
      clear h hf hk
      generalize rd16 s.l = x at *
      go_enter Tryd.func125, Tryd.ntmps125
      go_wp2_with fail
      refine Calls.mono C.out ?_
      rintro e w1 ⟨rfl, h2, h3⟩
      have H2 := Lib.hid (HR.out w1 h2 h3)
      have H3 := Lib.hid h3
      clear h2 h3
      go_wp2_with fail
      go_ret
      exact ⟨rfl, H2.out, H3.out.sr⟩
    · rw [if_neg hk]
      have C := Lib.hid (r16_short w R s.l h.rd.toRd (by omega))
      simp only
      clear h hf hk
      go_enter Tryd.func125, Tryd.ntmps125
      go_wp2_with fail
      refine Calls.mono C.out ?_
      rintro e w1 ⟨rfl, rfl⟩
      go_wp2_with fail
      go_ret
      exact ⟨rfl, H.out.fault 20, Kept.sf ((Kept.refl _ _).setCell _ _ (fun _ => rfl))⟩
  · rw [if_neg hf]
    have hf2 : (s.f == 0) = false := by simp [hf]
    simp only
    clear h hf
    go_enter Tryd.func125, Tryd.ntmps125
    go_wp2_with fail
    go_ret
    exact ⟨rfl, H.out, Kept.refl _ _⟩

set_option maxHeartbeats 1600000 in
theorem s16 (w : World) (S R : Nat) (s : Sr) (h : Sat w S R s) :
    Calls Tryd.prog 101 #[.pointer (some ⟨S, 0, none⟩)] w fun e w' => e = .returned (.int .u16 (p16 s).1) ∧ Sat w' S R (p16 s).2 ∧ Kept (SR S R) w w' := by
  have q0 := h.cell0
  have C := Lib.hid (get_16 w S R s h)
  generalize p16 s = x at C ⊢
  have hmf : ∀ (fn : Fn) (first cap : Array Value) (w : World), (Instr.makeFunc fn first cap).run Tryd.prog w = .ok (.func fn first cap) w := fun _ _ _ _ => rfl
  clear h
  go_enter Tryd.func101, Tryd.ntmps101
  go_wp2_with fail
  refine Calls.mono C.out ?_
  rintro e w1 ⟨rfl, h2, h3⟩
  have H2 := Lib.hid h2
  have H3 := Lib.hid h3
  clear h2 h3
  go_wp2_with fail
  go_ret
  exact ⟨rfl, H2.out, H3.out⟩

set_option maxHeartbeats 1600000 in
theorem get_32 (w : World) (S R : Nat) (s : Sr) (h : Sat w S R s) :
    Calls Tryd.prog 99 #[.pointer (some ⟨S, 0, none⟩), .func (.func 100) #[.pointer (some ⟨R, 0, none⟩)] #[]] w fun e w' => e = .returned (.int .u32 (p32 s).1) ∧ Sat w' S R (p32 s).2 ∧ Kept (SR S R) w w' := by
  have q1 := h.cell1
  have z1 := h.free1
  have H := Lib.hid h
  unfold p32 gN
  by_cases hf : s.f = 0
  · rw [if_pos hf]
    rw [hf] at q1
    have HF := Lib.hid hf
    by_cases hk : 4 ≤ s.l.length
    · rw [if_pos hk]
      have C := Lib.hid (r32_b w R s.l h.rd hk (Nat.le_trans h.len (by decide)))
      have HR : Hid (∀ w1, Rb w1 R (s.l.drop 4) → Kept (fun k => k = R) w w1 → Sat w1 S R ⟨s.l.drop 4, 0⟩) := Lib.hid (fun w1 h1 h2 => by have := h.read h1 h2 (by simp); rw [hf] at this; exact this)
      simp only
      clear h hf hk
      generalize rd32 s.l = x at *
      go_enter Tryd.func99, Tryd.ntmps99
      go_wp2_with fail
      refine Calls.mono C.out ?_
      rintro e w1 ⟨rfl, h2, h3⟩
      have H2 := Lib.hid (HR.out w1 h2 h3)
      have H3 := Lib.hid h3
      clear h2 h3
      go_wp2_with fail
      go_ret
      exact ⟨rfl, H2.out, H3.out.sr⟩
    · rw [if_neg hk]
      have C := Lib.hid (r32_short w R s.l h.rd.toRd (by omega))
      simp only
      clear h hf hk
      go_enter Tryd.func99, Tryd.ntmps99
      go_wp2_with fail
      refine Calls.mono C.out ?_
      rintro e w1 ⟨rfl, rfl⟩
      go_wp2_with fail
      go_ret
      exact ⟨rfl, H.out.fault 20, Kept.sf ((Kept.refl _ _).setCell _ _ (fun _ => rfl))⟩
  · rw [if_neg hf]
    have hf2 : (s.f == 0) = false := by simp [hf]
    simp only
    clear h hf
    go_enter Tryd.func99, Tryd.ntmps99
    go_wp2_with fail
    go_ret
    exact ⟨rfl, H.out, Kept.refl _ _⟩

set_option maxHeartbeats 1600000 in
theorem s32 (w : World) (S R : Nat) (s : Sr) (h : Sat w S R s) :
    Calls Tryd.prog 67 #[.pointer (some ⟨S, 0, none⟩)] w fun e w' => e = .returned (.int .u32 (p32 s).1) ∧ Sat w' S R (p32 s).2 ∧ Kept (SR S R) w w' := by
  have q0 := h.cell0
  have C := Lib.hid (get_32 w S R s h)
  generalize p32 s = x at C ⊢
  have hmf : ∀ (fn : Fn) (first cap : Array Value) (w : World), (Instr.makeFunc fn first cap).run Tryd.prog w = .ok (.func fn first cap) w := fun _ _ _ _ => rfl
  clear h
  go_enter Tryd.func67, Tryd.ntmps67
  go_wp2_with fail
  refine Calls.mono C.out ?_
  rintro e w1 ⟨rfl, h2, h3⟩
  have H2 := Lib.hid h2
  have H3 := Lib.hid h3
  clear h2 h3
  go_wp2_with fail
  go_ret
  exact ⟨rfl, H2.out, H3.out⟩

set_option maxHeartbeats 1600000 in
theorem get_64 (w : World) (S R : Nat) (s : Sr) (h : Sat w S R s) :
    Calls Tryd.prog 102 #[.pointer (some ⟨S, 0, none⟩), .func (.func 103) #[.pointer (some ⟨R, 0, none⟩)] #[]] w fun e w' => e = .returned (.int .u64 (p64 s).1) ∧ Sat w' S R (p64 s).2 ∧ Kept (SR S R) w w' := by
  have q1 := h.cell1
  have z1 := h.free1
  have H := Lib.hid h
  unfold p64 gN
  by_cases hf : s.f = 0
  · rw [if_pos hf]
    rw [hf] at q1
    have HF := Lib.hid hf
    by_cases hk : 8 ≤ s.l.length
    · rw [if_pos hk]
      have C := Lib.hid (r64_b w R s.l h.rd hk (Nat.le_trans h.len (by decide)))
      have HR : Hid (∀ w1, Rb w1 R (s.l.drop 8) → Kept (fun k => k = R) w w1 → Sat w1 S R ⟨s.l.drop 8, 0⟩) := Lib.hid (fun w1 h1 h2 => by have := h.read h1 h2 (by simp); rw [hf] at this; exact this)
      simp only
      clear h hf hk
      generalize rd64 s.l = x at *
      go_enter Tryd.func102, Tryd.ntmps102
      go_wp2_with fail
      refine Calls.mono C.out ?_
      rintro e w1 ⟨rfl, h2, h3⟩
      have H2 := Lib.hid (HR.out w1 h2 h3)
      have H3 := Lib.hid h3
      clear h2 h3
      go_wp2_with fail
      go_ret
      exact ⟨rfl, H2.out, H3.out.sr⟩
    · rw [if_neg hk]
      have C := Lib.hid (r64_short w R s.l h.rd.toRd (by omega))
      simp only
      clear h hf hk
      go_enter Tryd.func102, Tryd.ntmps102
      go_wp2_with fail
      refine Calls.mono C.out ?_
      rintro e w1 ⟨rfl, rfl⟩
      go_wp2_with fail
      go_ret
      exact ⟨rfl, H.out.fault 20, Kept.sf ((Kept.refl _ _).setCell _ _ (fun _ => rfl))⟩
  · rw [if_neg hf]
    have hf2 : (s.f == 0) = false := by simp [hf]
    simp only
    clear h hf
    go_enter Tryd.func102, Tryd.ntmps102
    go_wp2_with fail
    go_ret
    exact ⟨rfl, H.out, Kept.refl _ _⟩

set_option maxHeartbeats 1600000 in
theorem s64 (w : World) (S R : Nat) (s : Sr) (h : Sat w S R s) :
    Calls Tryd.prog 69 #[.pointer (some ⟨S, 0, none⟩)] w fun e w' => e = .returned (.int .u64 (p64 s).1) ∧ Sat w' S R (p64 s).2 ∧ Kept (SR S R) w w' := by
  have q0 := h.cell0
  have C := Lib.hid (get_64 w S R s h)
  generalize p64 s = x at C ⊢
  have hmf : ∀ (fn : Fn) (first cap : Array Value) (w : World), (Instr.makeFunc fn first cap).run Tryd.prog w = .ok (.func fn first cap) w := fun _ _ _ _ => rfl
  clear h
  go_enter Tryd.func69, Tryd.ntmps69
  go_wp2_with fail
  refine Calls.mono C.out ?_
  rintro e w1 ⟨rfl, h2, h3⟩
  have H2 := Lib.hid h2
  have H3 := Lib.hid h3
  clear h2 h3
  go_wp2_with fail
  go_ret
  exact ⟨rfl, H2.out, H3.out⟩
end Go.Proofs.YtmkeckablkccnaaDoor
