/- A source in memory: a reader and the first fault; numbers that are read off it. Lists of a vote: whether each is one, and stands above the one ahead. Entries: whether one is one; which of two stands above. The entries of a vote: whether each is one, and stands above the one ahead. Whether it is a vote. -/
import Derived.Test.YtbpfkeeikhhlnaaGreatDoorC05
import Derived.Test.YtbpfkeeikhhlnaaGreatDoorC02
import Derived.Deep.Cut
import Derived.Deep.QuietTactic
import Derived.BigQuiet
import Derived.Test.YtbpfkeeikhhlnaaGreatDoorC03
import Derived.Laws.Cover1
namespace Go.Proofs.YtbpfkeeikhhlnaaGreatDoor
open Go.RowKit
set_option maxRecDepth 100000

/-- what is left, and the first fault (0: none) -/
structure Sr where
  l : List Int
  f : Int

/-- a number of k bytes -/
def gN (k : Nat) (num : List Int → Int) (s : Sr) : Int × Sr := if s.f = 0 then (if k ≤ s.l.length then (num s.l, ⟨s.l.drop k, 0⟩) else (0, ⟨s.l, 20⟩)) else (0, s)
def p8 : Sr → Int × Sr := gN 1 fun l => l.getD 0 0
def p16 : Sr → Int × Sr := gN 2 rd16
/-- a source lies at S, its reader at R -/
structure Sat (w : World) (S R : Nat) (s : Sr) : Prop where
  src : w.heap[S]? = some (.cells #[.pointer (some ⟨R, 0, none⟩), .int .i64 s.f] 94 (0, 0))
  rd : Rb w R s.l
  ord : R < S
  len : s.l.length ≤ 100000

def SR (S R : Nat) : Nat → Prop := fun k => k = S ∨ k = R

theorem Sat.ne {w : World} {S R : Nat} {s : Sr} (h : Sat w S R s) : S ≠ R := by have := h.ord; omega
theorem Sat.lt {w : World} {S R : Nat} {s : Sr} (h : Sat w S R s) : S < w.heap.size ∧ R < w.heap.size := ⟨lt_of_block h.src, h.rd.lt⟩
theorem Sat.on {w w' : World} {S R : Nat} {s : Sr} (h : Sat w S R s) (hb : Below w.heap.size w w') : Sat w' S R s :=
  ⟨(hb.block _ (lt_of_block h.src)).trans h.src, h.rd.below hb, h.ord, h.len⟩
theorem Sat.cell0 {w : World} {S R : Nat} {s : Sr} (h : Sat w S R s) : w.cell? ⟨S, 0, none⟩ = some (.pointer (some ⟨R, 0, none⟩)) := by rw [cell_of_row _ _ _ _ _ _ h.src]; rfl
theorem Sat.cell1 {w : World} {S R : Nat} {s : Sr} (h : Sat w S R s) : w.cell? ⟨S, 1, none⟩ = some (.int .i64 s.f) := by rw [cell_of_row _ _ _ _ _ _ h.src]; rfl
theorem Sat.free1 {w : World} {S R : Nat} {s : Sr} (h : Sat w S R s) : w.frozen? ⟨S, 1, none⟩ = false := frozen_of_row _ _ _ _ _ h.src
/-- what is written behind the reader leaves it as it was -/
theorem Sat.kept {T : Nat → Prop} {w w' : World} {S R : Nat} {s : Sr} (h : Sat w S R s) (hk : Kept T w w') (hS : ¬ T S) (hT : ∀ k, k ≤ R → ¬ T k) : Sat w' S R s :=
  ⟨by rw [hk.block S (lt_of_block h.src) hS]; exact h.src, h.rd.kept hk hT, h.ord, h.len⟩
/-- a fault is kept -/
theorem Sat.fault {w : World} {S R : Nat} {s : Sr} (h : Sat w S R s) (f : Int) : Sat (w.setCell ⟨S, 1, none⟩ (.int .i64 f)) S R ⟨s.l, f⟩ := by
  have hk : Kept (fun k => k = S) w (w.setCell ⟨S, 1, none⟩ (.int .i64 f)) := (Kept.refl _ _).setCell _ _ (fun _ => rfl)
  have ho := h.ord
  exact ⟨heap_setCell_same _ _ _ _ _ _ h.src, h.rd.kept hk (fun k hk' e => by omega), ho, h.len⟩
theorem Sat.read {w w' : World} {S R : Nat} {s : Sr} (h : Sat w S R s) {l : List Int} (hr : Rb w' R l) (hk : Kept (fun k => k = R) w w') (hl : l.length ≤ s.l.length) : Sat w' S R ⟨l, s.f⟩ :=
  ⟨by rw [hk.block S (lt_of_block h.src) h.ne]; exact h.src, hr, h.ord, Nat.le_trans hl h.len⟩
theorem Kept.sr {S R : Nat} {w w' : World} (h : Kept (fun k => k = R) w w') : Kept (SR S R) w w' := h.mono (fun _ _ e => .inr e)
theorem Kept.sf {S R : Nat} {w w' : World} (h : Kept (fun k => k = S) w w') : Kept (SR S R) w w' := h.mono (fun _ _ e => .inl e)

set_option maxHeartbeats 1600000 in
theorem get_8 (w : World) (S R : Nat) (s : Sr) (h : Sat w S R s) :
    Calls Tryz.prog 82 #[.pointer (some ⟨S, 0, none⟩), .func (.func 83) #[.pointer (some ⟨R, 0, none⟩)] #[]] w fun e w' => e = .returned (.int .u8 (p8 s).1) ∧ Sat w' S R (p8 s).2 ∧ Kept (SR S R) w w' := by
  have q1 := h.cell1
  have z1 := h.free1
  have H := Lib.hid h
  unfold p8 gN
  by_cases hf : s.f = 0
  · rw [if_pos hf]
    rw [hf] at q1
    have HF := Lib.hid hf
    by_cases hk : 1 ≤ s.l.length
    · rw [if_pos hk]
      have C := Lib.hid (r8_b w R s.l h.rd hk (Nat.le_trans h.len (by decide)))
      have HR : Hid (∀ w1, Rb w1 R (s.l.drop 1) → Kept (fun k => k = R) w w1 → Sat w1 S R ⟨s.l.drop 1, 0⟩) := Lib.hid (fun w1 h1 h2 => by have := h.read h1 h2 (by simp); rw [hf] at this; exact this)
      simp only
      clear h hf hk
      generalize s.l.getD 0 0 = x at *
      go_enter Tryz.func82, Tryz.ntmps82
      go_wp2_with fail
      refine Calls.mono C.out ?_
      rintro e w1 ⟨rfl, h2, h3⟩
      have H2 := Lib.hid (HR.out w1 h2 h3)
      have H3 := Lib.hid h3
      clear h2 h3
      go_wp2_with fail
      go_ret
      exact ⟨rfl, H2.out, H3.out.sr⟩
    · rw [if_neg hk]
      have C := Lib.hid (r8_short w R s.l h.rd.toRd (by omega))
      simp only
      clear h hf hk
      go_enter Tryz.func82, Tryz.ntmps82
      go_wp2_with fail
      refine Calls.mono C.out ?_
      rintro e w1 ⟨rfl, rfl⟩
      go_wp2_with fail
      go_ret
      exact ⟨rfl, H.out.fault 20, Kept.sf ((Kept.refl _ _).setCell _ _ (fun _ => rfl))⟩
  · rw [if_neg hf]
    have hf2 : (s.f == 0) = false := by simp [hf]
    simp only
    clear h hf
    go_enter Tryz.func82, Tryz.ntmps82
    go_wp2_with fail
    go_ret
    exact ⟨rfl, H.out, Kept.refl _ _⟩

set_option maxHeartbeats 1600000 in
theorem s8 (w : World) (S R : Nat) (s : Sr) (h : Sat w S R s) :
    Calls Tryz.prog 59 #[.pointer (some ⟨S, 0, none⟩)] w fun e w' => e = .returned (.int .u8 (p8 s).1) ∧ Sat w' S R (p8 s).2 ∧ Kept (SR S R) w w' := by
  have q0 := h.cell0
  have C := Lib.hid (get_8 w S R s h)
  generalize p8 s = x at C ⊢
  have hmf : ∀ (fn : Fn) (first cap : Array Value) (w : World), (Instr.makeFunc fn first cap).run Tryz.prog w = .ok (.func fn first cap) w := fun _ _ _ _ => rfl
  clear h
  go_enter Tryz.func59, Tryz.ntmps59
  go_wp2_with fail
  refine Calls.mono C.out ?_
  rintro e w1 ⟨rfl, h2, h3⟩
  have H2 := Lib.hid h2
  have H3 := Lib.hid h3
  clear h2 h3
  go_wp2_with fail
  go_ret
  exact ⟨rfl, H2.out, H3.out⟩

/-- the i-th of a list is one, and above the one ahead -/
def stepB {α : Type} (ok : α → Bool) (ab : α → α → Bool) (l : List α) (i : Nat) : Bool :=
  match l[i]? with
  | none => true
  | some x => ok x && (match i with
    | 0 => true
    | j + 1 => match l[j]? with
      | none => true
      | some y => ab x y)
/-- forty at most, each one, and above the one ahead -/
def upB {α : Type} (ok : α → Bool) (ab : α → α → Bool) (l : List α) : Bool := decide (l.length ≤ 40) && (List.range l.length).all (stepB ok ab l)

theorem stepB_zero {α : Type} {ok : α → Bool} {ab : α → α → Bool} {l : List α} {x : α} (h : l[0]? = some x) : stepB ok ab l 0 = ok x := by simp [stepB, h]
theorem stepB_succ {α : Type} {ok : α → Bool} {ab : α → α → Bool} {l : List α} {j : Nat} {x y : α} (h : l[j + 1]? = some x) (h' : l[j]? = some y) : stepB ok ab l (j + 1) = (ok x && ab x y) := by simp [stepB, h, h']
theorem stepB_not {α : Type} {ok : α → Bool} {ab : α → α → Bool} {l : List α} {j : Nat} {x : α} (h : l[j]? = some x) (hx : ok x = false) : stepB ok ab l j = false := by simp [stepB, h, hx]
theorem upB_false {α : Type} {ok : α → Bool} {ab : α → α → Bool} {l : List α} {j : Nat} (hj : j < l.length) (h : stepB ok ab l j = false) : upB ok ab l = false := by
  unfold upB
  have : (List.range l.length).all (stepB ok ab l) = false := by
    rw [List.all_eq_false]
    exact ⟨j, List.mem_range.2 hj, by simp [h]⟩
  rw [this]; simp
theorem upB_true {α : Type} {ok : α → Bool} {ab : α → α → Bool} {l : List α} (h40 : l.length ≤ 40) (h : ∀ i, i < l.length → stepB ok ab l i = true) : upB ok ab l = true := by
  unfold upB
  have : (List.range l.length).all (stepB ok ab l) = true := by
    rw [List.all_eq_true]
    intro i hi
    exact h i (List.mem_range.1 hi)
  rw [this]; simp [h40]
theorem upB_long {α : Type} {ok : α → Bool} {ab : α → α → Bool} {l : List α} (h : ¬ l.length ≤ 40) : upB ok ab l = false := by
  unfold upB; simp [h]

theorem bel_drewN {H : Nat} {a w : World} (h : Below H a w) (n : Nat) : Below H a (w.drewN n) := by
  have hk : Kept (fun _ => False) w (w.drewN n) := (Kept.refl _ w).drewN n
  exact ⟨hk.os.trans h.os, hk.tape.trans h.tape, hk.output.trans h.output, Nat.le_trans h.size hk.size, fun k hk' => by
    by_cases hlt : k < w.heap.size
    · rw [hk.block k hlt (fun h => h)]; exact h.block k hk'
    · have e : (w.drewN n).heap = w.heap := rfl
      rw [e]; exact h.block k hk'⟩

def mkOk (x : Mk) : Bool := isSq x.s
def mkAb (x y : Mk) : Bool := decide (y.s < x.s)

set_option maxHeartbeats 2000000 in
theorem areMarks_any (w : World) (v : Sl) (xs : List Mk) (h1 : Row w 2 Mk.cells v.val xs) :
    Calls Tryz.prog 44 #[.slice v.a v.n v.c] w fun e w' => e = .returned (.bool (upB mkOk mkAb xs)) ∧ Below w.heap.size w w' := by
  obtain ⟨a1, c1, q1, -, -, hn1, hr1⟩ := h1
  simp only [Sl.val] at q1
  rw [q1]
  clear q1
  have H1 := Lib.hid hr1
  clear hr1
  obtain ⟨r, hr⟩ : ∃ r, r = upB mkOk mkAb xs := ⟨_, rfl⟩
  rw [← hr]
  have HR := Lib.hid hr
  clear hr
  by_cases h40 : xs.length ≤ 40
  · generalize hn : xs.length = n at *
    have HN := Lib.hid hn
    have h40' : ¬ (n : Int) > 40 := by omega
    clear hn
    go_enter Tryz.func44, Tryz.ntmps44
    go_wp2_with fail
    go_loopw [10] (fun vi wr => ∃ j : Nat, j ≤ n ∧ vi = .int .i64 j ∧ Hid (Below w.heap.size w wr) ∧ Hid (∀ i, i < j → stepB mkOk mkAb xs i = true)) (fun i _ => n - (intOf i).toNat)
    case atStart => exact ⟨0, by omega, rfl, Lib.hid (Below.refl _ _), Lib.hid (fun i h => by omega)⟩
    case round =>
      obtain ⟨j, hj, rfl, HB, A⟩ := hrel
      by_cases hlt : j < n
      · obtain ⟨x, hx⟩ : ∃ x, xs[j]? = some x := ⟨_, List.getElem?_eq_getElem (by rw [HN.out]; exact hlt)⟩
        obtain ⟨b1, o1, e1, g1⟩ := H1.out j x hx
        have G : ∀ i u, x.cells[i]? = some u → wr.cell? ⟨b1, o1 + j * 2 + i, none⟩ = some u := fun i u hu => by
          have h3 := g1 i u hu
          rw [HB.out.cell (cell_block h3)]; exact h3
        have l10 : wr.cell? ⟨b1, o1 + j * 2, none⟩ = some (.int .u32 x.s) := G 0 _ rfl
        have l11 : wr.cell? ⟨b1, o1 + j * 2 + 1, none⟩ = some (.int .u64 x.r) := G 1 _ rfl
        have HX := Lib.hid hx
        have CI := Lib.hid (isSeq_any x.s)
        generalize hs : isSq x.s = sb at CI
        have HS := Lib.hid hs
        clear hx g1 G hs
        subst e1
        have HNEW := Lib.hid (fun o => HB.out.alloc HB.out.size o)
        go_upto_region 6 with fail
        obtain ⟨W, hW⟩ : ∃ W, W = wr.alloc (.cells #[.int .u32 x.s, .int .u64 x.r] 77) := ⟨_, rfl⟩
        have p0 : W.cell? ⟨wr.heap.size, 0, none⟩ = some (.int .u32 x.s) := by rw [hW]; simp
        have HBW := Lib.hid (show Below w.heap.size w W by rw [hW]; exact HNEW.out _)
        rw [← hW]
        clear hW l10 l11 HNEW
        cases sb
        · go_quiet ((go_at_call 43; exact Calls.quiet_of_same (CI.out _)))
          go_wp2_with fail
          go_ret
          refine ⟨?_, bel_drewN HBW.out _⟩
          rw [HR.out, upB_false (by rw [HN.out]; exact hlt) (stepB_not HX.out (by unfold mkOk; exact HS.out))]; rfl
        · rcases Nat.eq_zero_or_pos j with h0 | h0
          · subst h0
            go_quiet ((go_at_call 43; exact Calls.quiet_of_same (CI.out _)))
            go_wp2_with fail
            go_round
            case measure => simp [intOf]; omega
            case rel =>
              refine ⟨1, by omega, by go_num, Lib.hid (bel_drewN HBW.out _), Lib.hid (fun i hi => ?_)⟩
              obtain rfl : i = 0 := by omega
              rw [stepB_zero HX.out]; exact HS.out
          · obtain ⟨i, rfl⟩ : ∃ i, j = i + 1 := ⟨j - 1, by omega⟩
            obtain ⟨y, hy⟩ : ∃ y, xs[i]? = some y := ⟨_, List.getElem?_eq_getElem (by rw [HN.out]; omega)⟩
            have py : W.cell? ⟨b1, o1 + i * 2, none⟩ = some (.int .u32 y.s) := by
              obtain ⟨b2, o2, e2, g2⟩ := H1.out i y hy
              injection e2 with e2; injection e2 with e3 e4; subst e3; subst e4
              have h3 : w.cell? ⟨b1, o1 + i * 2, none⟩ = some (.int .u32 y.s) := g2 0 _ rfl
              rw [HBW.out.cell (cell_block h3)]; exact h3
            have HY := Lib.hid hy
            clear hy
            by_cases hg : y.s ≥ x.s
            · have HG := Lib.hid hg
              go_quiet ((go_at_call 43; exact Calls.quiet_of_same (CI.out _)))
              go_wp2_with fail
              go_ret
              refine ⟨?_, bel_drewN HBW.out _⟩
              have e : stepB mkOk mkAb xs (i + 1) = false := by
                rw [stepB_succ HX.out HY.out]; unfold mkAb; have := HG.out; simp; intro _; omega
              rw [HR.out, upB_false (by rw [HN.out]; exact hlt) e]; rfl
            · have HG := Lib.hid hg
              go_quiet ((go_at_call 43; exact Calls.quiet_of_same (CI.out _)))
              go_wp2_with fail
              go_round
              case measure => simp [intOf]; omega
              case rel =>
                refine ⟨i + 2, by omega, by go_num, Lib.hid (bel_drewN HBW.out _), Lib.hid (fun k hk => ?_)⟩
                by_cases e : k = i + 1
                · subst e
                  rw [stepB_succ HX.out HY.out]; unfold mkOk mkAb; rw [HS.out]; have := HG.out; simp; omega
                · exact A.out k (by omega)
      · obtain rfl : j = n := by omega
        go_wp2_with fail
        go_ret
        refine ⟨?_, HB.out⟩
        rw [HR.out, upB_true (by rw [HN.out]; exact h40) (by rw [HN.out]; exact A.out)]; rfl
  · have HL := Lib.hid (upB_long (ok := mkOk) (ab := mkAb) h40)
    generalize hn : xs.length = n at *
    have h40' : (n : Int) > 40 := by omega
    clear hn
    go_enter Tryz.func44, Tryz.ntmps44
    go_wp2_with fail
    go_ret
    exact ⟨by rw [HR.out, HL.out]; rfl, Below.refl _ _⟩

def enOk (x : En) : Bool := isPl x.s && (isVw x.v && x.rq.is)
def enAb (x y : En) : Bool := decide (y.s < x.s)
/-- a text stands behind another -/
def textGt (a b : Rq) : Bool := !(Op.bytesLess (⟨a.text.toArray⟩ : ByteArray).toList (⟨b.text.toArray⟩ : ByteArray).toList || (⟨a.text.toArray⟩ : ByteArray).toList == (⟨b.text.toArray⟩ : ByteArray).toList)
def enAt (x y : En) : Bool := if x.s = y.s then textGt x.rq y.rq else decide (y.s < x.s)

set_option maxHeartbeats 1000000 in
theorem isEntry_any (x : En) (w : World) : Calls Tryz.prog 78 #[.agg x.cells.toArray] w fun e w' => e = .returned (.bool (enOk x)) ∧ Below w.heap.size w w' := by
  obtain ⟨r, hr⟩ : ∃ r, r = enOk x := ⟨_, rfl⟩
  rw [← hr]
  unfold enOk at hr
  have C1 := Lib.hid (isPlace_any x.s)
  have C2 := Lib.hid (isView_any x.v)
  have C3 := Lib.hid (isReq_any x.rq)
  generalize isPl x.s = b1 at C1 hr
  generalize isVw x.v = b2 at C2 hr
  generalize x.rq.is = b3 at C3 hr
  have HR := Lib.hid hr
  clear hr
  simp only [Rq.cells] at C3
  obtain ⟨W, hW⟩ : ∃ W, W = w.alloc (.cells x.cells.toArray 80) := ⟨_, rfl⟩
  have HBL := Lib.hid (show Below w.heap.size w W by rw [hW]; exact (Below.refl _ _).alloc (Nat.le_refl _) _)
  have q0 : W.cell? ⟨w.heap.size, 0, none⟩ = some (.int .u32 x.s) := by rw [hW]; simp [En.cells]
  have q1 : W.cell? ⟨w.heap.size, 1, none⟩ = some (.int .u32 x.v) := by rw [hW]; simp [En.cells]
  have q2 : W.cell? ⟨w.heap.size, 2, none⟩ = some (.int .u8 x.rq.c) := by rw [hW]; simp [En.cells]
  have q3 : W.cell? ⟨w.heap.size, 3, none⟩ = some (.int .u32 x.rq.t) := by rw [hW]; simp [En.cells]
  have q4 : W.cell? ⟨w.heap.size, 4, none⟩ = some (.int .u8 x.rq.k) := by rw [hW]; simp [En.cells]
  have q5 : W.cell? ⟨w.heap.size, 5, none⟩ = some (.int .u8 x.rq.y) := by rw [hW]; simp [En.cells]
  have q6 : W.cell? ⟨w.heap.size, 6, none⟩ = some (.int .u16 x.rq.v) := by rw [hW]; simp [En.cells]
  have HW := Lib.hid hW
  clear hW
  simp only [En.cells] at HW ⊢
  go_enter Tryz.func78, Tryz.ntmps78
  go_upto_region 1 with fail
  rw [← HW.out]
  clear HW
  go_wp2_with fail
  refine Calls.mono (C1.out _) ?_
  rintro e w' ⟨rfl, rfl⟩
  cases b1
  · go_wp2_with fail
    go_ret
    exact ⟨by rw [HR.out]; rfl, HBL.out⟩
  · go_wp2_with fail
    refine Calls.mono (C2.out _) ?_
    rintro e w' ⟨rfl, rfl⟩
    cases b2
    · go_wp2_with fail
      go_ret
      exact ⟨by rw [HR.out]; rfl, HBL.out⟩
    · go_wp2_with fail
      refine Calls.mono (C3.out _) ?_
      rintro e w' ⟨rfl, hb⟩
      have HB := Lib.hid (HBL.out.trans (hb.mono HBL.out.size))
      clear hb
      go_wp2_with fail
      go_ret
      exact ⟨by rw [HR.out]; rfl, HB.out⟩

theorem bySeq_any (x y : En) (w : World) : Calls Tryz.prog 46 #[.agg x.cells.toArray, .agg y.cells.toArray] w fun e w' => e = .returned (.bool (enAb x y)) ∧ Below w.heap.size w w' := by
  obtain ⟨r, hr⟩ : ∃ r, r = enAb x y := ⟨_, rfl⟩
  rw [← hr]
  unfold enAb at hr
  have HR := Lib.hid hr
  clear hr
  simp only [En.cells]
  by_cases h : x.s > y.s <;>
  · have H := Lib.hid h
    go_enter Tryz.func46, Tryz.ntmps46
    go_wp2
    go_ret
    refine ⟨?_, ((Below.refl _ _).alloc (Nat.le_refl _) _).alloc (by simp) _⟩
    rw [HR.out]; have := H.out; simp; omega

theorem rq_load {w' : World} {g : Nat} {x : En} (h : w'.heap[g]? = some (.cells x.cells.toArray 80 (0, 0))) : (Instr.loadAt 27 (.pointer (some ⟨g, 2, none⟩))).run Tryz.prog w' = .ok (.agg x.rq.cells.toArray) w' := by
  have q2 : w'.cell? ⟨g, 2, none⟩ = some (.int .u8 x.rq.c) := by rw [cell_of_row _ _ _ _ _ _ h]; rfl
  have q3 : w'.cell? ⟨g, 3, none⟩ = some (.int .u32 x.rq.t) := by rw [cell_of_row _ _ _ _ _ _ h]; rfl
  have q4 : w'.cell? ⟨g, 4, none⟩ = some (.int .u8 x.rq.k) := by rw [cell_of_row _ _ _ _ _ _ h]; rfl
  have q5 : w'.cell? ⟨g, 5, none⟩ = some (.int .u8 x.rq.y) := by rw [cell_of_row _ _ _ _ _ _ h]; rfl
  have q6 : w'.cell? ⟨g, 6, none⟩ = some (.int .u16 x.rq.v) := by rw [cell_of_row _ _ _ _ _ _ h]; rfl
  have u5 := Tryz.underlying5; have a5 := Tryz.isAgg5; have z5 := Tryz.sizeOf5
  simp only [Rq.cells]
  have a27 := Tryz.isAgg27; have z27 := Tryz.sizeOf27; have u27 := Tryz.underlying27
  go_simp

set_option maxHeartbeats 4000000 in
theorem bySeqAndText_any (x y : En) (hx : x.rq.ok) (hy : y.rq.ok) (w : World) (ht : Tab w) : Calls Tryz.prog 47 #[.agg x.cells.toArray, .agg y.cells.toArray] w fun e w' => e = .returned (.bool (enAt x y)) ∧ Below w.heap.size w w' := by
  obtain ⟨r, hr⟩ : ∃ r, r = enAt x y := ⟨_, rfl⟩
  rw [← hr]
  unfold enAt at hr
  obtain ⟨W, hW⟩ : ∃ W, W = (w.alloc (.cells x.cells.toArray 80)).alloc (.cells y.cells.toArray 80) := ⟨_, rfl⟩
  have hWs : W.heap.size = w.heap.size + 2 := by rw [hW]; simp
  have hWb := bl2 hW
  have fa : ∀ w', Below W.heap.size W w' → w'.heap[w.heap.size]? = some (.cells x.cells.toArray 80 (0, 0)) := fun w' h => by rw [h.block w.heap.size (by omega), hW]; exact heap_alloc2_old _ _ _
  have fb : ∀ w', Below W.heap.size W w' → w'.heap[w.heap.size + 1]? = some (.cells y.cells.toArray 80 (0, 0)) := fun w' h => by rw [h.block (w.heap.size + 1) (by omega), hW]; exact heap_alloc2_new _ _ _
  have q0 : W.cell? ⟨w.heap.size, 0, none⟩ = some (.int .u32 x.s) := by rw [cell_of_row _ _ _ _ _ _ (fa W (Below.refl _ _))]; rfl
  have q1 : W.cell? ⟨w.heap.size + 1, 0, none⟩ = some (.int .u32 y.s) := by rw [cell_of_row _ _ _ _ _ _ (fb W (Below.refl _ _))]; rfl
  have hT := Tab.on ht hWb
  have LA := Lib.hid (fun w' h => rq_load (fa w' h))
  have LB := Lib.hid (fun w' h => rq_load (fb w' h))
  have CA := Lib.hid (fun w' (h : Below W.heap.size W w') => text_any x.rq hx w' (Tab.on hT h))
  have CB := Lib.hid (fun w' (h : Below W.heap.size W w') => text_any y.rq hy w' (Tab.on hT h))
  have HWB := Lib.hid hWb
  have HWS := Lib.hid hWs
  have hW0 := Below.refl W.heap.size W
  have HR := Lib.hid hr
  simp only [En.cells] at hW ⊢
  have HW := Lib.hid hW
  clear hWb hWs hW fa fb hT ht hr
  go_enter Tryz.func47, Tryz.ntmps47
  go_upto_region 1 with fail
  rw [← HW.out]
  clear HW
  generalize (#[.int .u32 x.s, .int .u32 x.v, .int .u8 x.rq.c, .int .u32 x.rq.t, .int .u8 x.rq.k, .int .u8 x.rq.y, .int .u16 x.rq.v] : Array Value) = xa
  generalize (#[.int .u32 y.s, .int .u32 y.v, .int .u8 y.rq.c, .int .u32 y.rq.t, .int .u8 y.rq.k, .int .u8 y.rq.y, .int .u16 y.rq.v] : Array Value) = ya
  by_cases h : x.s = y.s
  · have d : (x.s == y.s) = true := by simp [h]
    have HE := Lib.hid h
    clear h
    unfold textGt at HR
    generalize (⟨x.rq.text.toArray⟩ : ByteArray) = ta at *
    generalize (⟨y.rq.text.toArray⟩ : ByteArray) = tb at *
    generalize x.rq.cells.toArray = ra at *
    generalize y.rq.cells.toArray = rb at *
    generalize hg : w.heap.size = g at *
    go_upto_region 3 with fail
    generalize Value.bool (x.s != y.s) = u9
    refine wp_region_held_drew (S := fun w' => Below W.heap.size W w') (by kernel_rfl) hW0.drew (fun hS => ?_)
    refine tg 0 (.pointer (some ⟨g, 2, none⟩)) rfl hS ?_
    refine tk 1 (.agg ra) rfl (yi_load 27 (.tmp 15) _ rfl rfl rfl LA.out) hS ?_
    refine tg 3 (.pointer (some ⟨g + 1, 2, none⟩)) rfl hS ?_
    refine tk 4 (.agg rb) rfl (yi_load 27 (.tmp 18) _ rfl rfl rfl LB.out) hS ?_
    refine rdy1 2 rfl (fun K hK => ?_)
    rw [if_pos (by rfl)]
    go_simp
    refine Calls.mono (CA.out _ hS) ?_
    rintro e w2 ⟨rfl, hb⟩
    refine hK.out _ w2 (Below.up hS hb) (fun hS => ?_)
    clear hK K hb
    refine rdy1 5 rfl (fun K hK => ?_)
    rw [if_pos (by rfl)]
    go_simp
    refine Calls.mono (CB.out _ hS) ?_
    rintro e w3 ⟨rfl, hb⟩
    refine hK.out _ w3 (Below.up hS hb) (fun hS => ?_)
    clear hK K hb
    refine tg 6 (.bool (!(Op.bytesLess ta.toList tb.toList || ta.toList == tb.toList))) rfl hS ?_
    refine tm 7 (.bool (!(Op.bytesLess ta.toList tb.toList || ta.toList == tb.toList))) rfl hS ?_
    refine wpAnyH_done (by kernel_rfl) ?_ _
    go_wp2_with fail
    go_ret
    refine ⟨?_, by rw [hg]; exact HWB.out.trans (hS.mono (by rw [HWS.out]; omega))⟩
    rw [HR.out, if_pos HE.out]; rfl
  · have d : (x.s == y.s) = false := by simp [h]
    have HE := Lib.hid h
    clear h
    by_cases h2 : x.s > y.s <;>
    · have H2 := Lib.hid h2
      go_wp2_with fail
      go_ret
      refine ⟨?_, HWB.out⟩
      rw [HR.out, if_neg HE.out]; have := H2.out; simp; omega

theorem en_load {w' : World} {b o : Nat} {x : En} (G : ∀ i u, x.cells[i]? = some u → w'.cell? ⟨b, o + i, none⟩ = some u) : (Instr.loadAt 80 (.pointer (some ⟨b, o, none⟩))).run Tryz.prog w' = .ok (.agg x.cells.toArray) w' := by
  have q0 : w'.cell? ⟨b, o, none⟩ = some (.int .u32 x.s) := G 0 _ rfl
  have q1 : w'.cell? ⟨b, o + 1, none⟩ = some (.int .u32 x.v) := G 1 _ rfl
  have q2 : w'.cell? ⟨b, o + 2, none⟩ = some (.int .u8 x.rq.c) := G 2 _ rfl
  have q3 : w'.cell? ⟨b, o + 3, none⟩ = some (.int .u32 x.rq.t) := G 3 _ rfl
  have q4 : w'.cell? ⟨b, o + 4, none⟩ = some (.int .u8 x.rq.k) := G 4 _ rfl
  have q5 : w'.cell? ⟨b, o + 5, none⟩ = some (.int .u8 x.rq.y) := G 5 _ rfl
  have q6 : w'.cell? ⟨b, o + 6, none⟩ = some (.int .u16 x.rq.v) := G 6 _ rfl
  have a49 := Tryz.isAgg80; have z49 := Tryz.sizeOf80; have u49 := Tryz.underlying80
  simp only [En.cells]
  go_simp

set_option maxHeartbeats 4000000 in
theorem areEntries49 (w : World) (v : Sl) (xs : List En) (h1 : Row w 7 En.cells v.val xs) :
    Calls Tryz.prog 45 #[.slice v.a v.n v.c, .func (.func 46) #[] #[]] w fun e w' => e = .returned (.bool (upB enOk enAb xs)) ∧ Below w.heap.size w w' := by
  obtain ⟨a1, c1, q1, -, -, hn1, hr1⟩ := h1
  simp only [Sl.val] at q1
  rw [q1]
  clear q1
  have H1 := Lib.hid hr1
  have CAB : Hid (∀ w' x y, Below w.heap.size w w' → x ∈ xs → y ∈ xs → Calls Tryz.prog 46 #[.agg x.cells.toArray, .agg y.cells.toArray] w' fun e w2 => e = .returned (.bool (enAb x y)) ∧ Below w'.heap.size w' w2) := Lib.hid (fun w' x y hb hx hy => bySeq_any x y w')
  clear hr1
  obtain ⟨r, hr⟩ : ∃ r, r = upB enOk enAb xs := ⟨_, rfl⟩
  rw [← hr]
  have HR := Lib.hid hr
  clear hr
  by_cases h40 : xs.length ≤ 40
  · generalize hn : xs.length = n at *
    have HN := Lib.hid hn
    have h40' : ¬ (n : Int) > 40 := by omega
    clear hn
    go_enter Tryz.func45, Tryz.ntmps45
    go_wp2_with fail
    go_loopw [12] (fun vi wr => ∃ j : Nat, j ≤ n ∧ vi = .int .i64 j ∧ Hid (Below w.heap.size w wr) ∧ Hid (∀ i, i < j → stepB enOk enAb xs i = true)) (fun i _ => n - (intOf i).toNat)
    case atStart => exact ⟨0, by omega, rfl, Lib.hid (Below.refl _ _), Lib.hid (fun i h => by omega)⟩
    case round =>
      obtain ⟨j, hj, rfl, HB, A⟩ := hrel
      by_cases hlt : j < n
      · obtain ⟨x, hx⟩ : ∃ x, xs[j]? = some x := ⟨_, List.getElem?_eq_getElem (by rw [HN.out]; exact hlt)⟩
        obtain ⟨b1, o1, e1, g1⟩ := H1.out j x hx
        have G : ∀ i u, x.cells[i]? = some u → wr.cell? ⟨b1, o1 + j * 7 + i, none⟩ = some u := fun i u hu => by
          have h3 := g1 i u hu
          rw [HB.out.cell (cell_block h3)]; exact h3
        have l10 : wr.cell? ⟨b1, o1 + j * 7, none⟩ = some (.int .u32 x.s) := G 0 _ rfl
        have l11 : wr.cell? ⟨b1, o1 + j * 7 + 1, none⟩ = some (.int .u32 x.v) := G 1 _ rfl
        have l12 : wr.cell? ⟨b1, o1 + j * 7 + 2, none⟩ = some (.int .u8 x.rq.c) := G 2 _ rfl
        have l13 : wr.cell? ⟨b1, o1 + j * 7 + 3, none⟩ = some (.int .u32 x.rq.t) := G 3 _ rfl
        have l14 : wr.cell? ⟨b1, o1 + j * 7 + 4, none⟩ = some (.int .u8 x.rq.k) := G 4 _ rfl
        have l15 : wr.cell? ⟨b1, o1 + j * 7 + 5, none⟩ = some (.int .u8 x.rq.y) := G 5 _ rfl
        have l16 : wr.cell? ⟨b1, o1 + j * 7 + 6, none⟩ = some (.int .u16 x.rq.v) := G 6 _ rfl
        have HX := Lib.hid hx
        have CI := Lib.hid (isEntry_any x)
        generalize hs : enOk x = sb at CI
        have HS := Lib.hid hs
        have HNEW := Lib.hid (fun o => HB.out.alloc HB.out.size o)
        clear hx g1 G hs
        subst e1
        go_upto_region 6 with fail
        obtain ⟨W, hW⟩ : ∃ W, W = wr.alloc (.cells x.cells.toArray 80) := ⟨_, rfl⟩
        have hBW : Below w.heap.size w W := by rw [hW]; exact HNEW.out _
        have hWn : W.heap[wr.heap.size]? = some (.cells x.cells.toArray 80 (0, 0)) := by rw [hW]; exact heap_alloc_new _ _
        have hW0 := Below.refl W.heap.size W
        have fx : ∀ w', Below W.heap.size W w' → w'.heap[wr.heap.size]? = some (.cells x.cells.toArray 80 (0, 0)) := fun w' h => (h.block _ (lt_of_block hWn)).trans hWn
        have LX := Lib.hid (fun w' (h : Below W.heap.size W w') => en_load (w' := w') (b := wr.heap.size) (o := 0) (x := x) (fun i u hu => by rw [cell_of_row _ _ _ _ _ _ (fx w' h)]; simpa using hu))
        have HBW := Lib.hid hBW
        simp only [En.cells] at hW
        rw [← hW]
        clear hW l10 l11 l12 l13 l14 l15 l16 HNEW hBW hWn fx
        have eA : (#[.int .u32 x.s, .int .u32 x.v, .int .u8 x.rq.c, .int .u32 x.rq.t, .int .u8 x.rq.k, .int .u8 x.rq.y, .int .u16 x.rq.v] : Array Value) = x.cells.toArray := rfl
        rw [eA]
        clear eA
        generalize hgs : wr.heap.size = g at *
        have HENDB := Lib.hid (fun w' (h : Below W.heap.size W w') => HBW.out.trans (h.mono HBW.out.size))
        cases sb
        · generalize x.cells.toArray = xa at *
          refine wp_region_held_drew (S := fun w' => Below W.heap.size W w') (by kernel_rfl) hW0.drew (fun hS => ?_)
          refine tk 0 (.agg xa) rfl (yi_load 80 (.tmp 6) _ rfl rfl rfl LX.out) hS ?_
          refine rdy1 1 rfl (fun K hK => ?_)
          rw [if_pos (by rfl)]
          go_simp
          refine Calls.mono (CI.out _) ?_
          rintro e w2 ⟨rfl, hb⟩
          refine hK.out _ w2 (Below.up hS hb) (fun hS => ?_)
          clear hK K hb
          refine tm 2 (.bool true) rfl hS ?_
          refine tm 3 (.bool true) rfl hS ?_
          refine tn 4 rfl hS ?_
          refine tn 5 rfl hS ?_
          refine tn 6 rfl hS ?_
          refine tn 7 rfl hS ?_
          refine tn 8 rfl hS ?_
          refine tn 9 rfl hS ?_
          refine tn 10 rfl hS ?_
          refine tn 11 rfl hS ?_
          refine tn 12 rfl hS ?_
          refine tn 13 rfl hS ?_
          refine tn 14 rfl hS ?_
          refine tn 15 rfl hS ?_
          refine tn 16 rfl hS ?_
          refine tm 17 (.bool true) rfl hS ?_
          refine wpAnyH_done (by kernel_rfl) ?_ _
          go_wp2_with fail
          go_ret
          refine ⟨?_, HENDB.out _ hS⟩
          rw [HR.out, upB_false (by rw [HN.out]; exact hlt) (stepB_not HX.out HS.out)]; rfl
        · rcases Nat.eq_zero_or_pos j with h0 | h0
          · subst h0
            generalize x.cells.toArray = xa at *
            refine wp_region_held_drew (S := fun w' => Below W.heap.size W w') (by kernel_rfl) hW0.drew (fun hS => ?_)
            refine tk 0 (.agg xa) rfl (yi_load 80 (.tmp 6) _ rfl rfl rfl LX.out) hS ?_
            refine rdy1 1 rfl (fun K hK => ?_)
            rw [if_pos (by rfl)]
            go_simp
            refine Calls.mono (CI.out _) ?_
            rintro e w2 ⟨rfl, hb⟩
            refine hK.out _ w2 (Below.up hS hb) (fun hS => ?_)
            clear hK K hb
            refine tm 2 (.bool false) rfl hS ?_
            refine tm 3 (.bool false) rfl hS ?_
            refine tm 4 (.int .i64 0) rfl hS ?_
            refine tg 5 (.bool false) rfl hS ?_
            refine tm 6 (.bool false) rfl hS ?_
            refine tn 7 rfl hS ?_
            refine tn 8 rfl hS ?_
            refine tn 9 rfl hS ?_
            refine tn 10 rfl hS ?_
            refine tn 11 rfl hS ?_
            refine tn 12 rfl hS ?_
            refine tn 13 rfl hS ?_
            refine tn 14 rfl hS ?_
            refine tn 15 rfl hS ?_
            refine tm 16 (.bool false) rfl hS ?_
            refine tm 17 (.bool false) rfl hS ?_
            refine wpAnyH_done (by kernel_rfl) ?_ _
            go_wp2_with fail
            go_round
            case measure => simp [intOf]; omega
            case rel =>
              refine ⟨1, by omega, by go_num, Lib.hid (HENDB.out _ hS), Lib.hid (fun i hi => ?_)⟩
              obtain rfl : i = 0 := by omega
              rw [stepB_zero HX.out]; exact HS.out
          · obtain ⟨i, rfl⟩ : ∃ i, j = i + 1 := ⟨j - 1, by omega⟩
            obtain ⟨y, hy⟩ : ∃ y, xs[i]? = some y := ⟨_, List.getElem?_eq_getElem (by rw [HN.out]; omega)⟩
            have LY := Lib.hid (fun w' (h : Below W.heap.size W w') => en_load (w' := w') (b := b1) (o := o1 + i * 7) (x := y) (fun k u hu => by
              obtain ⟨b2, o2, e2, g2⟩ := H1.out i y hy
              injection e2 with e2; injection e2 with e3 e4; subst e3; subst e4
              have h3 := g2 k u hu
              rw [(HENDB.out w' h).cell (cell_block h3)]; exact h3))
            have CA := Lib.hid (fun w' (h : Below W.heap.size W w') => CAB.out w' x y (HENDB.out w' h) (List.mem_of_getElem? HX.out) (List.mem_of_getElem? hy))
            have HY := Lib.hid hy
            clear hy
            generalize hab : enAb x y = ab at CA
            have HAB := Lib.hid hab
            clear hab
            generalize x.cells.toArray = xa at *
            generalize y.cells.toArray = ya at *
            have hi0 : (0 : Int) < ((i + 1 : Nat) : Int) := by omega
            have hin : (i : Int) < (n : Int) := by omega
            have HWR := Lib.hid (show IntKind.i64.wrap (i : Int) = i by simp [IntKind.wrap, IntKind.signed, IntKind.bits]; omega)
            cases ab
            · have e : stepB enOk enAb xs (i + 1) = false := by rw [stepB_succ HX.out HY.out, HAB.out]; simp
              have HE := Lib.hid e
              clear e
              refine wp_region_held_drew (S := fun w' => Below W.heap.size W w') (by kernel_rfl) hW0.drew (fun hS => ?_)
              refine tk 0 (.agg xa) rfl (yi_load 80 (.tmp 6) _ rfl rfl rfl LX.out) hS ?_
              refine rdy1 1 rfl (fun K hK => ?_)
              rw [if_pos (by rfl)]
              go_simp
              refine Calls.mono (CI.out _) ?_
              rintro e w2 ⟨rfl, hb⟩
              refine hK.out _ w2 (Below.up hS hb) (fun hS => ?_)
              clear hK K hb
              refine tm 2 (.bool false) rfl hS ?_
              refine tm 3 (.bool false) rfl hS ?_
              refine tm 4 (.int .i64 (↑i + 1)) rfl hS ?_
              refine tg 5 (.bool true) rfl hS ?_
              refine tm 6 (.bool true) rfl hS ?_
              refine tm 7 (.func (.func 46) #[] #[]) rfl hS ?_
              refine tk 8 (.agg xa) rfl (yi_load 80 (.tmp 6) _ rfl rfl rfl LX.out) hS ?_
              refine tm 9 (.slice (some ⟨b1, o1, none⟩) n c1) rfl hS ?_
              refine tm 10 (.int .i64 (↑i + 1)) rfl hS ?_
              refine tk 11 (.int .i64 ↑i) rfl (.inl ⟨rfl, fun w' _ => by go_simp; exact HWR.out⟩) hS ?_
              refine tg 12 (.pointer (some ⟨b1, o1 + i * 7, none⟩)) rfl hS ?_
              refine tk 13 (.agg ya) rfl (yi_load 80 (.tmp 29) _ rfl rfl rfl LY.out) hS ?_
              refine rdy1 14 rfl (fun K hK => ?_)
              rw [if_pos (by rfl)]
              go_simp
              refine Calls.mono (CA.out _ hS) ?_
              rintro e w3 ⟨rfl, hb⟩
              refine hK.out _ w3 (Below.up hS hb) (fun hS => ?_)
              clear hK K hb
              refine tm 15 (.bool true) rfl hS ?_
              refine tm 16 (.bool true) rfl hS ?_
              refine tm 17 (.bool true) rfl hS ?_
              refine wpAnyH_done (by kernel_rfl) ?_ _
              go_wp2_with fail
              go_ret
              refine ⟨?_, HENDB.out _ hS⟩
              rw [HR.out, upB_false (by rw [HN.out]; exact hlt) HE.out]; rfl
            · have e : stepB enOk enAb xs (i + 1) = true := by rw [stepB_succ HX.out HY.out, HAB.out, HS.out]; rfl
              have HE := Lib.hid e
              clear e
              refine wp_region_held_drew (S := fun w' => Below W.heap.size W w') (by kernel_rfl) hW0.drew (fun hS => ?_)
              refine tk 0 (.agg xa) rfl (yi_load 80 (.tmp 6) _ rfl rfl rfl LX.out) hS ?_
              refine rdy1 1 rfl (fun K hK => ?_)
              rw [if_pos (by rfl)]
              go_simp
              refine Calls.mono (CI.out _) ?_
              rintro e w2 ⟨rfl, hb⟩
              refine hK.out _ w2 (Below.up hS hb) (fun hS => ?_)
              clear hK K hb
              refine tm 2 (.bool false) rfl hS ?_
              refine tm 3 (.bool false) rfl hS ?_
              refine tm 4 (.int .i64 (↑i + 1)) rfl hS ?_
              refine tg 5 (.bool true) rfl hS ?_
              refine tm 6 (.bool true) rfl hS ?_
              refine tm 7 (.func (.func 46) #[] #[]) rfl hS ?_
              refine tk 8 (.agg xa) rfl (yi_load 80 (.tmp 6) _ rfl rfl rfl LX.out) hS ?_
              refine tm 9 (.slice (some ⟨b1, o1, none⟩) n c1) rfl hS ?_
              refine tm 10 (.int .i64 (↑i + 1)) rfl hS ?_
              refine tk 11 (.int .i64 ↑i) rfl (.inl ⟨rfl, fun w' _ => by go_simp; exact HWR.out⟩) hS ?_
              refine tg 12 (.pointer (some ⟨b1, o1 + i * 7, none⟩)) rfl hS ?_
              refine tk 13 (.agg ya) rfl (yi_load 80 (.tmp 29) _ rfl rfl rfl LY.out) hS ?_
              refine rdy1 14 rfl (fun K hK => ?_)
              rw [if_pos (by rfl)]
              go_simp
              refine Calls.mono (CA.out _ hS) ?_
              rintro e w3 ⟨rfl, hb⟩
              refine hK.out _ w3 (Below.up hS hb) (fun hS => ?_)
              clear hK K hb
              refine tm 15 (.bool false) rfl hS ?_
              refine tm 16 (.bool false) rfl hS ?_
              refine tm 17 (.bool false) rfl hS ?_
              refine wpAnyH_done (by kernel_rfl) ?_ _
              go_wp2_with fail
              go_round
              case measure => simp [intOf]; omega
              case rel =>
                refine ⟨i + 2, by omega, by go_num, Lib.hid (HENDB.out _ hS), Lib.hid (fun k hk => ?_)⟩
                by_cases e : k = i + 1
                · subst e; exact HE.out
                · exact A.out k (by omega)
      · obtain rfl : j = n := by omega
        go_wp2_with fail
        go_ret
        refine ⟨?_, HB.out⟩
        rw [HR.out, upB_true (by rw [HN.out]; exact h40) (by rw [HN.out]; exact A.out)]; rfl
  · have HL := Lib.hid (upB_long (ok := enOk) (ab := enAb) h40)
    generalize hn : xs.length = n at *
    have h40' : (n : Int) > 40 := by omega
    clear hn
    go_enter Tryz.func45, Tryz.ntmps45
    go_wp2_with fail
    go_ret
    exact ⟨by rw [HR.out, HL.out]; rfl, Below.refl _ _⟩

set_option maxHeartbeats 4000000 in
theorem areEntries50 (w : World) (v : Sl) (xs : List En) (h1 : Row w 7 En.cells v.val xs) (hok : ∀ x ∈ xs, x.rq.ok) (ht : Tab w) :
    Calls Tryz.prog 45 #[.slice v.a v.n v.c, .func (.func 47) #[] #[]] w fun e w' => e = .returned (.bool (upB enOk enAt xs)) ∧ Below w.heap.size w w' := by
  obtain ⟨a1, c1, q1, -, -, hn1, hr1⟩ := h1
  simp only [Sl.val] at q1
  rw [q1]
  clear q1
  have H1 := Lib.hid hr1
  have CAB : Hid (∀ w' x y, Below w.heap.size w w' → x ∈ xs → y ∈ xs → Calls Tryz.prog 47 #[.agg x.cells.toArray, .agg y.cells.toArray] w' fun e w2 => e = .returned (.bool (enAt x y)) ∧ Below w'.heap.size w' w2) := Lib.hid (fun w' x y hb hx hy => bySeqAndText_any x y (hok x hx) (hok y hy) w' (Tab.on ht hb))
  clear hr1 hok ht
  obtain ⟨r, hr⟩ : ∃ r, r = upB enOk enAt xs := ⟨_, rfl⟩
  rw [← hr]
  have HR := Lib.hid hr
  clear hr
  by_cases h40 : xs.length ≤ 40
  · generalize hn : xs.length = n at *
    have HN := Lib.hid hn
    have h40' : ¬ (n : Int) > 40 := by omega
    clear hn
    go_enter Tryz.func45, Tryz.ntmps45
    go_wp2_with fail
    go_loopw [12] (fun vi wr => ∃ j : Nat, j ≤ n ∧ vi = .int .i64 j ∧ Hid (Below w.heap.size w wr) ∧ Hid (∀ i, i < j → stepB enOk enAt xs i = true)) (fun i _ => n - (intOf i).toNat)
    case atStart => exact ⟨0, by omega, rfl, Lib.hid (Below.refl _ _), Lib.hid (fun i h => by omega)⟩
    case round =>
      obtain ⟨j, hj, rfl, HB, A⟩ := hrel
      by_cases hlt : j < n
      · obtain ⟨x, hx⟩ : ∃ x, xs[j]? = some x := ⟨_, List.getElem?_eq_getElem (by rw [HN.out]; exact hlt)⟩
        obtain ⟨b1, o1, e1, g1⟩ := H1.out j x hx
        have G : ∀ i u, x.cells[i]? = some u → wr.cell? ⟨b1, o1 + j * 7 + i, none⟩ = some u := fun i u hu => by
          have h3 := g1 i u hu
          rw [HB.out.cell (cell_block h3)]; exact h3
        have l10 : wr.cell? ⟨b1, o1 + j * 7, none⟩ = some (.int .u32 x.s) := G 0 _ rfl
        have l11 : wr.cell? ⟨b1, o1 + j * 7 + 1, none⟩ = some (.int .u32 x.v) := G 1 _ rfl
        have l12 : wr.cell? ⟨b1, o1 + j * 7 + 2, none⟩ = some (.int .u8 x.rq.c) := G 2 _ rfl
        have l13 : wr.cell? ⟨b1, o1 + j * 7 + 3, none⟩ = some (.int .u32 x.rq.t) := G 3 _ rfl
        have l14 : wr.cell? ⟨b1, o1 + j * 7 + 4, none⟩ = some (.int .u8 x.rq.k) := G 4 _ rfl
        have l15 : wr.cell? ⟨b1, o1 + j * 7 + 5, none⟩ = some (.int .u8 x.rq.y) := G 5 _ rfl
        have l16 : wr.cell? ⟨b1, o1 + j * 7 + 6, none⟩ = some (.int .u16 x.rq.v) := G 6 _ rfl
        have HX := Lib.hid hx
        have CI := Lib.hid (isEntry_any x)
        generalize hs : enOk x = sb at CI
        have HS := Lib.hid hs
        have HNEW := Lib.hid (fun o => HB.out.alloc HB.out.size o)
        clear hx g1 G hs
        subst e1
        go_upto_region 6 with fail
        obtain ⟨W, hW⟩ : ∃ W, W = wr.alloc (.cells x.cells.toArray 80) := ⟨_, rfl⟩
        have hBW : Below w.heap.size w W := by rw [hW]; exact HNEW.out _
        have hWn : W.heap[wr.heap.size]? = some (.cells x.cells.toArray 80 (0, 0)) := by rw [hW]; exact heap_alloc_new _ _
        have hW0 := Below.refl W.heap.size W
        have fx : ∀ w', Below W.heap.size W w' → w'.heap[wr.heap.size]? = some (.cells x.cells.toArray 80 (0, 0)) := fun w' h => (h.block _ (lt_of_block hWn)).trans hWn
        have LX := Lib.hid (fun w' (h : Below W.heap.size W w') => en_load (w' := w') (b := wr.heap.size) (o := 0) (x := x) (fun i u hu => by rw [cell_of_row _ _ _ _ _ _ (fx w' h)]; simpa using hu))
        have HBW := Lib.hid hBW
        simp only [En.cells] at hW
        rw [← hW]
        clear hW l10 l11 l12 l13 l14 l15 l16 HNEW hBW hWn fx
        have eA : (#[.int .u32 x.s, .int .u32 x.v, .int .u8 x.rq.c, .int .u32 x.rq.t, .int .u8 x.rq.k, .int .u8 x.rq.y, .int .u16 x.rq.v] : Array Value) = x.cells.toArray := rfl
        rw [eA]
        clear eA
        generalize hgs : wr.heap.size = g at *
        have HENDB := Lib.hid (fun w' (h : Below W.heap.size W w') => HBW.out.trans (h.mono HBW.out.size))
        cases sb
        · generalize x.cells.toArray = xa at *
          refine wp_region_held_drew (S := fun w' => Below W.heap.size W w') (by kernel_rfl) hW0.drew (fun hS => ?_)
          refine tk 0 (.agg xa) rfl (yi_load 80 (.tmp 6) _ rfl rfl rfl LX.out) hS ?_
          refine rdy1 1 rfl (fun K hK => ?_)
          rw [if_pos (by rfl)]
          go_simp
          refine Calls.mono (CI.out _) ?_
          rintro e w2 ⟨rfl, hb⟩
          refine hK.out _ w2 (Below.up hS hb) (fun hS => ?_)
          clear hK K hb
          refine tm 2 (.bool true) rfl hS ?_
          refine tm 3 (.bool true) rfl hS ?_
          refine tn 4 rfl hS ?_
          refine tn 5 rfl hS ?_
          refine tn 6 rfl hS ?_
          refine tn 7 rfl hS ?_
          refine tn 8 rfl hS ?_
          refine tn 9 rfl hS ?_
          refine tn 10 rfl hS ?_
          refine tn 11 rfl hS ?_
          refine tn 12 rfl hS ?_
          refine tn 13 rfl hS ?_
          refine tn 14 rfl hS ?_
          refine tn 15 rfl hS ?_
          refine tn 16 rfl hS ?_
          refine tm 17 (.bool true) rfl hS ?_
          refine wpAnyH_done (by kernel_rfl) ?_ _
          go_wp2_with fail
          go_ret
          refine ⟨?_, HENDB.out _ hS⟩
          rw [HR.out, upB_false (by rw [HN.out]; exact hlt) (stepB_not HX.out HS.out)]; rfl
        · rcases Nat.eq_zero_or_pos j with h0 | h0
          · subst h0
            generalize x.cells.toArray = xa at *
            refine wp_region_held_drew (S := fun w' => Below W.heap.size W w') (by kernel_rfl) hW0.drew (fun hS => ?_)
            refine tk 0 (.agg xa) rfl (yi_load 80 (.tmp 6) _ rfl rfl rfl LX.out) hS ?_
            refine rdy1 1 rfl (fun K hK => ?_)
            rw [if_pos (by rfl)]
            go_simp
            refine Calls.mono (CI.out _) ?_
            rintro e w2 ⟨rfl, hb⟩
            refine hK.out _ w2 (Below.up hS hb) (fun hS => ?_)
            clear hK K hb
            refine tm 2 (.bool false) rfl hS ?_
            refine tm 3 (.bool false) rfl hS ?_
            refine tm 4 (.int .i64 0) rfl hS ?_
            refine tg 5 (.bool false) rfl hS ?_
            refine tm 6 (.bool false) rfl hS ?_
            refine tn 7 rfl hS ?_
            refine tn 8 rfl hS ?_
            refine tn 9 rfl hS ?_
            refine tn 10 rfl hS ?_
            refine tn 11 rfl hS ?_
            refine tn 12 rfl hS ?_
            refine tn 13 rfl hS ?_
            refine tn 14 rfl hS ?_
            refine tn 15 rfl hS ?_
            refine tm 16 (.bool false) rfl hS ?_
            refine tm 17 (.bool false) rfl hS ?_
            refine wpAnyH_done (by kernel_rfl) ?_ _
            go_wp2_with fail
            go_round
            case measure => simp [intOf]; omega
            case rel =>
              refine ⟨1, by omega, by go_num, Lib.hid (HENDB.out _ hS), Lib.hid (fun i hi => ?_)⟩
              obtain rfl : i = 0 := by omega
              rw [stepB_zero HX.out]; exact HS.out
          · obtain ⟨i, rfl⟩ : ∃ i, j = i + 1 := ⟨j - 1, by omega⟩
            obtain ⟨y, hy⟩ : ∃ y, xs[i]? = some y := ⟨_, List.getElem?_eq_getElem (by rw [HN.out]; omega)⟩
            have LY := Lib.hid (fun w' (h : Below W.heap.size W w') => en_load (w' := w') (b := b1) (o := o1 + i * 7) (x := y) (fun k u hu => by
              obtain ⟨b2, o2, e2, g2⟩ := H1.out i y hy
              injection e2 with e2; injection e2 with e3 e4; subst e3; subst e4
              have h3 := g2 k u hu
              rw [(HENDB.out w' h).cell (cell_block h3)]; exact h3))
            have CA := Lib.hid (fun w' (h : Below W.heap.size W w') => CAB.out w' x y (HENDB.out w' h) (List.mem_of_getElem? HX.out) (List.mem_of_getElem? hy))
            have HY := Lib.hid hy
            clear hy
            generalize hab : enAt x y = ab at CA
            have HAB := Lib.hid hab
            clear hab
            generalize x.cells.toArray = xa at *
            generalize y.cells.toArray = ya at *
            have hi0 : (0 : Int) < ((i + 1 : Nat) : Int) := by omega
            have hin : (i : Int) < (n : Int) := by omega
            have HWR := Lib.hid (show IntKind.i64.wrap (i : Int) = i by simp [IntKind.wrap, IntKind.signed, IntKind.bits]; omega)
            cases ab
            · have e : stepB enOk enAt xs (i + 1) = false := by rw [stepB_succ HX.out HY.out, HAB.out]; simp
              have HE := Lib.hid e
              clear e
              refine wp_region_held_drew (S := fun w' => Below W.heap.size W w') (by kernel_rfl) hW0.drew (fun hS => ?_)
              refine tk 0 (.agg xa) rfl (yi_load 80 (.tmp 6) _ rfl rfl rfl LX.out) hS ?_
              refine rdy1 1 rfl (fun K hK => ?_)
              rw [if_pos (by rfl)]
              go_simp
              refine Calls.mono (CI.out _) ?_
              rintro e w2 ⟨rfl, hb⟩
              refine hK.out _ w2 (Below.up hS hb) (fun hS => ?_)
              clear hK K hb
              refine tm 2 (.bool false) rfl hS ?_
              refine tm 3 (.bool false) rfl hS ?_
              refine tm 4 (.int .i64 (↑i + 1)) rfl hS ?_
              refine tg 5 (.bool true) rfl hS ?_
              refine tm 6 (.bool true) rfl hS ?_
              refine tm 7 (.func (.func 47) #[] #[]) rfl hS ?_
              refine tk 8 (.agg xa) rfl (yi_load 80 (.tmp 6) _ rfl rfl rfl LX.out) hS ?_
              refine tm 9 (.slice (some ⟨b1, o1, none⟩) n c1) rfl hS ?_
              refine tm 10 (.int .i64 (↑i + 1)) rfl hS ?_
              refine tk 11 (.int .i64 ↑i) rfl (.inl ⟨rfl, fun w' _ => by go_simp; exact HWR.out⟩) hS ?_
              refine tg 12 (.pointer (some ⟨b1, o1 + i * 7, none⟩)) rfl hS ?_
              refine tk 13 (.agg ya) rfl (yi_load 80 (.tmp 29) _ rfl rfl rfl LY.out) hS ?_
              refine rdy1 14 rfl (fun K hK => ?_)
              rw [if_pos (by rfl)]
              go_simp
              refine Calls.mono (CA.out _ hS) ?_
              rintro e w3 ⟨rfl, hb⟩
              refine hK.out _ w3 (Below.up hS hb) (fun hS => ?_)
              clear hK K hb
              refine tm 15 (.bool true) rfl hS ?_
              refine tm 16 (.bool true) rfl hS ?_
              refine tm 17 (.bool true) rfl hS ?_
              refine wpAnyH_done (by kernel_rfl) ?_ _
              go_wp2_with fail
              go_ret
              refine ⟨?_, HENDB.out _ hS⟩
              rw [HR.out, upB_false (by rw [HN.out]; exact hlt) HE.out]; rfl
            · have e : stepB enOk enAt xs (i + 1) = true := by rw [stepB_succ HX.out HY.out, HAB.out, HS.out]; rfl
              have HE := Lib.hid e
              clear e
              refine wp_region_held_drew (S := fun w' => Below W.heap.size W w') (by kernel_rfl) hW0.drew (fun hS => ?_)
              refine tk 0 (.agg xa) rfl (yi_load 80 (.tmp 6) _ rfl rfl rfl LX.out) hS ?_
              refine rdy1 1 rfl (fun K hK => ?_)
              rw [if_pos (by rfl)]
              go_simp
              refine Calls.mono (CI.out _) ?_
              rintro e w2 ⟨rfl, hb⟩
              refine hK.out _ w2 (Below.up hS hb) (fun hS => ?_)
              clear hK K hb
              refine tm 2 (.bool false) rfl hS ?_
              refine tm 3 (.bool false) rfl hS ?_
              refine tm 4 (.int .i64 (↑i + 1)) rfl hS ?_
              refine tg 5 (.bool true) rfl hS ?_
              refine tm 6 (.bool true) rfl hS ?_
              refine tm 7 (.func (.func 47) #[] #[]) rfl hS ?_
              refine tk 8 (.agg xa) rfl (yi_load 80 (.tmp 6) _ rfl rfl rfl LX.out) hS ?_
              refine tm 9 (.slice (some ⟨b1, o1, none⟩) n c1) rfl hS ?_
              refine tm 10 (.int .i64 (↑i + 1)) rfl hS ?_
              refine tk 11 (.int .i64 ↑i) rfl (.inl ⟨rfl, fun w' _ => by go_simp; exact HWR.out⟩) hS ?_
              refine tg 12 (.pointer (some ⟨b1, o1 + i * 7, none⟩)) rfl hS ?_
              refine tk 13 (.agg ya) rfl (yi_load 80 (.tmp 29) _ rfl rfl rfl LY.out) hS ?_
              refine rdy1 14 rfl (fun K hK => ?_)
              rw [if_pos (by rfl)]
              go_simp
              refine Calls.mono (CA.out _ hS) ?_
              rintro e w3 ⟨rfl, hb⟩
              refine hK.out _ w3 (Below.up hS hb) (fun hS => ?_)
              clear hK K hb
              refine tm 15 (.bool false) rfl hS ?_
              refine tm 16 (.bool false) rfl hS ?_
              refine tm 17 (.bool false) rfl hS ?_
              refine wpAnyH_done (by kernel_rfl) ?_ _
              go_wp2_with fail
              go_round
              case measure => simp [intOf]; omega
              case rel =>
                refine ⟨i + 2, by omega, by go_num, Lib.hid (HENDB.out _ hS), Lib.hid (fun k hk => ?_)⟩
                by_cases e : k = i + 1
                · subst e; exact HE.out
                · exact A.out k (by omega)
      · obtain rfl : j = n := by omega
        go_wp2_with fail
        go_ret
        refine ⟨?_, HB.out⟩
        rw [HR.out, upB_true (by rw [HN.out]; exact h40) (by rw [HN.out]; exact A.out)]; rfl
  · have HL := Lib.hid (upB_long (ok := enOk) (ab := enAt) h40)
    generalize hn : xs.length = n at *
    have h40' : (n : Int) > 40 := by omega
    clear hn
    go_enter Tryz.func45, Tryz.ntmps45
    go_wp2_with fail
    go_ret
    exact ⟨by rw [HR.out, HL.out]; rfl, Below.refl _ _⟩

/-- P3.1: a vote -/
def voteB (v : Vt) (c : Vc) : Bool := isRp v.f && (isEp v.e && (isNv v.vw && (isSq v.lo && (upB mkOk mkAb c.ms && (upB enOk enAb c.p && upB enOk enAt c.q)))))
/-- the requests of its lists are in range -/
def VcOk (c : Vc) : Prop := (∀ x ∈ c.p, x.rq.ok) ∧ ∀ x ∈ c.q, x.rq.ok

set_option maxHeartbeats 4000000 in
theorem isVote_any (w : World) (v : Vt) (c : Vc) (hv : VtAt w v c) (hok : VcOk c) (ht : Tab w) :
    Calls Tryz.prog 14 #[.agg v.cells.toArray] w fun e w' => e = .returned (.bool (voteB v c)) ∧ Below w.heap.size w w' := by
  obtain ⟨r, hr⟩ : ∃ r, r = voteB v c := ⟨_, rfl⟩
  rw [← hr]
  unfold voteB at hr
  obtain ⟨W, hW⟩ : ∃ W, W = w.alloc (.cells v.cells.toArray 32) := ⟨_, rfl⟩
  have hbl := bl1 hW
  have hWs : W.heap.size = w.heap.size + 1 := by rw [hW]; simp
  have q0 : W.cell? ⟨w.heap.size, 0, none⟩ = some (.int .u8 v.f) := by rw [hW]; simp [Vt.cells]
  have q1 : W.cell? ⟨w.heap.size, 1, none⟩ = some (.int .u8 v.e) := by rw [hW]; simp [Vt.cells]
  have q2 : W.cell? ⟨w.heap.size, 2, none⟩ = some (.int .u32 v.vw) := by rw [hW]; simp [Vt.cells]
  have q3 : W.cell? ⟨w.heap.size, 3, none⟩ = some (.int .u32 v.lo) := by rw [hW]; simp [Vt.cells]
  have q4 : W.cell? ⟨w.heap.size, 4, none⟩ = some (.slice v.ms.a v.ms.n v.ms.c) := by rw [hW]; simp [Vt.cells]
  have q5 : W.cell? ⟨w.heap.size, 5, none⟩ = some (.slice v.p.a v.p.n v.p.c) := by rw [hW]; simp [Vt.cells]
  have q6 : W.cell? ⟨w.heap.size, 6, none⟩ = some (.slice v.q.a v.q.n v.q.c) := by rw [hW]; simp [Vt.cells]
  have C1 := Lib.hid (isReplica_any v.f)
  have C2 := Lib.hid (isEpoch_any v.e)
  have C3 := Lib.hid (isNewView_any v.vw)
  have C4 := Lib.hid (isSeq_any v.lo)
  have hvW := hv.below hbl
  have C5 := Lib.hid (areMarks_any W v.ms c.ms hvW.1)
  have C6 := Lib.hid (fun w' (h : Below W.heap.size W w') => areEntries49 w' v.p c.p ((hvW.below h).2.1))
  have C7 := Lib.hid (fun w' (h : Below W.heap.size W w') => areEntries50 w' v.q c.q ((hvW.below h).2.2) hok.2 (Tab.on (Tab.on ht hbl) h))
  generalize isRp v.f = b1 at C1 hr
  generalize isEp v.e = b2 at C2 hr
  generalize isNv v.vw = b3 at C3 hr
  generalize isSq v.lo = b4 at C4 hr
  generalize upB mkOk mkAb c.ms = b5 at C5 hr
  generalize upB enOk enAb c.p = b6 at C6 hr
  generalize upB enOk enAt c.q = b7 at C7 hr
  have HR := Lib.hid hr
  have HBL := Lib.hid hbl
  have HWS := Lib.hid hWs
  have HW := Lib.hid hW
  clear hr hbl hW hWs hv hok ht hvW
  simp only [Vt.cells] at HW ⊢
  go_enter Tryz.func14, Tryz.ntmps14
  go_upto_region 1 with fail
  rw [← HW.out]
  clear HW
  go_wp2_with fail
  refine Calls.mono (C1.out _) ?_
  rintro e w' ⟨rfl, rfl⟩
  cases b1
  · go_wp2_with fail
    go_ret
    exact ⟨by rw [HR.out]; rfl, HBL.out⟩
  go_wp2_with fail
  refine Calls.mono (C2.out _) ?_
  rintro e w' ⟨rfl, rfl⟩
  cases b2
  · go_wp2_with fail
    go_ret
    exact ⟨by rw [HR.out]; rfl, HBL.out⟩
  go_wp2_with fail
  refine Calls.mono (C3.out _) ?_
  rintro e w' ⟨rfl, rfl⟩
  cases b3
  · go_wp2_with fail
    go_ret
    exact ⟨by rw [HR.out]; rfl, HBL.out⟩
  go_wp2_with fail
  refine Calls.mono (C4.out _) ?_
  rintro e w' ⟨rfl, rfl⟩
  cases b4
  · go_wp2_with fail
    go_ret
    exact ⟨by rw [HR.out]; rfl, HBL.out⟩
  go_wp2_with fail
  refine Calls.mono C5.out ?_
  rintro e w1 ⟨rfl, hb1⟩
  have p5 := (hb1.cell (p := ⟨w.heap.size, 5, none⟩) (by show w.heap.size < _; rw [HWS.out]; omega)).trans q5
  have HB1 := Lib.hid hb1
  clear hb1
  cases b5
  · go_wp2_with fail
    go_ret
    exact ⟨by rw [HR.out]; rfl, HBL.out.trans (HB1.out.mono HBL.out.size)⟩
  go_wp2_with fail
  refine Calls.mono (C6.out _ HB1.out) ?_
  rintro e w2 ⟨rfl, hb2⟩
  have HB2 := Lib.hid (Below.up HB1.out hb2)
  have p6 := (HB2.out.cell (p := ⟨w.heap.size, 6, none⟩) (by show w.heap.size < _; rw [HWS.out]; omega)).trans q6
  clear hb2
  cases b6
  · go_wp2_with fail
    go_ret
    exact ⟨by rw [HR.out]; rfl, HBL.out.trans (HB2.out.mono HBL.out.size)⟩
  go_wp2_with fail
  refine Calls.mono (C7.out _ HB2.out) ?_
  rintro e w3 ⟨rfl, hb3⟩
  have HB3 := Lib.hid (Below.up HB2.out hb3)
  clear hb3
  go_wp2_with fail
  go_ret
  exact ⟨by rw [HR.out]; rfl, HBL.out.trans (HB3.out.mono HBL.out.size)⟩
end Go.Proofs.YtbpfkeeikhhlnaaGreatDoor
