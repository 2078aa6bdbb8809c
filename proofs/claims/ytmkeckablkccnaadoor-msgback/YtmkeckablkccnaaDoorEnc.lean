/- The bytes of a message. -/
import Derived.Test.YtmkeckablkccnaaDoorIs
import Derived.Test.YtmkeckablkccnaaDoorOwn
namespace Go.Proofs.YtmkeckablkccnaaDoor
open Go.RowKit
set_option maxRecDepth 100000

def b4 (x : Int) : List Int := [x / 16777216 % 256, x / 65536 % 256, x / 256 % 256, x % 256]
def b2 (x : Int) : List Int := [x / 256 % 256, x % 256]
def Rq.bytes (r : Rq) : List Int := [r.c] ++ (b4 r.t ++ ([r.k] ++ ([r.y] ++ b2 r.v)))
/-- the bytes of a part of one word -/
def wordB (m : Mg) (p : Int) : List Int := if p = 0 then b4 m.vw else if p = 1 then b4 m.sq else if p = 2 then m.rq.bytes else if p = 3 then be8 m.ro else if p = 4 then [m.ct] else if p = 5 then [m.pg] else b4 m.rs

theorem Wrote.start {w : World} {B : Nat} {g : Option Nat} {xs : List Int} (h : Wr w B g xs) : Wrote w B g xs w := ⟨g, h, Kept.refl _ _, .inl rfl⟩

theorem Wrote.new {W w w1 : World} {B : Nat} {g : Option Nat} {xs : List Int} (h : Wrote W B g xs w) (hb : Below w.heap.size w w1) : Wrote W B g xs w1 := by
  obtain ⟨g1, h1, hk, hg⟩ := h
  exact ⟨g1, h1.below hb, hk.trans (Kept.ofBelow (S := fun _ => False) hb) (fun _ _ h => h.elim), hg⟩

/-- a block that is no writer's stays -/
theorem Wrote.stay {W w : World} {B : Nat} {g : Option Nat} {xs : List Int} (h : Wrote W B g xs w) {b : Nat} {o : Obj} (hb : W.heap[b]? = some o) (h1 : b ≠ B) (h2 : g ≠ some b) : w.heap[b]? = some o := by
  obtain ⟨g1, _, hk, _⟩ := h
  rw [hk.block b (lt_of_block hb) (by rintro (e | e); exact h1 e; exact h2 e.symm)]; exact hb

theorem u8_wr (W w : World) (B : Nat) (g : Option Nat) (xs : List Int) (x : Int) (h : Wrote W B g xs w) (hl : xs.length ≤ 800000) :
    Calls Tryd.prog 31 #[.pointer (some ⟨B, 0, none⟩), .int .u8 x] w fun e w' => e = .returned (.tuple #[]) ∧ Wrote W B g (xs ++ [x]) w' := by
  obtain ⟨g1, h1, hk, hg⟩ := h
  refine Calls.mono (u8_any w B g1 xs x h1 (by omega)) ?_
  rintro e w' ⟨rfl, hw⟩
  exact ⟨rfl, Wrote.trans hk hg hw⟩

theorem u16_wr (W w : World) (B : Nat) (g : Option Nat) (xs : List Int) (x : Int) (h : Wrote W B g xs w) (hl : xs.length ≤ 800000) :
    Calls Tryd.prog 95 #[.pointer (some ⟨B, 0, none⟩), .int .u16 x] w fun e w' => e = .returned (.tuple #[]) ∧ Wrote W B g (xs ++ b2 x) w' := by
  obtain ⟨g1, h1, hk, hg⟩ := h
  refine Calls.mono (u16_any w B g1 xs x h1 (by omega)) ?_
  rintro e w' ⟨rfl, hw⟩
  exact ⟨rfl, Wrote.trans hk hg hw⟩

theorem u32_wr (W w : World) (B : Nat) (g : Option Nat) (xs : List Int) (x : Int) (h : Wrote W B g xs w) (hl : xs.length ≤ 800000) :
    Calls Tryd.prog 59 #[.pointer (some ⟨B, 0, none⟩), .int .u32 x] w fun e w' => e = .returned (.tuple #[]) ∧ Wrote W B g (xs ++ b4 x) w' := by
  obtain ⟨g1, h1, hk, hg⟩ := h
  refine Calls.mono (u32_any w B g1 xs x h1 (by omega)) ?_
  rintro e w' ⟨rfl, hw⟩
  exact ⟨rfl, Wrote.trans hk hg hw⟩

theorem u64_wr (W w : World) (B : Nat) (g : Option Nat) (xs : List Int) (x : Int) (h : Wrote W B g xs w) (hl : xs.length ≤ 800000) :
    Calls Tryd.prog 61 #[.pointer (some ⟨B, 0, none⟩), .int .u64 x] w fun e w' => e = .returned (.tuple #[]) ∧ Wrote W B g (xs ++ be8 x) w' := by
  obtain ⟨g1, h1, hk, hg⟩ := h
  refine Calls.mono (u64_any w B g1 xs x h1 (by omega)) ?_
  rintro e w' ⟨rfl, hw⟩
  exact ⟨rfl, Wrote.trans hk hg hw⟩

set_option maxHeartbeats 1600000 in
theorem writeReq_wr (W0 w : World) (B : Nat) (g : Option Nat) (xs : List Int) (r : Rq) (h : Wrote W0 B g xs w) (hl : xs.length ≤ 700000) :
    Calls Tryd.prog 60 #[.pointer (some ⟨B, 0, none⟩), .agg r.cells.toArray] w fun e w' => e = .returned (.tuple #[]) ∧ Wrote W0 B g (xs ++ r.bytes) w' := by
  obtain ⟨g0, hw0, hk0, hg0⟩ := h
  obtain ⟨W, hW⟩ : ∃ W, W = w.alloc (.cells r.cells.toArray 27) := ⟨_, rfl⟩
  have hbl : Below w.heap.size w W := by rw [hW]; exact (Below.refl _ _).alloc (Nat.le_refl _) _
  have hblk : W.heap[w.heap.size]? = some (.cells r.cells.toArray 27 (0, 0)) := by rw [hW]; exact heap_alloc_new _ _
  have hne : w.heap.size ≠ B := by have := hw0.lt; omega
  have hng : g0 ≠ some w.heap.size := by
    obtain ⟨ao, n, cap, hb, ho, h1, h2⟩ := hw0
    intro e
    have := own_lt ho (h1.trans e)
    omega
  have S0 : Wrote W B g0 xs W := Wrote.start (hw0.below hbl)
  have stay : ∀ ys w', Wrote W B g0 ys w' → w'.heap[w.heap.size]? = some (.cells r.cells.toArray 27 (0, 0)) := fun _ _ h => h.stay hblk hne hng
  have HST := Lib.hid stay
  have HS0 := Lib.hid S0
  have HEND : Hid (∀ ys w', Wrote W B g0 ys w' → Wrote W0 B g ys w') := Lib.hid (fun ys w' h => Wrote.trans hk0 hg0 (Wrote.trans (Kept.ofBelow hbl) (.inl rfl) h))
  have q0 : W.cell? ⟨w.heap.size, 0, none⟩ = some (.int .u8 r.c) := by rw [cell_of_row _ _ _ _ _ _ hblk]; rfl
  have HW := Lib.hid hW
  clear hW hblk hne hng S0 stay hbl hw0 hk0 hg0
  simp only [Rq.cells] at HW ⊢
  go_enter Tryd.func60, Tryd.ntmps60
  go_wp2_with fail
  rw [← HW.out]
  refine Calls.mono (u8_wr W W B g0 xs r.c HS0.out (by omega)) ?_
  rintro e w1 ⟨rfl, h1⟩
  have p := HST.out _ _ h1
  have q1 : w1.cell? ⟨w.heap.size, 1, none⟩ = some (.int .u32 r.t) := by rw [cell_of_row _ _ _ _ _ _ p]; rfl
  have H1 := Lib.hid h1
  clear h1 p q0 HW
  go_wp2_with fail
  refine Calls.mono (u32_wr W w1 B g0 _ r.t H1.out (by simp; omega)) ?_
  rintro e w2 ⟨rfl, h1⟩
  have p := HST.out _ _ h1
  have q2 : w2.cell? ⟨w.heap.size, 2, none⟩ = some (.int .u8 r.k) := by rw [cell_of_row _ _ _ _ _ _ p]; rfl
  have H2 := Lib.hid h1
  clear h1 p q1
  go_wp2_with fail
  refine Calls.mono (u8_wr W w2 B g0 _ r.k H2.out (by simp [b4]; omega)) ?_
  rintro e w3 ⟨rfl, h1⟩
  have p := HST.out _ _ h1
  have q3 : w3.cell? ⟨w.heap.size, 3, none⟩ = some (.int .u8 r.y) := by rw [cell_of_row _ _ _ _ _ _ p]; rfl
  have H3 := Lib.hid h1
  clear h1 p q2
  go_wp2_with fail
  refine Calls.mono (u8_wr W w3 B g0 _ r.y H3.out (by simp [b4]; omega)) ?_
  rintro e w4 ⟨rfl, h1⟩
  have p := HST.out _ _ h1
  have q4 : w4.cell? ⟨w.heap.size, 4, none⟩ = some (.int .u16 r.v) := by rw [cell_of_row _ _ _ _ _ _ p]; rfl
  have H4 := Lib.hid h1
  clear h1 p q3
  go_wp2_with fail
  refine Calls.mono (u16_wr W w4 B g0 _ r.v H4.out (by simp [b4]; omega)) ?_
  rintro e w5 ⟨rfl, h1⟩
  have H5 := Lib.hid (HEND.out _ _ h1)
  clear h1 q4
  go_wp2_with fail
  go_end0
  refine ⟨rfl, ?_⟩
  have := H5.out
  simpa [Rq.bytes, List.append_assoc] using this

set_option maxHeartbeats 4000000 in
theorem write_wr (W0 w : World) (B : Nat) (g : Option Nat) (xs : List Int) (m : Mg) (p : Int) (h0 : 0 ≤ p) (h6 : p ≤ 6) (h : Wrote W0 B g xs w) (hl : xs.length ≤ 600000) :
    Calls Tryd.prog 33 #[.pointer (some ⟨B, 0, none⟩), .agg m.cells.toArray, .int .u8 p] w fun e w' => e = .returned (.tuple #[]) ∧ Wrote W0 B g (xs ++ wordB m p) w' := by
  obtain ⟨b, hb⟩ : ∃ b, b = wordB m p := ⟨_, rfl⟩
  rw [← hb]
  unfold wordB at hb
  have HB := Lib.hid hb
  obtain ⟨W, hW⟩ : ∃ W, W = w.alloc (.cells m.cells.toArray 37) := ⟨_, rfl⟩
  have hbl : Below w.heap.size w W := by rw [hW]; exact (Below.refl _ _).alloc (Nat.le_refl _) _
  have hbx : W.heap[w.heap.size]? = some (.cells m.cells.toArray 37 (0, 0)) := by rw [hW]; exact heap_alloc_new _ _
  have HS := Lib.hid (h.new hbl)
  have q4 : W.cell? ⟨w.heap.size, 4, none⟩ = some (.int .u32 m.vw) := cell_box hbx 4
  have q5 : W.cell? ⟨w.heap.size, 5, none⟩ = some (.int .u32 m.sq) := cell_box hbx 5
  have q6 : W.cell? ⟨w.heap.size, 6, none⟩ = some (.int .u8 m.rq.c) := cell_box hbx 6
  have q7 : W.cell? ⟨w.heap.size, 7, none⟩ = some (.int .u32 m.rq.t) := cell_box hbx 7
  have q8 : W.cell? ⟨w.heap.size, 8, none⟩ = some (.int .u8 m.rq.k) := cell_box hbx 8
  have q9 : W.cell? ⟨w.heap.size, 9, none⟩ = some (.int .u8 m.rq.y) := cell_box hbx 9
  have q10 : W.cell? ⟨w.heap.size, 10, none⟩ = some (.int .u16 m.rq.v) := cell_box hbx 10
  have q11 : W.cell? ⟨w.heap.size, 11, none⟩ = some (.int .u64 m.ro) := cell_box hbx 11
  have q12 : W.cell? ⟨w.heap.size, 12, none⟩ = some (.int .u8 m.ct) := cell_box hbx 12
  have q13 : W.cell? ⟨w.heap.size, 13, none⟩ = some (.int .u8 m.pg) := cell_box hbx 13
  have q14 : W.cell? ⟨w.heap.size, 14, none⟩ = some (.int .u32 m.rs) := cell_box hbx 14
  have HW := Lib.hid hW
  clear hW hbx hbl hb h
  simp only [Mg.cells] at HW ⊢
  go_enter Tryd.func33, Tryd.ntmps33
  go_upto_region 1 with fail
  rw [← HW.out]
  have eA : (#[.int .u8 m.k, .int .u8 m.f, .int .u8 m.t, .int .u8 m.e, .int .u32 m.vw, .int .u32 m.sq, .int .u8 m.rq.c, .int .u32 m.rq.t, .int .u8 m.rq.k, .int .u8 m.rq.y, .int .u16 m.rq.v, .int .u64 m.ro, .int .u8 m.ct, .int .u8 m.pg, .int .u32 m.rs, .int .u8 m.vt.f, .int .u8 m.vt.e, .int .u32 m.vt.vw, .int .u32 m.vt.lo, .slice m.vt.ms.a m.vt.ms.n m.vt.ms.c, .slice m.vt.p.a m.vt.p.n m.vt.p.c, .slice m.vt.q.a m.vt.q.n m.vt.q.c, .slice m.vs.a m.vs.n m.vs.c, .slice m.sm.a m.sm.n m.sm.c, .slice m.dt.a m.dt.n m.dt.c] : Array Value) = m.cells.toArray := rfl
  rw [eA]
  clear eA HW
  generalize m.cells.toArray = A
  have hcase : p = 0 ∨ p = 1 ∨ p = 2 ∨ p = 3 ∨ p = 4 ∨ p = 5 ∨ p = 6 := by omega
  rcases hcase with rfl | rfl | rfl | rfl | rfl | rfl | rfl
  · go_wp2_with fail
    refine Calls.mono (u32_wr W0 W B g xs m.vw HS.out (by omega)) ?_
    rintro e w1 ⟨rfl, h1⟩
    have H1 := Lib.hid h1
    clear h1
    go_wp2_with fail
    go_end0
    exact ⟨rfl, by rw [HB.out]; exact H1.out⟩
  · go_wp2_with fail
    refine Calls.mono (u32_wr W0 W B g xs m.sq HS.out (by omega)) ?_
    rintro e w1 ⟨rfl, h1⟩
    have H1 := Lib.hid h1
    clear h1
    go_wp2_with fail
    go_end0
    exact ⟨rfl, by rw [HB.out]; exact H1.out⟩
  · go_wp2_with fail
    refine Calls.mono (writeReq_wr W0 W B g xs m.rq HS.out (by omega)) ?_
    rintro e w1 ⟨rfl, h1⟩
    have H1 := Lib.hid h1
    clear h1
    go_wp2_with fail
    go_end0
    exact ⟨rfl, by rw [HB.out]; exact H1.out⟩
  · go_wp2_with fail
    refine Calls.mono (u64_wr W0 W B g xs m.ro HS.out (by omega)) ?_
    rintro e w1 ⟨rfl, h1⟩
    have H1 := Lib.hid h1
    clear h1
    go_wp2_with fail
    go_end0
    exact ⟨rfl, by rw [HB.out]; exact H1.out⟩
  · go_wp2_with fail
    refine Calls.mono (u8_wr W0 W B g xs m.ct HS.out (by omega)) ?_
    rintro e w1 ⟨rfl, h1⟩
    have H1 := Lib.hid h1
    clear h1
    go_wp2_with fail
    go_end0
    exact ⟨rfl, by rw [HB.out]; exact H1.out⟩
  · go_wp2_with fail
    refine Calls.mono (u8_wr W0 W B g xs m.pg HS.out (by omega)) ?_
    rintro e w1 ⟨rfl, h1⟩
    have H1 := Lib.hid h1
    clear h1
    go_wp2_with fail
    go_end0
    exact ⟨rfl, by rw [HB.out]; exact H1.out⟩
  · go_wp2_with fail
    refine Calls.mono (u32_wr W0 W B g xs m.rs HS.out (by omega)) ?_
    rintro e w1 ⟨rfl, h1⟩
    have H1 := Lib.hid h1
    clear h1
    go_wp2_with fail
    go_end0
    exact ⟨rfl, by rw [HB.out]; exact H1.out⟩
theorem parts_new (k : Int) (w : World) : Calls Tryd.prog 32 #[.int .u8 k] w fun e w' => ∃ ao, e = .returned (.slice ao (partsOf k).length (partsOf k).length) ∧ Bytes w' ao (partsOf k) ∧ (∀ ad, ao = some ad → ad.block = w.heap.size) ∧ Below w.heap.size w w' := by
  by_cases h1 : k = 1
  · subst h1
    go_enter Tryd.func32, Tryd.ntmps32
    go_wp2
    go_ret
    exact ⟨some ⟨w.heap.size, 0, none⟩, rfl, bytes_new w [2] 75, (fun ad h => by injection h with h; rw [← h]), (Below.refl _ _).alloc (Nat.le_refl _) _⟩
  by_cases h2 : k = 2
  · subst h2
    go_enter Tryd.func32, Tryd.ntmps32
    go_wp2
    go_ret
    exact ⟨some ⟨w.heap.size, 0, none⟩, rfl, bytes_new w [0, 1, 2] 75, (fun ad h => by injection h with h; rw [← h]), (Below.refl _ _).alloc (Nat.le_refl _) _⟩
  by_cases h3 : k = 3
  · subst h3
    go_enter Tryd.func32, Tryd.ntmps32
    go_wp2
    go_ret
    exact ⟨some ⟨w.heap.size, 0, none⟩, rfl, bytes_new w [0, 1, 2] 75, (fun ad h => by injection h with h; rw [← h]), (Below.refl _ _).alloc (Nat.le_refl _) _⟩
  by_cases h4 : k = 4
  · subst h4
    go_enter Tryd.func32, Tryd.ntmps32
    go_wp2
    go_ret
    exact ⟨some ⟨w.heap.size, 0, none⟩, rfl, bytes_new w [0, 1, 2] 75, (fun ad h => by injection h with h; rw [← h]), (Below.refl _ _).alloc (Nat.le_refl _) _⟩
  by_cases h5 : k = 5
  · subst h5
    go_enter Tryd.func32, Tryd.ntmps32
    go_wp2
    go_ret
    exact ⟨some ⟨w.heap.size, 0, none⟩, rfl, bytes_new w [1, 3] 75, (fun ad h => by injection h with h; rw [← h]), (Below.refl _ _).alloc (Nat.le_refl _) _⟩
  by_cases h6 : k = 6
  · subst h6
    go_enter Tryd.func32, Tryd.ntmps32
    go_wp2
    go_ret
    exact ⟨some ⟨w.heap.size, 0, none⟩, rfl, bytes_new w [7] 75, (fun ad h => by injection h with h; rw [← h]), (Below.refl _ _).alloc (Nat.le_refl _) _⟩
  by_cases h7 : k = 7
  · subst h7
    go_enter Tryd.func32, Tryd.ntmps32
    go_wp2
    go_ret
    exact ⟨some ⟨w.heap.size, 0, none⟩, rfl, bytes_new w [0, 8] 75, (fun ad h => by injection h with h; rw [← h]), (Below.refl _ _).alloc (Nat.le_refl _) _⟩
  by_cases h8 : k = 8
  · subst h8
    go_enter Tryd.func32, Tryd.ntmps32
    go_wp2
    go_ret
    exact ⟨some ⟨w.heap.size, 0, none⟩, rfl, bytes_new w [4] 75, (fun ad h => by injection h with h; rw [← h]), (Below.refl _ _).alloc (Nat.le_refl _) _⟩
  by_cases h9 : k = 9
  · subst h9
    go_enter Tryd.func32, Tryd.ntmps32
    go_wp2
    go_ret
    exact ⟨some ⟨w.heap.size, 0, none⟩, rfl, bytes_new w [4] 75, (fun ad h => by injection h with h; rw [← h]), (Below.refl _ _).alloc (Nat.le_refl _) _⟩
  by_cases h10 : k = 10
  · subst h10
    go_enter Tryd.func32, Tryd.ntmps32
    go_wp2
    go_ret
    exact ⟨some ⟨w.heap.size, 0, none⟩, rfl, bytes_new w [4, 1] 75, (fun ad h => by injection h with h; rw [← h]), (Below.refl _ _).alloc (Nat.le_refl _) _⟩
  by_cases h11 : k = 11
  · subst h11
    go_enter Tryd.func32, Tryd.ntmps32
    go_wp2
    go_ret
    exact ⟨some ⟨w.heap.size, 0, none⟩, rfl, bytes_new w [1, 5] 75, (fun ad h => by injection h with h; rw [← h]), (Below.refl _ _).alloc (Nat.le_refl _) _⟩
  by_cases h12 : k = 12
  · subst h12
    go_enter Tryd.func32, Tryd.ntmps32
    go_wp2
    go_ret
    exact ⟨some ⟨w.heap.size, 0, none⟩, rfl, bytes_new w [1, 9] 75, (fun ad h => by injection h with h; rw [← h]), (Below.refl _ _).alloc (Nat.le_refl _) _⟩
  by_cases h13 : k = 13
  · subst h13
    go_enter Tryd.func32, Tryd.ntmps32
    go_wp2
    go_ret
    exact ⟨some ⟨w.heap.size, 0, none⟩, rfl, bytes_new w [1, 5, 10] 75, (fun ad h => by injection h with h; rw [← h]), (Below.refl _ _).alloc (Nat.le_refl _) _⟩
  by_cases h14 : k = 14
  · subst h14
    go_enter Tryd.func32, Tryd.ntmps32
    go_wp2
    go_ret
    exact ⟨some ⟨w.heap.size, 0, none⟩, rfl, bytes_new w [0, 2, 6] 75, (fun ad h => by injection h with h; rw [← h]), (Below.refl _ _).alloc (Nat.le_refl _) _⟩
  · have e0 : partsOf k = [] := by unfold partsOf; simp [h1, h2, h3, h4, h5, h6, h7, h8, h9, h10, h11, h12, h13, h14]
    rw [e0]
    go_enter Tryd.func32, Tryd.ntmps32
    go_wp2
    go_ret
    exact ⟨none, rfl, (fun i hi => by simp at hi), (fun ad h => by cases h), Below.refl _ _⟩

/-- what Encode leaves -/
def EncDone (w w' : World) (ib : Bool) (bs : List Int) (e : Ending) : Prop :=
  (ib = false → e = .returned (.tuple #[.slice none 0 0, .int .i64 30])) ∧
  (ib = true → bs.length ≤ 8000 → ∃ ao c, e = .returned (.tuple #[.slice ao bs.length c, .int .i64 0]) ∧ New w.heap.size w' ao c bs) ∧
  (ib = true → 8000 < bs.length → e = .returned (.tuple #[.slice none 0 0, .int .i64 21])) ∧ Below w.heap.size w w'

theorem New.mono {H K : Nat} {w : World} {ao : Option Addr} {c : Nat} {l : List Int} (h : New H w ao c l) (hk : K ≤ H) : New K w ao c l := ⟨h.1, fun ad e => Nat.le_trans hk (h.2 ad e)⟩

theorem flat_len (pb : Int → List Int) : ∀ ps : List Int, (∀ p ∈ ps, (pb p).length ≤ 100000) → (ps.flatMap pb).length ≤ 100000 * ps.length
  | [], _ => by simp
  | p :: r, h => by
    have h1 := h p (by simp)
    have h2 := flat_len pb r (fun q hq => h q (by simp [hq]))
    simp only [List.flatMap_cons, List.length_append, List.length_cons]
    omega

def encUp (m : Mg) (pb : Int → List Int) (ps : List Int) : List Int := [m.k, m.f, m.t, m.e] ++ ps.flatMap pb

set_option maxHeartbeats 8000000 in
theorem encode_any (w : World) (m : Mg) (ib : Bool) (pb : Int → List Int) (hpb : ∀ p ∈ partsOf m.k, (pb p).length ≤ 100000)
    (hi : ∀ w1, Below w.heap.size w w1 → Calls Tryd.prog 13 #[.agg m.cells.toArray] w1 fun e w2 => e = .returned (.bool ib) ∧ Below w1.heap.size w1 w2)
    (hw : ib = true → ∀ p ∈ partsOf m.k, ∀ W0 w1 B g xs, Below w.heap.size w w1 → Wrote W0 B g xs w1 → xs.length ≤ 600000 → Calls Tryd.prog 33 #[.pointer (some ⟨B, 0, none⟩), .agg m.cells.toArray, .int .u8 p] w1 fun e w2 => e = .returned (.tuple #[]) ∧ Wrote W0 B g (xs ++ pb p) w2) :
    Calls Tryd.prog 10 #[.agg m.cells.toArray] w fun e w' => EncDone w w' ib (encUp m pb (partsOf m.k)) e := by
  have hpl := partsOf_len m.k
  have CP := Lib.hid (parts_new m.k)
  generalize hPS : partsOf m.k = ps at *
  obtain ⟨W, hW⟩ : ∃ W, W = w.alloc (.cells m.cells.toArray 37) := ⟨_, rfl⟩
  have hbx : W.heap[w.heap.size]? = some (.cells m.cells.toArray 37 (0, 0)) := by rw [hW]; exact heap_alloc_new _ _
  have hbl : Below w.heap.size w W := by rw [hW]; exact (Below.refl _ _).alloc (Nat.le_refl _) _
  have HBX := Lib.hid hbx
  have HBL := Lib.hid hbl
  have HW := Lib.hid hW
  have HI := Lib.hid hi
  have HWR := Lib.hid hw
  have HPB := Lib.hid hpb
  clear hW hbx hbl hi hw hpb hPS
  simp only [Mg.cells] at HW ⊢
  go_enter Tryd.func10, Tryd.ntmps10
  go_upto_region 1 with fail
  rw [← HW.out]
  have eA : (#[.int .u8 m.k, .int .u8 m.f, .int .u8 m.t, .int .u8 m.e, .int .u32 m.vw, .int .u32 m.sq, .int .u8 m.rq.c, .int .u32 m.rq.t, .int .u8 m.rq.k, .int .u8 m.rq.y, .int .u16 m.rq.v, .int .u64 m.ro, .int .u8 m.ct, .int .u8 m.pg, .int .u32 m.rs, .int .u8 m.vt.f, .int .u8 m.vt.e, .int .u32 m.vt.vw, .int .u32 m.vt.lo, .slice m.vt.ms.a m.vt.ms.n m.vt.ms.c, .slice m.vt.p.a m.vt.p.n m.vt.p.c, .slice m.vt.q.a m.vt.q.n m.vt.q.c, .slice m.vs.a m.vs.n m.vs.c, .slice m.sm.a m.sm.n m.sm.c, .slice m.dt.a m.dt.n m.dt.c] : Array Value) = m.cells.toArray := rfl
  rw [eA]
  clear eA HW
  have hsz : m.cells.toArray.size = 25 := rfl
  have HQ := Lib.hid (fun (w' : World) (h : w'.heap[w.heap.size]? = some (.cells m.cells.toArray 37 (0, 0))) (i : Nat) => cell_box h i)
  generalize hA : m.cells.toArray = A at *
  have HSZ := Lib.hid hsz
  clear hA hsz
  refine wp_region_lit ?_
  refine wpList_load_row rfl 37 (.tmp 1) rfl w.heap.size rfl 37 _ (0, 0) _ HBX.out Tryd.underlying37 rfl (by rw [HSZ.out]; exact size37) ?_
  go_wp2_with fail
  refine Calls.mono (HI.out _ HBL.out) ?_
  rintro e w1 ⟨rfl, hb1⟩
  have B1 := Lib.hid (HBL.out.trans (hb1.mono HBL.out.size))
  have X1 := Lib.hid ((hb1.block w.heap.size (lt_of_block HBX.out)).trans HBX.out)
  clear hb1
  cases ib
  · go_wp2_with fail
    go_ret2
    exact ⟨fun _ => rfl, (fun h => by cases h), (fun h => by cases h), B1.out⟩
  · go_wp2_with fail
    refine Calls.mono (new_any _) ?_
    rintro e w2 ⟨rfl, rfl⟩
    have hxb : (w1.alloc (.cells #[.slice none 0 0] 105)).heap[w.heap.size]? = some (.cells A 37 (0, 0)) := by rw [heap_alloc_old _ _ (lt_of_block X1.out)]; exact X1.out
    have B2 := B1.out.alloc (Nat.le_of_lt (lt_of_block X1.out)) (.cells #[.slice none 0 0] 105)
    have S0 := Wrote.start (wr_new w1)
    have hlt : w.heap.size < w1.heap.size := lt_of_block X1.out
    generalize hW2 : w1.alloc (.cells #[.slice none 0 0] 105) = W2 at *
    generalize hBB : w1.heap.size = B at *
    have hw2s : B < W2.heap.size := by rw [← hW2, ← hBB]; simp
    have HB2 := Lib.hid B2
    have H0 := Lib.hid S0
    have HXB := Lib.hid hxb
    have HST := Lib.hid (fun ys w' (h : Wrote W2 B none ys w') => h.stay hxb (by omega) (by intro e; cases e))
    have q : W2.cell? ⟨w.heap.size, 0, none⟩ = some (.int .u8 m.k) := HQ.out _ hxb 0
    clear B2 S0 hxb hW2 hBB
    go_wp2_with fail
    clear q
    refine Calls.mono (u8_wr W2 _ B none _ m.k H0.out (by simp)) ?_
    rintro e v1 ⟨rfl, h1⟩
    have p := HST.out _ _ h1
    have H1 := Lib.hid h1
    have q : v1.cell? ⟨w.heap.size, 1, none⟩ = some (.int .u8 m.f) := HQ.out _ p 1
    clear h1 p
    go_wp2_with fail
    clear q
    refine Calls.mono (u8_wr W2 _ B none _ m.f H1.out (by simp)) ?_
    rintro e v2 ⟨rfl, h1⟩
    have p := HST.out _ _ h1
    have H2 := Lib.hid h1
    have q : v2.cell? ⟨w.heap.size, 2, none⟩ = some (.int .u8 m.t) := HQ.out _ p 2
    clear h1 p
    go_wp2_with fail
    clear q
    refine Calls.mono (u8_wr W2 _ B none _ m.t H2.out (by simp)) ?_
    rintro e v3 ⟨rfl, h1⟩
    have p := HST.out _ _ h1
    have H3 := Lib.hid h1
    have q : v3.cell? ⟨w.heap.size, 3, none⟩ = some (.int .u8 m.e) := HQ.out _ p 3
    clear h1 p
    go_wp2_with fail
    clear q
    refine Calls.mono (u8_wr W2 _ B none _ m.e H3.out (by simp)) ?_
    rintro e v4 ⟨rfl, h1⟩
    have p := HST.out _ _ h1
    have q : v4.cell? ⟨w.heap.size, 0, none⟩ = some (.int .u8 m.k) := HQ.out _ p 0
    have H4 := Lib.hid h1
    have X4 := Lib.hid p
    clear h1 p
    go_wp2_with fail
    clear q
    refine Calls.mono (CP.out _) ?_
    rintro e wp ⟨ao, rfl, hby, hnb, hbp⟩
    obtain ⟨g1, hwr4, hk4, hg4⟩ := H4.out
    have hg1b : ∀ k, g1 = some k → B < k := fun k e => by
      rcases hg4 with e' | ⟨k', e', hk'⟩
      · rw [e'] at e; cases e
      · rw [e'] at e; injection e with e; omega
    have hgx : g1 ≠ some w.heap.size := fun e => by have := hg1b _ e; omega
    have hglt : ∀ k, g1 = some k → k < v4.heap.size := fun k e => by
      obtain ⟨a5, n5, c5, hb5, ho5, h51, h52⟩ := hwr4
      exact own_lt ho5 (h51.trans e)
    have hBlt : B < v4.heap.size := hwr4.lt
    have hxp : wp.heap[w.heap.size]? = some (.cells A 37 (0, 0)) := (hbp.block _ (lt_of_block X4.out)).trans X4.out
    have BWP : Below w.heap.size w wp := HB2.out.trans ((H4.out.new hbp).bel (H := w.heap.size) (by omega) (by omega) (fun k e => by cases e))
    have S4 := Lib.hid (Wrote.start (hwr4.below hbp))
    have HKB := Lib.hid (fun ys w' (h : Wrote wp B g1 ys w') => BWP.trans (h.bel (H := w.heap.size) BWP.size (by omega) (fun k e => by have := hg1b k e; omega)))
    have HKX := Lib.hid (fun ys w' (h : Wrote wp B g1 ys w') => h.stay hxp (by omega) hgx)
    have HKP := Lib.hid (fun ys w' (h : Wrote wp B g1 ys w') => by
      obtain ⟨g2, _, hk2, _⟩ := h
      exact bytes_kept hby hk2 (fun ad e _ hS => by
        have e1 := hnb ad e
        rcases hS with hS | hS
        · omega
        · have := hglt _ hS.symm; omega))
    clear hwr4 hk4 hg4 hg1b hgx hglt hBlt hxp BWP hby hnb hbp
    generalize hln : ps.length = n at *
    have HLN := Lib.hid hln
    clear hln
    go_wp2_with fail
    go_loopw [6, 32] (fun _ vi wr => ∃ j : Nat, j ≤ n ∧ vi = .int .i64 j ∧ Hid (Wrote wp B g1 (encUp m pb (ps.take j)) wr)) (fun _ i _ => n - (intOf i).toNat)
    case atStart => exact ⟨0, by omega, rfl, Lib.hid (by simpa [encUp] using S4.out)⟩
    case round =>
      obtain ⟨j, hj, rfl, HR⟩ := hrel
      by_cases hlt2 : j < n
      · obtain ⟨ad, rfl, hc⟩ := HKP.out _ _ HR.out j (by rw [HLN.out]; exact hlt2)
        obtain ⟨p, hpd⟩ : ∃ p, p = ps.getD j 0 := ⟨_, rfl⟩
        rw [← hpd] at hc
        have hj' : ps[j]? = some p := by rw [hpd, List.getD_eq_getElem?_getD, List.getElem?_eq_getElem (by rw [HLN.out]; exact hlt2)]; rfl
        have hmem : p ∈ ps := List.mem_of_getElem? hj'
        have hs : encUp m pb (ps.take (j + 1)) = encUp m pb (ps.take j) ++ pb p := by rw [List.take_add_one, hj']; simp [encUp, List.flatMap_append]
        have hlen : (encUp m pb (ps.take j)).length ≤ 600000 := by
          have h7 := flat_len pb (ps.take j) (fun q hq => HPB.out q (List.mem_of_mem_take hq))
          have h8 : (ps.take j).length ≤ 3 := by simp; omega
          simp only [encUp, List.length_append, List.length_cons, List.length_nil]
          omega
        have F := Lib.hid (HWR.out (by first | rfl | trivial) p hmem wp wr B g1 _ (HKB.out _ _ HR.out) HR.out hlen)
        have XW := Lib.hid (HKX.out _ _ HR.out)
        have HS := Lib.hid hs
        clear hpd hj' hmem hs hlen
        go_upto_region 11 with fail
        refine wp_region_lit ?_
        refine wpl_val (v := .pointer (some ⟨B, 0, none⟩)) (w1 := wr) rfl (by go_simp) _ rfl ?_
        refine wpList_load_row rfl 37 (.tmp 1) rfl w.heap.size rfl 37 _ (0, 0) _ XW.out Tryd.underlying37 rfl (by rw [HSZ.out]; exact size37) ?_
        go_wp2_with fail
        refine Calls.mono F.out ?_
        rintro e w5 ⟨rfl, h5⟩
        rw [← HS.out] at h5
        have H5 := Lib.hid h5
        clear h5
        go_wp2_with fail
        go_round
        case measure => simp [intOf]; omega
        case rel => exact ⟨j + 1, by omega, by go_num, H5⟩
      · obtain rfl : j = n := by omega
        have hR := HR.out
        rw [List.take_of_length_le (by rw [HLN.out]; exact Nat.le_refl _)] at hR
        have hlen : (encUp m pb ps).length ≤ 600000 := by
          have h7 := flat_len pb ps (fun q hq => HPB.out q hq)
          have h8 := HLN.out
          simp only [encUp, List.length_append, List.length_cons, List.length_nil]
          omega
        have BWR := Lib.hid (HKB.out _ _ hR)
        obtain ⟨g2, hw2, -, -⟩ := hR
        obtain ⟨bs, hbs⟩ : ∃ bs, bs = encUp m pb ps := ⟨_, rfl⟩
        rw [← hbs] at hw2 hlen
        have HBS := Lib.hid hbs
        clear hbs
        have C := Lib.hid (all_any wr B g2 bs hw2 (by omega))
        generalize hbl : bs.length = bl at *
        have HBLN := Lib.hid hbl
        clear hw2 hbl
        go_wp2_with fail
        refine Calls.mono C.out ?_
        rintro e w6 ⟨ao6, c6, rfl, hnew, hb6⟩
        have HNEW := Lib.hid hnew
        have B6 := Lib.hid (BWR.out.trans (hb6.mono BWR.out.size))
        clear hnew hb6
        by_cases hbig : bl ≤ 8000
        · have hbigI : ¬ (bl : Int) > 8000 := by omega
          go_wp2_with fail
          go_ret2
          rw [← HBS.out]
          refine ⟨(fun h => by cases h), fun _ _ => ⟨ao6, c6, ?_, HNEW.out.mono BWR.out.size⟩, (fun _ h => by rw [HBLN.out] at h; omega), B6.out⟩
          rw [HBLN.out]; rfl
        · have hbigI : (bl : Int) > 8000 := by omega
          go_wp2_with fail
          go_ret2
          rw [← HBS.out]
          exact ⟨(fun h => by cases h), (fun _ h => by rw [HBLN.out] at h; omega), (fun _ _ => rfl), B6.out⟩


end Go.Proofs.YtmkeckablkccnaaDoor
