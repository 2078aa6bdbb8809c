/- The bytes of a message. The bytes of votes. A growing row beside a block; the document's req. -/
import Derived.Test.YtbpfkeeikhhlnaaGreatDoorJ05
import Derived.Test.YtbpfkeeikhhlnaaGreatDoorJ01
import Derived.Test.YtbpfkeeikhhlnaaGreatDoorJ04
namespace Go.Proofs.YtbpfkeeikhhlnaaGreatDoor
open Go.RowKit
set_option maxRecDepth 100000

def b4 (x : Int) : List Int := [x / 16777216 % 256, x / 65536 % 256, x / 256 % 256, x % 256]
def b2 (x : Int) : List Int := [x / 256 % 256, x % 256]
def Rq.bytes (r : Rq) : List Int := [r.c] ++ (b4 r.t ++ ([r.k] ++ ([r.y] ++ b2 r.v)))
/-- the bytes of a part of one word -/
def wordB (m : Mg) (p : Int) : List Int := if p = 0 then b4 m.vw else if p = 1 then b4 m.sq else if p = 2 then m.rq.bytes else if p = 3 then be8 m.ro else if p = 4 then [m.ct] else if p = 5 then [m.pg] else b4 m.rs

theorem Wrote.start {w : World} {B : Nat} {g : Option Nat} {xs : List Int} (h : Wr w B g xs) : Wrote w B g xs w := ⟨g, h, Kept.refl _ _, .inl rfl⟩

theorem Wrote.new {W w w1 : World} {B : Nat} {g : Option Nat} {xs : List Int} (h : Wrote W B g xs w) (hb : Below w.heap.size w w1) : Wrote W B g xs w1 := by
  obtain ⟨g1, h1, hk, hg⟩ := h
  exact ⟨g1, h1.below hb, hk.trans (Kept.ofBelow (S := fun _ => False) hb) (fun _ _ h => h.elim), hg⟩

/-- a block that is no writer's stays -/
theorem Wrote.stay {W w : World} {B : Nat} {g : Option Nat} {xs : List Int} (h : Wrote W B g xs w) {b : Nat} {o : Obj} (hb : W.heap[b]? = some o) (h1 : b ≠ B) (h2 : g ≠ some b) : w.heap[b]? = some o := by
  obtain ⟨g1, _, hk, _⟩ := h
  rw [hk.block b (lt_of_block hb) (by rintro (e | e); exact h1 e; exact h2 e.symm)]; exact hb

theorem u8_wr (W w : World) (B : Nat) (g : Option Nat) (xs : List Int) (x : Int) (h : Wrote W B g xs w) (hl : xs.length ≤ 800000) :
    Calls Tryz.prog 24 #[.pointer (some ⟨B, 0, none⟩), .int .u8 x] w fun e w' => e = .returned (.tuple #[]) ∧ Wrote W B g (xs ++ [x]) w' := by
  obtain ⟨g1, h1, hk, hg⟩ := h
  refine Calls.mono (u8_any w B g1 xs x h1 (by omega)) ?_
  rintro e w' ⟨rfl, hw⟩
  exact ⟨rfl, Wrote.trans hk hg hw⟩

theorem u16_wr (W w : World) (B : Nat) (g : Option Nat) (xs : List Int) (x : Int) (h : Wrote W B g xs w) (hl : xs.length ≤ 800000) :
    Calls Tryz.prog 94 #[.pointer (some ⟨B, 0, none⟩), .int .u16 x] w fun e w' => e = .returned (.tuple #[]) ∧ Wrote W B g (xs ++ b2 x) w' := by
  obtain ⟨g1, h1, hk, hg⟩ := h
  refine Calls.mono (u16_any w B g1 xs x h1 (by omega)) ?_
  rintro e w' ⟨rfl, hw⟩
  exact ⟨rfl, Wrote.trans hk hg hw⟩

theorem u32_wr (W w : World) (B : Nat) (g : Option Nat) (xs : List Int) (x : Int) (h : Wrote W B g xs w) (hl : xs.length ≤ 800000) :
    Calls Tryz.prog 66 #[.pointer (some ⟨B, 0, none⟩), .int .u32 x] w fun e w' => e = .returned (.tuple #[]) ∧ Wrote W B g (xs ++ b4 x) w' := by
  obtain ⟨g1, h1, hk, hg⟩ := h
  refine Calls.mono (u32_any w B g1 xs x h1 (by omega)) ?_
  rintro e w' ⟨rfl, hw⟩
  exact ⟨rfl, Wrote.trans hk hg hw⟩

theorem u64_wr (W w : World) (B : Nat) (g : Option Nat) (xs : List Int) (x : Int) (h : Wrote W B g xs w) (hl : xs.length ≤ 800000) :
    Calls Tryz.prog 68 #[.pointer (some ⟨B, 0, none⟩), .int .u64 x] w fun e w' => e = .returned (.tuple #[]) ∧ Wrote W B g (xs ++ be8 x) w' := by
  obtain ⟨g1, h1, hk, hg⟩ := h
  refine Calls.mono (u64_any w B g1 xs x h1 (by omega)) ?_
  rintro e w' ⟨rfl, hw⟩
  exact ⟨rfl, Wrote.trans hk hg hw⟩

set_option maxHeartbeats 1600000 in
theorem writeReq_wr (W0 w : World) (B : Nat) (g : Option Nat) (xs : List Int) (r : Rq) (h : Wrote W0 B g xs w) (hl : xs.length ≤ 700000) :
    Calls Tryz.prog 67 #[.pointer (some ⟨B, 0, none⟩), .agg r.cells.toArray] w fun e w' => e = .returned (.tuple #[]) ∧ Wrote W0 B g (xs ++ r.bytes) w' := by
  obtain ⟨g0, hw0, hk0, hg0⟩ := h
  obtain ⟨W, hW⟩ : ∃ W, W = w.alloc (.cells r.cells.toArray 27) := ⟨_, rfl⟩
  have hbl : Below w.heap.size w W := by rw [hW]; exact (Below.refl _ _).alloc (Nat.le_refl _) _
  have hblk : W.heap[w.heap.size]? = some (.cells r.cells.toArray 27 (0, 0)) := by rw [hW]; exact heap_alloc_new _ _
  have hne : w.heap.size ≠ B := by have := hw0.lt; omega
  have hng : g0 ≠ some w.heap.size := by
    obtain ⟨ao, n, cap, hb, ho, h1, h2⟩ := hw0
    intro e
    have := own_lt ho (h1.trans e)
    omega
  have S0 : Wrote W B g0 xs W := Wrote.start (hw0.below hbl)
  have stay : ∀ ys w', Wrote W B g0 ys w' → w'.heap[w.heap.size]? = some (.cells r.cells.toArray 27 (0, 0)) := fun _ _ h => h.stay hblk hne hng
  have HST := Lib.hid stay
  have HS0 := Lib.hid S0
  have HEND : Hid (∀ ys w', Wrote W B g0 ys w' → Wrote W0 B g ys w') := Lib.hid (fun ys w' h => Wrote.trans hk0 hg0 (Wrote.trans (Kept.ofBelow hbl) (.inl rfl) h))
  have q0 : W.cell? ⟨w.heap.size, 0, none⟩ = some (.int .u8 r.c) := by rw [cell_of_row _ _ _ _ _ _ hblk]; rfl
  have HW := Lib.hid hW
  clear hW hblk hne hng S0 stay hbl hw0 hk0 hg0
  simp only [Rq.cells] at HW ⊢
  go_enter Tryz.func67, Tryz.ntmps67
  go_wp2_with fail
  rw [← HW.out]
  refine Calls.mono (u8_wr W W B g0 xs r.c HS0.out (by omega)) ?_
  rintro e w1 ⟨rfl, h1⟩
  have p := HST.out _ _ h1
  have q1 : w1.cell? ⟨w.heap.size, 1, none⟩ = some (.int .u32 r.t) := by rw [cell_of_row _ _ _ _ _ _ p]; rfl
  have H1 := Lib.hid h1
  clear h1 p q0 HW
  go_wp2_with fail
  refine Calls.mono (u32_wr W w1 B g0 _ r.t H1.out (by simp; omega)) ?_
  rintro e w2 ⟨rfl, h1⟩
  have p := HST.out _ _ h1
  have q2 : w2.cell? ⟨w.heap.size, 2, none⟩ = some (.int .u8 r.k) := by rw [cell_of_row _ _ _ _ _ _ p]; rfl
  have H2 := Lib.hid h1
  clear h1 p q1
  go_wp2_with fail
  refine Calls.mono (u8_wr W w2 B g0 _ r.k H2.out (by simp [b4]; omega)) ?_
  rintro e w3 ⟨rfl, h1⟩
  have p := HST.out _ _ h1
  have q3 : w3.cell? ⟨w.heap.size, 3, none⟩ = some (.int .u8 r.y) := by rw [cell_of_row _ _ _ _ _ _ p]; rfl
  have H3 := Lib.hid h1
  clear h1 p q2
  go_wp2_with fail
  refine Calls.mono (u8_wr W w3 B g0 _ r.y H3.out (by simp [b4]; omega)) ?_
  rintro e w4 ⟨rfl, h1⟩
  have p := HST.out _ _ h1
  have q4 : w4.cell? ⟨w.heap.size, 4, none⟩ = some (.int .u16 r.v) := by rw [cell_of_row _ _ _ _ _ _ p]; rfl
  have H4 := Lib.hid h1
  clear h1 p q3
  go_wp2_with fail
  refine Calls.mono (u16_wr W w4 B g0 _ r.v H4.out (by simp [b4]; omega)) ?_
  rintro e w5 ⟨rfl, h1⟩
  have H5 := Lib.hid (HEND.out _ _ h1)
  clear h1 q4
  go_wp2_with fail
  go_end0
  refine ⟨rfl, ?_⟩
  have := H5.out
  simpa [Rq.bytes, List.append_assoc] using this

set_option maxHeartbeats 4000000 in
theorem write_wr (W0 w : World) (B : Nat) (g : Option Nat) (xs : List Int) (m : Mg) (p : Int) (h0 : 0 ≤ p) (h6 : p ≤ 6) (h : Wrote W0 B g xs w) (hl : xs.length ≤ 600000) :
    Calls Tryz.prog 26 #[.pointer (some ⟨B, 0, none⟩), .agg m.cells.toArray, .int .u8 p] w fun e w' => e = .returned (.tuple #[]) ∧ Wrote W0 B g (xs ++ wordB m p) w' := by
  obtain ⟨b, hb⟩ : ∃ b, b = wordB m p := ⟨_, rfl⟩
  rw [← hb]
  unfold wordB at hb
  have HB := Lib.hid hb
  obtain ⟨W, hW⟩ : ∃ W, W = w.alloc (.cells m.cells.toArray 37) := ⟨_, rfl⟩
  have hbl : Below w.heap.size w W := by rw [hW]; exact (Below.refl _ _).alloc (Nat.le_refl _) _
  have hbx : W.heap[w.heap.size]? = some (.cells m.cells.toArray 37 (0, 0)) := by rw [hW]; exact heap_alloc_new _ _
  have HS := Lib.hid (h.new hbl)
  have q4 : W.cell? ⟨w.heap.size, 4, none⟩ = some (.int .u32 m.vw) := cell_box hbx 4
  have q5 : W.cell? ⟨w.heap.size, 5, none⟩ = some (.int .u32 m.sq) := cell_box hbx 5
  have q6 : W.cell? ⟨w.heap.size, 6, none⟩ = some (.int .u8 m.rq.c) := cell_box hbx 6
  have q7 : W.cell? ⟨w.heap.size, 7, none⟩ = some (.int .u32 m.rq.t) := cell_box hbx 7
  have q8 : W.cell? ⟨w.heap.size, 8, none⟩ = some (.int .u8 m.rq.k) := cell_box hbx 8
  have q9 : W.cell? ⟨w.heap.size, 9, none⟩ = some (.int .u8 m.rq.y) := cell_box hbx 9
  have q10 : W.cell? ⟨w.heap.size, 10, none⟩ = some (.int .u16 m.rq.v) := cell_box hbx 10
  have q11 : W.cell? ⟨w.heap.size, 11, none⟩ = some (.int .u64 m.ro) := cell_box hbx 11
  have q12 : W.cell? ⟨w.heap.size, 12, none⟩ = some (.int .u8 m.ct) := cell_box hbx 12
  have q13 : W.cell? ⟨w.heap.size, 13, none⟩ = some (.int .u8 m.pg) := cell_box hbx 13
  have q14 : W.cell? ⟨w.heap.size, 14, none⟩ = some (.int .u32 m.rs) := cell_box hbx 14
  have HW := Lib.hid hW
  clear hW hbx hbl hb h
  simp only [Mg.cells] at HW ⊢
  go_enter Tryz.func26, Tryz.ntmps26
  go_upto_region 1 with fail
  rw [← HW.out]
  have eA : (#[.int .u8 m.k, .int .u8 m.f, .int .u8 m.t, .int .u8 m.e, .int .u32 m.vw, .int .u32 m.sq, .int .u8 m.rq.c, .int .u32 m.rq.t, .int .u8 m.rq.k, .int .u8 m.rq.y, .int .u16 m.rq.v, .int .u64 m.ro, .int .u8 m.ct, .int .u8 m.pg, .int .u32 m.rs, .int .u8 m.vt.f, .int .u8 m.vt.e, .int .u32 m.vt.vw, .int .u32 m.vt.lo, .slice m.vt.ms.a m.vt.ms.n m.vt.ms.c, .slice m.vt.p.a m.vt.p.n m.vt.p.c, .slice m.vt.q.a m.vt.q.n m.vt.q.c, .slice m.vs.a m.vs.n m.vs.c, .slice m.sm.a m.sm.n m.sm.c, .slice m.dt.a m.dt.n m.dt.c] : Array Value) = m.cells.toArray := rfl
  rw [eA]
  clear eA HW
  generalize m.cells.toArray = A
  have hcase : p = 0 ∨ p = 1 ∨ p = 2 ∨ p = 3 ∨ p = 4 ∨ p = 5 ∨ p = 6 := by omega
  rcases hcase with rfl | rfl | rfl | rfl | rfl | rfl | rfl
  · go_wp2_with fail
    refine Calls.mono (u32_wr W0 W B g xs m.vw HS.out (by omega)) ?_
    rintro e w1 ⟨rfl, h1⟩
    have H1 := Lib.hid h1
    clear h1
    go_wp2_with fail
    go_end0
    exact ⟨rfl, by rw [HB.out]; exact H1.out⟩
  · go_wp2_with fail
    refine Calls.mono (u32_wr W0 W B g xs m.sq HS.out (by omega)) ?_
    rintro e w1 ⟨rfl, h1⟩
    have H1 := Lib.hid h1
    clear h1
    go_wp2_with fail
    go_end0
    exact ⟨rfl, by rw [HB.out]; exact H1.out⟩
  · go_wp2_with fail
    refine Calls.mono (writeReq_wr W0 W B g xs m.rq HS.out (by omega)) ?_
    rintro e w1 ⟨rfl, h1⟩
    have H1 := Lib.hid h1
    clear h1
    go_wp2_with fail
    go_end0
    exact ⟨rfl, by rw [HB.out]; exact H1.out⟩
  · go_wp2_with fail
    refine Calls.mono (u64_wr W0 W B g xs m.ro HS.out (by omega)) ?_
    rintro e w1 ⟨rfl, h1⟩
    have H1 := Lib.hid h1
    clear h1
    go_wp2_with fail
    go_end0
    exact ⟨rfl, by rw [HB.out]; exact H1.out⟩
  · go_wp2_with fail
    refine Calls.mono (u8_wr W0 W B g xs m.ct HS.out (by omega)) ?_
    rintro e w1 ⟨rfl, h1⟩
    have H1 := Lib.hid h1
    clear h1
    go_wp2_with fail
    go_end0
    exact ⟨rfl, by rw [HB.out]; exact H1.out⟩
  · go_wp2_with fail
    refine Calls.mono (u8_wr W0 W B g xs m.pg HS.out (by omega)) ?_
    rintro e w1 ⟨rfl, h1⟩
    have H1 := Lib.hid h1
    clear h1
    go_wp2_with fail
    go_end0
    exact ⟨rfl, by rw [HB.out]; exact H1.out⟩
  · go_wp2_with fail
    refine Calls.mono (u32_wr W0 W B g xs m.rs HS.out (by omega)) ?_
    rintro e w1 ⟨rfl, h1⟩
    have H1 := Lib.hid h1
    clear h1
    go_wp2_with fail
    go_end0
    exact ⟨rfl, by rw [HB.out]; exact H1.out⟩
theorem parts_new (k : Int) (w : World) : Calls Tryz.prog 25 #[.int .u8 k] w fun e w' => ∃ ao, e = .returned (.slice ao (partsOf k).length (partsOf k).length) ∧ Bytes w' ao (partsOf k) ∧ (∀ ad, ao = some ad → ad.block = w.heap.size) ∧ Below w.heap.size w w' := by
  by_cases h1 : k = 1
  · subst h1
    go_enter Tryz.func25, Tryz.ntmps25
    go_wp2
    go_ret
    exact ⟨some ⟨w.heap.size, 0, none⟩, rfl, bytes_new w [2] 61, (fun ad h => by injection h with h; rw [← h]), (Below.refl _ _).alloc (Nat.le_refl _) _⟩
  by_cases h2 : k = 2
  · subst h2
    go_enter Tryz.func25, Tryz.ntmps25
    go_wp2
    go_ret
    exact ⟨some ⟨w.heap.size, 0, none⟩, rfl, bytes_new w [0, 1, 2] 61, (fun ad h => by injection h with h; rw [← h]), (Below.refl _ _).alloc (Nat.le_refl _) _⟩
  by_cases h3 : k = 3
  · subst h3
    go_enter Tryz.func25, Tryz.ntmps25
    go_wp2
    go_ret
    exact ⟨some ⟨w.heap.size, 0, none⟩, rfl, bytes_new w [0, 1, 2] 61, (fun ad h => by injection h with h; rw [← h]), (Below.refl _ _).alloc (Nat.le_refl _) _⟩
  by_cases h4 : k = 4
  · subst h4
    go_enter Tryz.func25, Tryz.ntmps25
    go_wp2
    go_ret
    exact ⟨some ⟨w.heap.size, 0, none⟩, rfl, bytes_new w [0, 1, 2] 61, (fun ad h => by injection h with h; rw [← h]), (Below.refl _ _).alloc (Nat.le_refl _) _⟩
  by_cases h5 : k = 5
  · subst h5
    go_enter Tryz.func25, Tryz.ntmps25
    go_wp2
    go_ret
    exact ⟨some ⟨w.heap.size, 0, none⟩, rfl, bytes_new w [1, 3] 61, (fun ad h => by injection h with h; rw [← h]), (Below.refl _ _).alloc (Nat.le_refl _) _⟩
  by_cases h6 : k = 6
  · subst h6
    go_enter Tryz.func25, Tryz.ntmps25
    go_wp2
    go_ret
    exact ⟨some ⟨w.heap.size, 0, none⟩, rfl, bytes_new w [7] 61, (fun ad h => by injection h with h; rw [← h]), (Below.refl _ _).alloc (Nat.le_refl _) _⟩
  by_cases h7 : k = 7
  · subst h7
    go_enter Tryz.func25, Tryz.ntmps25
    go_wp2
    go_ret
    exact ⟨some ⟨w.heap.size, 0, none⟩, rfl, bytes_new w [0, 8] 61, (fun ad h => by injection h with h; rw [← h]), (Below.refl _ _).alloc (Nat.le_refl _) _⟩
  by_cases h8 : k = 8
  · subst h8
    go_enter Tryz.func25, Tryz.ntmps25
    go_wp2
    go_ret
    exact ⟨some ⟨w.heap.size, 0, none⟩, rfl, bytes_new w [4] 61, (fun ad h => by injection h with h; rw [← h]), (Below.refl _ _).alloc (Nat.le_refl _) _⟩
  by_cases h9 : k = 9
  · subst h9
    go_enter Tryz.func25, Tryz.ntmps25
    go_wp2
    go_ret
    exact ⟨some ⟨w.heap.size, 0, none⟩, rfl, bytes_new w [4] 61, (fun ad h => by injection h with h; rw [← h]), (Below.refl _ _).alloc (Nat.le_refl _) _⟩
  by_cases h10 : k = 10
  · subst h10
    go_enter Tryz.func25, Tryz.ntmps25
    go_wp2
    go_ret
    exact ⟨some ⟨w.heap.size, 0, none⟩, rfl, bytes_new w [4, 1] 61, (fun ad h => by injection h with h; rw [← h]), (Below.refl _ _).alloc (Nat.le_refl _) _⟩
  by_cases h11 : k = 11
  · subst h11
    go_enter Tryz.func25, Tryz.ntmps25
    go_wp2
    go_ret
    exact ⟨some ⟨w.heap.size, 0, none⟩, rfl, bytes_new w [1, 5] 61, (fun ad h => by injection h with h; rw [← h]), (Below.refl _ _).alloc (Nat.le_refl _) _⟩
  by_cases h12 : k = 12
  · subst h12
    go_enter Tryz.func25, Tryz.ntmps25
    go_wp2
    go_ret
    exact ⟨some ⟨w.heap.size, 0, none⟩, rfl, bytes_new w [1, 9] 61, (fun ad h => by injection h with h; rw [← h]), (Below.refl _ _).alloc (Nat.le_refl _) _⟩
  by_cases h13 : k = 13
  · subst h13
    go_enter Tryz.func25, Tryz.ntmps25
    go_wp2
    go_ret
    exact ⟨some ⟨w.heap.size, 0, none⟩, rfl, bytes_new w [1, 5, 10] 61, (fun ad h => by injection h with h; rw [← h]), (Below.refl _ _).alloc (Nat.le_refl _) _⟩
  by_cases h14 : k = 14
  · subst h14
    go_enter Tryz.func25, Tryz.ntmps25
    go_wp2
    go_ret
    exact ⟨some ⟨w.heap.size, 0, none⟩, rfl, bytes_new w [0, 2, 6] 61, (fun ad h => by injection h with h; rw [← h]), (Below.refl _ _).alloc (Nat.le_refl _) _⟩
  · have e0 : partsOf k = [] := by unfold partsOf; simp [h1, h2, h3, h4, h5, h6, h7, h8, h9, h10, h11, h12, h13, h14]
    rw [e0]
    go_enter Tryz.func25, Tryz.ntmps25
    go_wp2
    go_ret
    exact ⟨none, rfl, (fun i hi => by simp at hi), (fun ad h => by cases h), Below.refl _ _⟩

/-- what Encode leaves -/
def EncDone (w w' : World) (ib : Bool) (bs : List Int) (e : Ending) : Prop :=
  (ib = false → e = .returned (.tuple #[.slice none 0 0, .int .i64 30])) ∧
  (ib = true → bs.length ≤ 8000 → ∃ ao c, e = .returned (.tuple #[.slice ao bs.length c, .int .i64 0]) ∧ New w.heap.size w' ao c bs) ∧
  (ib = true → 8000 < bs.length → e = .returned (.tuple #[.slice none 0 0, .int .i64 21])) ∧ Below w.heap.size w w'

theorem New.mono {H K : Nat} {w : World} {ao : Option Addr} {c : Nat} {l : List Int} (h : New H w ao c l) (hk : K ≤ H) : New K w ao c l := ⟨h.1, fun ad e => Nat.le_trans hk (h.2 ad e)⟩

theorem flat_len (pb : Int → List Int) : ∀ ps : List Int, (∀ p ∈ ps, (pb p).length ≤ 100000) → (ps.flatMap pb).length ≤ 100000 * ps.length
  | [], _ => by simp
  | p :: r, h => by
    have h1 := h p (by simp)
    have h2 := flat_len pb r (fun q hq => h q (by simp [hq]))
    simp only [List.flatMap_cons, List.length_append, List.length_cons]
    omega

def encUp (m : Mg) (pb : Int → List Int) (ps : List Int) : List Int := [m.k, m.f, m.t, m.e] ++ ps.flatMap pb

set_option maxHeartbeats 8000000 in
theorem encode_any (w : World) (m : Mg) (ib : Bool) (pb : Int → List Int) (hpb : ∀ p ∈ partsOf m.k, (pb p).length ≤ 100000)
    (hi : ∀ w1, Below w.heap.size w w1 → Calls Tryz.prog 10 #[.agg m.cells.toArray] w1 fun e w2 => e = .returned (.bool ib) ∧ Below w1.heap.size w1 w2)
    (hw : ib = true → ∀ p ∈ partsOf m.k, ∀ W0 w1 B g xs, Below w.heap.size w w1 → Wrote W0 B g xs w1 → xs.length ≤ 600000 → Calls Tryz.prog 26 #[.pointer (some ⟨B, 0, none⟩), .agg m.cells.toArray, .int .u8 p] w1 fun e w2 => e = .returned (.tuple #[]) ∧ Wrote W0 B g (xs ++ pb p) w2) :
    Calls Tryz.prog 8 #[.agg m.cells.toArray] w fun e w' => EncDone w w' ib (encUp m pb (partsOf m.k)) e := by
  have hpl := partsOf_len m.k
  have CP := Lib.hid (parts_new m.k)
  generalize hPS : partsOf m.k = ps at *
  obtain ⟨W, hW⟩ : ∃ W, W = w.alloc (.cells m.cells.toArray 37) := ⟨_, rfl⟩
  have hbx : W.heap[w.heap.size]? = some (.cells m.cells.toArray 37 (0, 0)) := by rw [hW]; exact heap_alloc_new _ _
  have hbl : Below w.heap.size w W := by rw [hW]; exact (Below.refl _ _).alloc (Nat.le_refl _) _
  have HBX := Lib.hid hbx
  have HBL := Lib.hid hbl
  have HW := Lib.hid hW
  have HI := Lib.hid hi
  have HWR := Lib.hid hw
  have HPB := Lib.hid hpb
  clear hW hbx hbl hi hw hpb hPS
  simp only [Mg.cells] at HW ⊢
  go_enter Tryz.func8, Tryz.ntmps8
  go_upto_region 1 with fail
  rw [← HW.out]
  have eA : (#[.int .u8 m.k, .int .u8 m.f, .int .u8 m.t, .int .u8 m.e, .int .u32 m.vw, .int .u32 m.sq, .int .u8 m.rq.c, .int .u32 m.rq.t, .int .u8 m.rq.k, .int .u8 m.rq.y, .int .u16 m.rq.v, .int .u64 m.ro, .int .u8 m.ct, .int .u8 m.pg, .int .u32 m.rs, .int .u8 m.vt.f, .int .u8 m.vt.e, .int .u32 m.vt.vw, .int .u32 m.vt.lo, .slice m.vt.ms.a m.vt.ms.n m.vt.ms.c, .slice m.vt.p.a m.vt.p.n m.vt.p.c, .slice m.vt.q.a m.vt.q.n m.vt.q.c, .slice m.vs.a m.vs.n m.vs.c, .slice m.sm.a m.sm.n m.sm.c, .slice m.dt.a m.dt.n m.dt.c] : Array Value) = m.cells.toArray := rfl
  rw [eA]
  clear eA HW
  have hsz : m.cells.toArray.size = 25 := rfl
  have HQ := Lib.hid (fun (w' : World) (h : w'.heap[w.heap.size]? = some (.cells m.cells.toArray 37 (0, 0))) (i : Nat) => cell_box h i)
  generalize hA : m.cells.toArray = A at *
  have HSZ := Lib.hid hsz
  clear hA hsz
  refine wp_region_lit ?_
  refine wpList_load_row rfl 37 (.tmp 1) rfl w.heap.size rfl 37 _ (0, 0) _ HBX.out Tryz.underlying37 rfl (by rw [HSZ.out]; exact size37) ?_
  go_wp2_with fail
  refine Calls.mono (HI.out _ HBL.out) ?_
  rintro e w1 ⟨rfl, hb1⟩
  have B1 := Lib.hid (HBL.out.trans (hb1.mono HBL.out.size))
  have X1 := Lib.hid ((hb1.block w.heap.size (lt_of_block HBX.out)).trans HBX.out)
  clear hb1
  cases ib
  · go_wp2_with fail
    go_ret2
    exact ⟨fun _ => rfl, (fun h => by cases h), (fun h => by cases h), B1.out⟩
  · go_wp2_with fail
    refine Calls.mono (new_any _) ?_
    rintro e w2 ⟨rfl, rfl⟩
    have hxb : (w1.alloc (.cells #[.slice none 0 0] 107)).heap[w.heap.size]? = some (.cells A 37 (0, 0)) := by rw [heap_alloc_old _ _ (lt_of_block X1.out)]; exact X1.out
    have B2 := B1.out.alloc (Nat.le_of_lt (lt_of_block X1.out)) (.cells #[.slice none 0 0] 107)
    have S0 := Wrote.start (wr_new w1)
    have hlt : w.heap.size < w1.heap.size := lt_of_block X1.out
    generalize hW2 : w1.alloc (.cells #[.slice none 0 0] 107) = W2 at *
    generalize hBB : w1.heap.size = B at *
    have hw2s : B < W2.heap.size := by rw [← hW2, ← hBB]; simp
    have HB2 := Lib.hid B2
    have H0 := Lib.hid S0
    have HXB := Lib.hid hxb
    have HST := Lib.hid (fun ys w' (h : Wrote W2 B none ys w') => h.stay hxb (by omega) (by intro e; cases e))
    have q : W2.cell? ⟨w.heap.size, 0, none⟩ = some (.int .u8 m.k) := HQ.out _ hxb 0
    clear B2 S0 hxb hW2 hBB
    go_wp2_with fail
    clear q
    refine Calls.mono (u8_wr W2 _ B none _ m.k H0.out (by simp)) ?_
    rintro e v1 ⟨rfl, h1⟩
    have p := HST.out _ _ h1
    have H1 := Lib.hid h1
    have q : v1.cell? ⟨w.heap.size, 1, none⟩ = some (.int .u8 m.f) := HQ.out _ p 1
    clear h1 p
    go_wp2_with fail
    clear q
    refine Calls.mono (u8_wr W2 _ B none _ m.f H1.out (by simp)) ?_
    rintro e v2 ⟨rfl, h1⟩
    have p := HST.out _ _ h1
    have H2 := Lib.hid h1
    have q : v2.cell? ⟨w.heap.size, 2, none⟩ = some (.int .u8 m.t) := HQ.out _ p 2
    clear h1 p
    go_wp2_with fail
    clear q
    refine Calls.mono (u8_wr W2 _ B none _ m.t H2.out (by simp)) ?_
    rintro e v3 ⟨rfl, h1⟩
    have p := HST.out _ _ h1
    have H3 := Lib.hid h1
    have q : v3.cell? ⟨w.heap.size, 3, none⟩ = some (.int .u8 m.e) := HQ.out _ p 3
    clear h1 p
    go_wp2_with fail
    clear q
    refine Calls.mono (u8_wr W2 _ B none _ m.e H3.out (by simp)) ?_
    rintro e v4 ⟨rfl, h1⟩
    have p := HST.out _ _ h1
    have q : v4.cell? ⟨w.heap.size, 0, none⟩ = some (.int .u8 m.k) := HQ.out _ p 0
    have H4 := Lib.hid h1
    have X4 := Lib.hid p
    clear h1 p
    go_wp2_with fail
    clear q
    refine Calls.mono (CP.out _) ?_
    rintro e wp ⟨ao, rfl, hby, hnb, hbp⟩
    obtain ⟨g1, hwr4, hk4, hg4⟩ := H4.out
    have hg1b : ∀ k, g1 = some k → B < k := fun k e => by
      rcases hg4 with e' | ⟨k', e', hk'⟩
      · rw [e'] at e; cases e
      · rw [e'] at e; injection e with e; omega
    have hgx : g1 ≠ some w.heap.size := fun e => by have := hg1b _ e; omega
    have hglt : ∀ k, g1 = some k → k < v4.heap.size := fun k e => by
      obtain ⟨a5, n5, c5, hb5, ho5, h51, h52⟩ := hwr4
      exact own_lt ho5 (h51.trans e)
    have hBlt : B < v4.heap.size := hwr4.lt
    have hxp : wp.heap[w.heap.size]? = some (.cells A 37 (0, 0)) := (hbp.block _ (lt_of_block X4.out)).trans X4.out
    have BWP : Below w.heap.size w wp := HB2.out.trans ((H4.out.new hbp).bel (H := w.heap.size) (by omega) (by omega) (fun k e => by cases e))
    have S4 := Lib.hid (Wrote.start (hwr4.below hbp))
    have HKB := Lib.hid (fun ys w' (h : Wrote wp B g1 ys w') => BWP.trans (h.bel (H := w.heap.size) BWP.size (by omega) (fun k e => by have := hg1b k e; omega)))
    have HKX := Lib.hid (fun ys w' (h : Wrote wp B g1 ys w') => h.stay hxp (by omega) hgx)
    have HKP := Lib.hid (fun ys w' (h : Wrote wp B g1 ys w') => by
      obtain ⟨g2, _, hk2, _⟩ := h
      exact bytes_kept hby hk2 (fun ad e _ hS => by
        have e1 := hnb ad e
        rcases hS with hS | hS
        · omega
        · have := hglt _ hS.symm; omega))
    clear hwr4 hk4 hg4 hg1b hgx hglt hBlt hxp BWP hby hnb hbp
    generalize hln : ps.length = n at *
    have HLN := Lib.hid hln
    clear hln
    go_wp2_with fail
    go_loopw [6, 32] (fun _ vi wr => ∃ j : Nat, j ≤ n ∧ vi = .int .i64 j ∧ Hid (Wrote wp B g1 (encUp m pb (ps.take j)) wr)) (fun _ i _ => n - (intOf i).toNat)
    case atStart => exact ⟨0, by omega, rfl, Lib.hid (by simpa [encUp] using S4.out)⟩
    case round =>
      obtain ⟨j, hj, rfl, HR⟩ := hrel
      by_cases hlt2 : j < n
      · obtain ⟨ad, rfl, hc⟩ := HKP.out _ _ HR.out j (by rw [HLN.out]; exact hlt2)
        obtain ⟨p, hpd⟩ : ∃ p, p = ps.getD j 0 := ⟨_, rfl⟩
        rw [← hpd] at hc
        have hj' : ps[j]? = some p := by rw [hpd, List.getD_eq_getElem?_getD, List.getElem?_eq_getElem (by rw [HLN.out]; exact hlt2)]; rfl
        have hmem : p ∈ ps := List.mem_of_getElem? hj'
        have hs : encUp m pb (ps.take (j + 1)) = encUp m pb (ps.take j) ++ pb p := by rw [List.take_add_one, hj']; simp [encUp, List.flatMap_append]
        have hlen : (encUp m pb (ps.take j)).length ≤ 600000 := by
          have h7 := flat_len pb (ps.take j) (fun q hq => HPB.out q (List.mem_of_mem_take hq))
          have h8 : (ps.take j).length ≤ 3 := by simp; omega
          simp only [encUp, List.length_append, List.length_cons, List.length_nil]
          omega
        have F := Lib.hid (HWR.out (by first | rfl | trivial) p hmem wp wr B g1 _ (HKB.out _ _ HR.out) HR.out hlen)
        have XW := Lib.hid (HKX.out _ _ HR.out)
        have HS := Lib.hid hs
        clear hpd hj' hmem hs hlen
        go_upto_region 11 with fail
        refine wp_region_lit ?_
        refine wpl_val (v := .pointer (some ⟨B, 0, none⟩)) (w1 := wr) rfl (by go_simp) _ rfl ?_
        refine wpList_load_row rfl 37 (.tmp 1) rfl w.heap.size rfl 37 _ (0, 0) _ XW.out Tryz.underlying37 rfl (by rw [HSZ.out]; exact size37) ?_
        go_wp2_with fail
        refine Calls.mono F.out ?_
        rintro e w5 ⟨rfl, h5⟩
        rw [← HS.out] at h5
        have H5 := Lib.hid h5
        clear h5
        go_wp2_with fail
        go_round
        case measure => simp [intOf]; omega
        case rel => exact ⟨j + 1, by omega, by go_num, H5⟩
      · obtain rfl : j = n := by omega
        have hR := HR.out
        rw [List.take_of_length_le (by rw [HLN.out]; exact Nat.le_refl _)] at hR
        have hlen : (encUp m pb ps).length ≤ 600000 := by
          have h7 := flat_len pb ps (fun q hq => HPB.out q hq)
          have h8 := HLN.out
          simp only [encUp, List.length_append, List.length_cons, List.length_nil]
          omega
        have BWR := Lib.hid (HKB.out _ _ hR)
        obtain ⟨g2, hw2, -, -⟩ := hR
        obtain ⟨bs, hbs⟩ : ∃ bs, bs = encUp m pb ps := ⟨_, rfl⟩
        rw [← hbs] at hw2 hlen
        have HBS := Lib.hid hbs
        clear hbs
        have C := Lib.hid (all_any wr B g2 bs hw2 (by omega))
        generalize hbl : bs.length = bl at *
        have HBLN := Lib.hid hbl
        clear hw2 hbl
        go_wp2_with fail
        refine Calls.mono C.out ?_
        rintro e w6 ⟨ao6, c6, rfl, hnew, hb6⟩
        have HNEW := Lib.hid hnew
        have B6 := Lib.hid (BWR.out.trans (hb6.mono BWR.out.size))
        clear hnew hb6
        by_cases hbig : bl ≤ 8000
        · have hbigI : ¬ (bl : Int) > 8000 := by omega
          go_wp2_with fail
          go_ret2
          rw [← HBS.out]
          refine ⟨(fun h => by cases h), fun _ _ => ⟨ao6, c6, ?_, HNEW.out.mono BWR.out.size⟩, (fun _ h => by rw [HBLN.out] at h; omega), B6.out⟩
          rw [HBLN.out]; rfl
        · have hbigI : (bl : Int) > 8000 := by omega
          go_wp2_with fail
          go_ret2
          rw [← HBS.out]
          exact ⟨(fun h => by cases h), (fun _ h => by rw [HBLN.out] at h; omega), (fun _ _ => rfl), B6.out⟩
end Go.Proofs.YtbpfkeeikhhlnaaGreatDoor
namespace Go.Proofs.YtbpfkeeikhhlnaaGreatDoor
open Go.RowKit
set_option maxRecDepth 100000

/-- what lies in w lies apart from the writer, and is as it was when the writer began -/
structure Fro (w W0 : World) (B : Nat) (g : Option Nat) : Prop where
  bel : Below w.heap.size w W0
  hB : w.heap.size ≤ B
  hg : ∀ k, g = some k → w.heap.size ≤ k
theorem Fro.on {w W0 w1 : World} {B : Nat} {g : Option Nat} {ys : List Int} (h : Fro w W0 B g) (hw : Wrote W0 B g ys w1) : Below w.heap.size w w1 :=
  h.bel.trans (hw.bel (H := w.heap.size) h.bel.size h.hB h.hg)

def enB (x : En) : List Int := b4 x.s ++ (b4 x.v ++ x.rq.bytes)
def mkB (x : Mk) : List Int := b4 x.s ++ be8 x.r
def entsB (l : List En) : List Int := [(l.length : Int)] ++ l.flatMap enB
def marksY (l : List Mk) : List Int := [(l.length : Int)] ++ l.flatMap mkB
def voteY (v : Vt) (c : Vc) : List Int := [v.f] ++ ([v.e] ++ (b4 v.vw ++ (b4 v.lo ++ (marksY c.ms ++ (entsB c.p ++ entsB c.q)))))

theorem be8_len (x : Int) : (be8 x).length = 8 := by simp [be8]
theorem enB_len (x : En) : (enB x).length = 17 := by simp [enB, b4, Rq.bytes, b2]
theorem mkB_len (x : Mk) : (mkB x).length = 12 := by simp [mkB, b4, be8_len]
theorem flatMap_len {α : Type} {f : α → List Int} {k : Nat} (h : ∀ x, (f x).length = k) : ∀ l : List α, (l.flatMap f).length = l.length * k
  | [] => by simp
  | x :: r => by simp only [List.flatMap_cons, List.length_append, List.length_cons, h x, flatMap_len h r, Nat.add_mul]; omega
theorem entsB_len (l : List En) : (entsB l).length = 1 + l.length * 17 := by simp [entsB, flatMap_len enB_len]; omega
theorem marksY_len (l : List Mk) : (marksY l).length = 1 + l.length * 12 := by simp [marksY, flatMap_len mkB_len]; omega

/-- a block laid since is no part of the writer -/
theorem Wrote.fresh {W0 w W : World} {B : Nat} {g : Option Nat} {ys : List Int} (h : Wrote W0 B g ys w) {o : Obj} (hW : W = w.alloc o) {ob : Obj} (hob : W.heap[w.heap.size]? = some ob) :
    ∃ g0, Wrote W B g0 ys W ∧ (∀ zs w', Wrote W B g0 zs w' → Wrote W0 B g zs w') ∧ (∀ zs w', Wrote W B g0 zs w' → w'.heap[w.heap.size]? = some ob) ∧ ∀ wd, Fro wd W0 B g → Fro wd W B g0 := by
  have hh := h
  obtain ⟨g0, hw0, hk0, hg0⟩ := h
  have hbl : Below w.heap.size w W := by rw [hW]; exact (Below.refl _ _).alloc (Nat.le_refl _) _
  have hne : w.heap.size ≠ B := by have := hw0.lt; omega
  have hng : g0 ≠ some w.heap.size := by
    obtain ⟨ao, n, cap, hb, ho, h1, h2⟩ := hw0
    intro e
    have := own_lt ho (h1.trans e)
    omega
  exact ⟨g0, Wrote.start (hw0.below hbl), fun zs w' h => Wrote.trans hk0 hg0 (Wrote.trans (Kept.ofBelow hbl) (.inl rfl) h), fun zs w' h => h.stay hob hne hng, fun wd hF => ⟨(hF.on hh).trans (hbl.mono (hF.on hh).size), hF.hB, fun k e => by
    rcases hg0 with e' | ⟨k', e', hk'⟩
    · exact hF.hg k (e'.symm.trans e)
    · rw [e'] at e; injection e with e; have := hF.bel.size; omega⟩⟩

set_option maxHeartbeats 4000000 in
theorem writeEntries_wr (w W0 w1 : World) (B : Nat) (g : Option Nat) (ys : List Int) (v : Sl) (l : List En) (hF : Fro w W0 B g) (hr : Row w 7 En.cells v.val l) (h : Wrote W0 B g ys w1) (hl : ys.length ≤ 600000) (h40 : l.length ≤ 40) :
    Calls Tryz.prog 96 #[.pointer (some ⟨B, 0, none⟩), .slice v.a v.n v.c] w1 fun e w2 => e = .returned (.tuple #[]) ∧ Wrote W0 B g (ys ++ entsB l) w2 := by
  obtain ⟨a1, c1, q1, -, -, hn1, hr1⟩ := hr
  simp only [Sl.val] at q1
  rw [q1]
  clear q1
  have H1 := Lib.hid hr1
  have HF := Lib.hid hF
  have H := Lib.hid h
  obtain ⟨r, hrr⟩ : ∃ r, r = entsB l := ⟨_, rfl⟩
  rw [← hrr]
  unfold entsB at hrr
  have HR := Lib.hid hrr
  clear hr1 hF h hrr
  generalize hn : l.length = n at *
  have HN := Lib.hid hn
  clear hn
  go_enter Tryz.func96, Tryz.ntmps96
  go_wp2_with fail
  refine Calls.mono (u8_wr W0 w1 B g ys n H.out (by omega)) ?_
  rintro e w2 ⟨rfl, h2⟩
  have H2 := Lib.hid h2
  clear h2 H
  go_wp2_with fail
  go_loopw [13] (fun vi wr => ∃ j : Nat, j ≤ n ∧ vi = .int .i64 j ∧ Hid (Wrote W0 B g (ys ++ ([(n : Int)] ++ (l.take j).flatMap enB)) wr)) (fun i _ => n - (intOf i).toNat)
  case atStart => exact ⟨0, by omega, rfl, Lib.hid (by simpa using H2.out)⟩
  case round =>
    obtain ⟨j, hj, rfl, HW⟩ := hrel
    by_cases hlt : j < n
    · obtain ⟨x, hx⟩ : ∃ x, l[j]? = some x := ⟨_, List.getElem?_eq_getElem (by rw [HN.out]; exact hlt)⟩
      obtain ⟨b1, o1, e1, g1⟩ := H1.out j x hx
      have G : ∀ i u, x.cells[i]? = some u → wr.cell? ⟨b1, o1 + j * 7 + i, none⟩ = some u := fun i u hu => by
        have h3 := g1 i u hu
        rw [(HF.out.on HW.out).cell (cell_block h3)]; exact h3
      have l10 : wr.cell? ⟨b1, o1 + j * 7, none⟩ = some (.int .u32 x.s) := G 0 _ rfl
      have l11 : wr.cell? ⟨b1, o1 + j * 7 + 1, none⟩ = some (.int .u32 x.v) := G 1 _ rfl
      have l12 : wr.cell? ⟨b1, o1 + j * 7 + 2, none⟩ = some (.int .u8 x.rq.c) := G 2 _ rfl
      have l13 : wr.cell? ⟨b1, o1 + j * 7 + 3, none⟩ = some (.int .u32 x.rq.t) := G 3 _ rfl
      have l14 : wr.cell? ⟨b1, o1 + j * 7 + 4, none⟩ = some (.int .u8 x.rq.k) := G 4 _ rfl
      have l15 : wr.cell? ⟨b1, o1 + j * 7 + 5, none⟩ = some (.int .u8 x.rq.y) := G 5 _ rfl
      have l16 : wr.cell? ⟨b1, o1 + j * 7 + 6, none⟩ = some (.int .u16 x.rq.v) := G 6 _ rfl
      have hstep : ys ++ ([(n : Int)] ++ (l.take (j + 1)).flatMap enB) = (((ys ++ ([(n : Int)] ++ (l.take j).flatMap enB)) ++ b4 x.s) ++ b4 x.v) ++ x.rq.bytes := by
        rw [List.take_add_one, hx]; simp [List.flatMap_append, enB, List.append_assoc]
      have hlen : (ys ++ ([(n : Int)] ++ (l.take j).flatMap enB)).length ≤ 601000 := by
        simp only [List.length_append, flatMap_len enB_len, List.length_take, List.length_cons, List.length_nil]; have := HN.out; omega
      obtain ⟨W, hW⟩ : ∃ W, W = wr.alloc (.cells x.cells.toArray 80) := ⟨_, rfl⟩
      obtain ⟨g0, S0, send, stay, -⟩ := HW.out.fresh hW (ob := .cells x.cells.toArray 80 (0, 0)) (by rw [hW]; exact heap_alloc_new _ _)
      have HS0 := Lib.hid S0
      have HEND := Lib.hid send
      have HST := Lib.hid stay
      have HSTEP := Lib.hid hstep
      have q0 : W.cell? ⟨wr.heap.size, 0, none⟩ = some (.int .u32 x.s) := by rw [cell_of_row _ _ _ _ _ _ (stay _ _ S0)]; rfl
      have HWW := Lib.hid hW
      generalize hzs : ys ++ ([(n : Int)] ++ (l.take j).flatMap enB) = zs at *
      simp only [En.cells] at HWW
      clear hx g1 G hW S0 send stay hstep hzs
      subst e1
      go_upto_region 4 with fail
      rw [← HWW.out]
      clear HWW l10 l11 l12 l13 l14 l15 l16
      generalize hgs : wr.heap.size = gs at *
      go_wp2_with fail
      refine Calls.mono (u32_wr W W B g0 zs x.s HS0.out (by omega)) ?_
      rintro e v1 ⟨rfl, h1⟩
      have p := HST.out _ _ h1
      have q1 : v1.cell? ⟨gs, 1, none⟩ = some (.int .u32 x.v) := by rw [cell_of_row _ _ _ _ _ _ p]; rfl
      have HV1 := Lib.hid h1
      clear h1 p q0
      go_wp2_with fail
      refine Calls.mono (u32_wr W v1 B g0 _ x.v HV1.out (by simp [b4]; omega)) ?_
      rintro e v2 ⟨rfl, h1⟩
      have p := HST.out _ _ h1
      have r2 : v2.cell? ⟨gs, 2, none⟩ = some (.int .u8 x.rq.c) := by rw [cell_of_row _ _ _ _ _ _ p]; rfl
      have r3 : v2.cell? ⟨gs, 3, none⟩ = some (.int .u32 x.rq.t) := by rw [cell_of_row _ _ _ _ _ _ p]; rfl
      have r4 : v2.cell? ⟨gs, 4, none⟩ = some (.int .u8 x.rq.k) := by rw [cell_of_row _ _ _ _ _ _ p]; rfl
      have r5 : v2.cell? ⟨gs, 5, none⟩ = some (.int .u8 x.rq.y) := by rw [cell_of_row _ _ _ _ _ _ p]; rfl
      have r6 : v2.cell? ⟨gs, 6, none⟩ = some (.int .u16 x.rq.v) := by rw [cell_of_row _ _ _ _ _ _ p]; rfl
      have HV2 := Lib.hid h1
      clear h1 p q1
      go_wp2_with fail
      refine Calls.mono (writeReq_wr W v2 B g0 _ x.rq HV2.out (by simp [b4]; omega)) ?_
      rintro e v3 ⟨rfl, h1⟩
      have HV3 := Lib.hid (HEND.out _ _ h1)
      clear h1 r2 r3 r4 r5 r6
      go_wp2_with fail
      go_round
      case measure => simp [intOf]; omega
      case rel => exact ⟨j + 1, by omega, by go_num, Lib.hid (by rw [HSTEP.out]; exact HV3.out)⟩
    · obtain rfl : j = n := by omega
      have hR := HW.out
      rw [List.take_of_length_le (by rw [HN.out]; exact Nat.le_refl _)] at hR
      have HRR := Lib.hid hR
      clear hR
      go_wp2_with fail
      go_end0
      exact ⟨rfl, by rw [HR.out]; exact HRR.out⟩

set_option maxHeartbeats 4000000 in
theorem writeVote_wr (w W0 w1 : World) (B : Nat) (g : Option Nat) (ys : List Int) (v : Vt) (c : Vc) (hF : Fro w W0 B g) (hv : VtAt w v c) (h : Wrote W0 B g ys w1) (hl : ys.length ≤ 500000) (hm40 : c.ms.length ≤ 40) (hp40 : c.p.length ≤ 40) (hq40 : c.q.length ≤ 40) :
    Calls Tryz.prog 69 #[.pointer (some ⟨B, 0, none⟩), .agg v.cells.toArray] w1 fun e w2 => e = .returned (.tuple #[]) ∧ Wrote W0 B g (ys ++ voteY v c) w2 := by
  obtain ⟨r, hrr⟩ : ∃ r, r = voteY v c := ⟨_, rfl⟩
  rw [← hrr]
  unfold voteY marksY at hrr
  have HR := Lib.hid hrr
  obtain ⟨W, hW⟩ : ∃ W, W = w1.alloc (.cells v.cells.toArray 32) := ⟨_, rfl⟩
  obtain ⟨g0, S0, send, stay, hFF⟩ := h.fresh hW (ob := .cells v.cells.toArray 32 (0, 0)) (by rw [hW]; exact heap_alloc_new _ _)
  have HFW := Lib.hid (hFF w hF)
  have HCP := Lib.hid (fun w' zs (h' : Wrote W B g0 zs w') (hz : zs.length ≤ 600000) => writeEntries_wr w W w' B g0 zs v.p c.p (hFF w hF) hv.2.1 h' hz hp40)
  have HCQ := Lib.hid (fun w' zs (h' : Wrote W B g0 zs w') (hz : zs.length ≤ 600000) => writeEntries_wr w W w' B g0 zs v.q c.q (hFF w hF) hv.2.2 h' hz hq40)
  have HS0 := Lib.hid S0
  have HEND := Lib.hid send
  have HST := Lib.hid stay
  have q0 : W.cell? ⟨w1.heap.size, 0, none⟩ = some (.int .u8 v.f) := by rw [cell_of_row _ _ _ _ _ _ (stay _ _ S0)]; rfl
  have HW := Lib.hid hW
  obtain ⟨a1, c1, qq, -, -, hn1, hr1⟩ := hv.1
  simp only [Sl.val] at qq
  have HVC : Hid (v.cells = [.int .u8 v.f, .int .u8 v.e, .int .u32 v.vw, .int .u32 v.lo, .slice a1 c.ms.length c1, .slice v.p.a v.p.n v.p.c, .slice v.q.a v.q.n v.q.c]) := Lib.hid (by rw [← qq]; rfl)
  rw [HVC.out] at HW ⊢
  have H1 := Lib.hid hr1
  have hpl := entsB_len c.p
  have hql := entsB_len c.q
  clear hF hv h hW S0 send stay hFF hr1 hrr qq
  generalize hn : c.ms.length = n at *
  have HN := Lib.hid hn
  generalize hpe : entsB c.p = pe at *
  generalize hqe : entsB c.q = qe at *
  clear hn hpe hqe
  go_enter Tryz.func69, Tryz.ntmps69
  go_upto_region 1 with fail
  rw [← HW.out]
  clear HW
  generalize hgs : w1.heap.size = gs at *
  go_wp2_with fail
  refine Calls.mono (u8_wr W W B g0 ys v.f HS0.out (by omega)) ?_
  rintro e v1 ⟨rfl, h1⟩
  have p := HST.out _ _ h1
  have q1 : v1.cell? ⟨gs, 1, none⟩ = some (.int .u8 v.e) := by rw [cell_of_row _ _ _ _ _ _ p]; rfl
  have HV1 := Lib.hid h1
  clear h1 p q0
  go_wp2_with fail
  refine Calls.mono (u8_wr W v1 B g0 _ v.e HV1.out (by simp; omega)) ?_
  rintro e v2 ⟨rfl, h1⟩
  have p := HST.out _ _ h1
  have q2 : v2.cell? ⟨gs, 2, none⟩ = some (.int .u32 v.vw) := by rw [cell_of_row _ _ _ _ _ _ p]; rfl
  have HV2 := Lib.hid h1
  clear h1 p q1
  go_wp2_with fail
  refine Calls.mono (u32_wr W v2 B g0 _ v.vw HV2.out (by simp; omega)) ?_
  rintro e v3 ⟨rfl, h1⟩
  have p := HST.out _ _ h1
  have q3 : v3.cell? ⟨gs, 3, none⟩ = some (.int .u32 v.lo) := by rw [cell_of_row _ _ _ _ _ _ p]; rfl
  have HV3 := Lib.hid h1
  clear h1 p q2
  go_wp2_with fail
  refine Calls.mono (u32_wr W v3 B g0 _ v.lo HV3.out (by simp [b4]; omega)) ?_
  rintro e v4 ⟨rfl, h1⟩
  have p := HST.out _ _ h1
  have q4 : v4.cell? ⟨gs, 4, none⟩ = some (.slice a1 n c1) := by rw [cell_of_row _ _ _ _ _ _ p, HVC.out]; rfl
  have HV4 := Lib.hid h1
  clear h1 p q3
  go_wp2_with fail
  refine Calls.mono (u8_wr W v4 B g0 _ n HV4.out (by simp [b4]; omega)) ?_
  rintro e v5 ⟨rfl, h1⟩
  have p := HST.out _ _ h1
  have q5 : v5.cell? ⟨gs, 4, none⟩ = some (.slice a1 n c1) := by rw [cell_of_row _ _ _ _ _ _ p, HVC.out]; rfl
  obtain ⟨zs, hzs⟩ : ∃ zs, zs = ys ++ [v.f] ++ [v.e] ++ b4 v.vw ++ b4 v.lo := ⟨_, rfl⟩
  have hzl : zs.length ≤ 500010 := by rw [hzs]; simp [b4]; omega
  rw [← hzs] at h1
  have HZS := Lib.hid hzs
  have HV5 := Lib.hid h1
  clear h1 p q4 hzs
  go_wp2_with fail
  go_loopw [31] (fun vi wr => ∃ j : Nat, j ≤ n ∧ vi = .int .i64 j ∧ Hid (Wrote W B g0 (zs ++ ([(n : Int)] ++ (c.ms.take j).flatMap mkB)) wr)) (fun i _ => n - (intOf i).toNat)
  case atStart => exact ⟨0, by omega, rfl, Lib.hid (by simpa using HV5.out)⟩
  case round =>
    obtain ⟨j, hj, rfl, HX⟩ := hrel
    have hlen : (zs ++ ([(n : Int)] ++ (c.ms.take j).flatMap mkB)).length ≤ 502000 := by
      simp only [List.length_append, flatMap_len mkB_len, List.length_take, List.length_cons, List.length_nil]; have := HN.out; omega
    by_cases hlt : j < n
    · obtain ⟨x, hx⟩ : ∃ x, c.ms[j]? = some x := ⟨_, List.getElem?_eq_getElem (by rw [HN.out]; exact hlt)⟩
      obtain ⟨b1, o1, e1, g1⟩ := H1.out j x hx
      have G : ∀ i u, x.cells[i]? = some u → wr.cell? ⟨b1, o1 + j * 2 + i, none⟩ = some u := fun i u hu => by
        have h3 := g1 i u hu
        rw [(HFW.out.on HX.out).cell (cell_block h3)]; exact h3
      have l10 : wr.cell? ⟨b1, o1 + j * 2, none⟩ = some (.int .u32 x.s) := G 0 _ rfl
      have l11 : wr.cell? ⟨b1, o1 + j * 2 + 1, none⟩ = some (.int .u64 x.r) := G 1 _ rfl
      have hstep : zs ++ ([(n : Int)] ++ (c.ms.take (j + 1)).flatMap mkB) = ((zs ++ ([(n : Int)] ++ (c.ms.take j).flatMap mkB)) ++ b4 x.s) ++ be8 x.r := by
        rw [List.take_add_one, hx]; simp [List.flatMap_append, mkB, List.append_assoc]
      obtain ⟨X, hX⟩ : ∃ X, X = wr.alloc (.cells x.cells.toArray 77) := ⟨_, rfl⟩
      obtain ⟨g2, T0, tend, tstay, -⟩ := HX.out.fresh hX (ob := .cells x.cells.toArray 77 (0, 0)) (by rw [hX]; exact heap_alloc_new _ _)
      have HT0 := Lib.hid T0
      have HTEND := Lib.hid tend
      have HTST := Lib.hid tstay
      have HSTEP := Lib.hid hstep
      have q0 : X.cell? ⟨wr.heap.size, 0, none⟩ = some (.int .u32 x.s) := by rw [cell_of_row _ _ _ _ _ _ (tstay _ _ T0)]; rfl
      have HXX := Lib.hid hX
      generalize hts : zs ++ ([(n : Int)] ++ (c.ms.take j).flatMap mkB) = ts at *
      simp only [Mk.cells] at HXX
      clear hx g1 G hX T0 tend tstay hstep hts
      subst e1
      go_upto_region 9 with fail
      rw [← HXX.out]
      clear HXX l10 l11
      generalize hgt : wr.heap.size = gt at *
      go_wp2_with fail
      refine Calls.mono (u32_wr X X B g2 ts x.s HT0.out (by omega)) ?_
      rintro e y1 ⟨rfl, h1⟩
      have p := HTST.out _ _ h1
      have q1 : y1.cell? ⟨gt, 1, none⟩ = some (.int .u64 x.r) := by rw [cell_of_row _ _ _ _ _ _ p]; rfl
      have HY1 := Lib.hid h1
      clear h1 p q0
      go_wp2_with fail
      refine Calls.mono (u64_wr X y1 B g2 _ x.r HY1.out (by simp [b4]; omega)) ?_
      rintro e y2 ⟨rfl, h1⟩
      have HY2 := Lib.hid (HTEND.out _ _ h1)
      clear h1 q1
      go_wp2_with fail
      go_round
      case measure => simp [intOf]; omega
      case rel => exact ⟨j + 1, by omega, by go_num, Lib.hid (by rw [HSTEP.out]; exact HY2.out)⟩
    · obtain rfl : j = n := by omega
      have hR := HX.out
      rw [List.take_of_length_le (by rw [HN.out]; exact Nat.le_refl _)] at hR hlen
      have HRR := Lib.hid hR
      have p := HST.out _ _ hR
      have q6 : wr.cell? ⟨gs, 5, none⟩ = some (.slice v.p.a v.p.n v.p.c) := by rw [cell_of_row _ _ _ _ _ _ p]; rfl
      generalize hts : zs ++ ([(j : Int)] ++ c.ms.flatMap mkB) = ts at *
      have HTS := Lib.hid hts
      clear hR hts p
      go_wp2_with fail
      refine Calls.mono (HCP.out _ _ HRR.out (by omega)) ?_
      rintro e y1 ⟨rfl, h1⟩
      have p := HST.out _ _ h1
      have q7 : y1.cell? ⟨gs, 6, none⟩ = some (.slice v.q.a v.q.n v.q.c) := by rw [cell_of_row _ _ _ _ _ _ p]; rfl
      have HY1 := Lib.hid h1
      clear h1 p q6
      go_wp2_with fail
      refine Calls.mono (HCQ.out _ _ HY1.out (by rw [List.length_append]; omega)) ?_
      rintro e y2 ⟨rfl, h1⟩
      have HY2 := Lib.hid (HEND.out _ _ h1)
      clear h1 q7
      go_wp2_with fail
      go_end0
      refine ⟨rfl, ?_⟩
      have := HY2.out
      rw [← HTS.out, HZS.out] at this
      rw [HR.out]
      simpa [List.append_assoc] using this
end Go.Proofs.YtbpfkeeikhhlnaaGreatDoor
namespace Go.Proofs.YtbpfkeeikhhlnaaGreatDoor
open Go.RowKit
set_option maxRecDepth 100000

theorem be_2 (x : Int) : be x 2 = b2 x := by simp [be, byteAt, b2]
theorem be_4 (x : Int) : be x 4 = b4 x := by simp [be, byteAt, b4]
theorem be_8 (x : Int) : be x 8 = be8 x := by simp [be, byteAt, be8]

/-- the row v of world w has grown to a row that holds l -/
structure GR (w : World) (v : Value) (wx : World) (ao : Option Addr) (n c : Nat) (l : List Int) : Prop where
  own : wx.ownsRow 0 5 1 (.slice ao n c) n (vals l)
  kept : Kept (fun k => some k = v.ownBlock) w wx
  grew : Grew w v (.slice ao n c)
theorem GR.start {w : World} {ao : Option Addr} {n c : Nat} {l : List Int} (h : w.ownsRow 0 5 1 (.slice ao n c) n (vals l)) : GR w (.slice ao n c) w ao n c l := ⟨h, Kept.refl _ _, .inl rfl⟩
theorem GR.below {w wx wy : World} {v : Value} {ao : Option Addr} {n c : Nat} {l : List Int} (h : GR w v wx ao n c l) (hk : Below wx.heap.size wx wy) : GR w v wy ao n c l :=
  ⟨own_kept h.own (Kept.ofBelow (S := fun _ => False) hk) (fun _ _ h => h), h.kept.trans (Kept.ofBelow (S := fun _ => False) hk) (fun _ _ h => h.elim), h.grew⟩
theorem GR.step {w wx wy : World} {v : Value} {ao ao' : Option Addr} {n c n' c' : Nat} {l l' : List Int} (h : GR w v wx ao n c l) (ho : wy.ownsRow 0 5 1 (.slice ao' n' c') n' (vals l')) (hk : Kept (fun k => some k = (Value.slice ao n c).ownBlock) wx wy) (hg : Grew wx (.slice ao n c) (.slice ao' n' c')) : GR w v wy ao' n' c' l' := by
  refine ⟨ho, grew_kept h.grew h.kept hk, ?_⟩
  rcases hg with e | ⟨k, e, hk2⟩
  · rcases h.grew with e1 | ⟨j, e1, hj⟩
    · exact .inl (e.trans e1)
    · exact .inr ⟨j, e.trans e1, hj⟩
  · exact .inr ⟨k, e, Nat.le_trans h.kept.size hk2⟩
theorem GR.trans {w wx wy : World} {v : Value} {ao ao' : Option Addr} {n c n' c' : Nat} {l l' : List Int} (h : GR w v wx ao n c l) (k : GR wx (.slice ao n c) wy ao' n' c' l') : GR w v wy ao' n' c' l' := h.step k.own k.kept k.grew
/-- seen from ahead of a new block -/
theorem GR.early {w W wx : World} {v : Value} {ao : Option Addr} {n c : Nat} {l : List Int} (hk : Below w.heap.size w W) (h : GR W v wx ao n c l) : GR w v wx ao n c l :=
  ⟨h.own, (Kept.ofBelow (S := fun k => some k = v.ownBlock) hk).trans h.kept (fun _ _ e => e), h.grew.elim .inl (fun ⟨k, e, hk2⟩ => .inr ⟨k, e, Nat.le_trans hk.size hk2⟩)⟩
theorem GR.block {w wx : World} {v : Value} {ao : Option Addr} {n c : Nat} {l : List Int} (h : GR w v wx ao n c l) {E : Nat} (hE : E < w.heap.size) (hne : v.ownBlock ≠ some E) : wx.heap[E]? = w.heap[E]? := h.kept.block E hE (fun e => hne e.symm)
theorem app_e {w wx : World} {v : Value} {ao : Option Addr} {n c : Nat} {l : List Int} (h : GR w v wx ao n c l) {o : Oper} {a : Act} {K : Act → World → Prop} {Q : Exit → Act → World → Prop} (s x : Operand)
    (ho : o.op = .call { callee := .builtin .append, args := #[s, x], argTypes := #[35, 35] }) (hs : a.eval s = .slice ao n c) (bo : Option Addr) (m k : Nat) (news : List Int) (hx : a.eval x = .slice bo m k) (hl : news.length = m) (hb : Bytes wx bo news) (hnone : bo = none → m = 0 ∧ k = 0) (hbig : n + m ≤ 1000000)
    (hK : ∀ ao' c' w', GR w v w' ao' (n + m) c' (l ++ news) → K (a.put o.dst (.slice ao' (n + m) c')) w') : o.wp Tryz.prog a wx K Q := by
  refine wp_app wx s x ho (.slice ao n c) n l hs h.own bo m k news hx hl hb hnone (by omega) ?_
  intro ao' c' w' h1 h2 h3
  exact hK ao' c' w' (h.step h1 h2 (h3.elim .inl (fun e => .inr ⟨_, e, Nat.le_refl _⟩)))
theorem put_e {w wx : World} {v : Value} {ao : Option Addr} {n c : Nat} {l : List Int} (h : GR w v wx ao n c l) (x : Int) (m k : Nat) (hm : m ≤ 8) (hn : n ≤ 900000) (hk : n + m = k) :
    Calls Tryz.prog 29 #[.slice ao n c, .int .u64 x, .int .i64 m] wx fun e w' => ∃ ao' c', e = .returned (.slice ao' k c') ∧ GR w v w' ao' k c' (l ++ be x m) := by
  subst hk
  refine (put1_any ao n c l x m wx h.own hm hn).mono ?_
  rintro e w' ⟨ao', c', rfl, ho, hk, hg⟩
  exact ⟨ao', c', rfl, h.step ho hk hg⟩

set_option maxHeartbeats 8000000 in
theorem refReq_any {w : World} {ao : Option Addr} {n c : Nat} {l : List Int} (h : w.ownsRow 0 5 1 (.slice ao n c) n (vals l)) (r : Rq) (hr : r.ok) (hn : n ≤ 800000) :
    Calls Tryz.prog 28 #[.slice ao n c, .agg r.cells.toArray] w fun e w' => ∃ ao' c', e = .returned (.slice ao' (n + 9) c') ∧ GR w (.slice ao n c) w' ao' (n + 9) c' (l ++ r.bytes) := by
  have hwt : IntKind.u64.wrap r.t = r.t := by rw [IntKind.wrap_u64]; unfold Rq.ok at hr; omega
  have hwv : IntKind.u64.wrap r.v = r.v := by rw [IntKind.wrap_u64]; unfold Rq.ok at hr; omega
  obtain ⟨W, hW⟩ : ∃ W, W = w.alloc (.cells #[.int .u8 r.c, .int .u32 r.t, .int .u8 r.k, .int .u8 r.y, .int .u16 r.v] 27) := ⟨_, rfl⟩
  have hbW : Below w.heap.size w W := by rw [hW]; exact (Below.refl _ _).alloc (Nat.le_refl _) _
  have hoW : W.ownsRow 0 5 1 (.slice ao n c) n (vals l) := own_kept h (Kept.ofBelow (S := fun _ => False) hbW) (fun _ _ h => h)
  have hbx : W.heap[w.heap.size]? = some (.cells #[.int .u8 r.c, .int .u32 r.t, .int .u8 r.k, .int .u8 r.y, .int .u16 r.v] 27 (0, 0)) := by rw [hW]; exact heap_alloc_new _ _
  have hne : (Value.slice ao n c).ownBlock ≠ some w.heap.size := fun e => by have := own_lt h e; omega
  have hBX : ∀ wx a n' c' l', GR W (.slice ao n c) wx a n' c' l' → wx.heap[w.heap.size]? = some (.cells #[.int .u8 r.c, .int .u32 r.t, .int .u8 r.k, .int .u8 r.y, .int .u16 r.v] 27 (0, 0)) := fun wx a n' c' l' g => by rw [g.block (lt_of_block hbx) hne]; exact hbx
  have BX := Lib.hid hBX
  have M0 := GR.start hoW
  obtain ⟨E, hE⟩ : ∃ E, E = w.heap.size := ⟨_, rfl⟩
  rw [← hE] at BX
  have MD := M0.below (Below.refl _ _).drew
  have HBW := Lib.hid hbW
  have HW := Lib.hid hW
  have HE := Lib.hid hE
  simp only [Rq.cells]
  clear hW hE h hr hbW hoW hbx hne hBX
  go_enter Tryz.func28, Tryz.ntmps28
  go_upto_region 1 with fail
  rw [← HW.out, ← HE.out]
  refine wp_region_held_drew (S := fun wx => wx.heap[E]? = some (.cells #[.int .u8 r.c, .int .u32 r.t, .int .u8 r.k, .int .u8 r.y, .int .u16 r.v] 27 (0, 0))) (by kernel_rfl) ((BX.out _ _ _ _ _ MD)) (fun hS => ?_)
  refine tm 0 (.slice ao n c) rfl hS ?_
  refine tg 1 (.pointer (some ⟨E, 0, none⟩)) rfl hS ?_
  refine tk 2 (.int .u8 r.c) rfl (yi_load 5 (.tmp 6) (.pointer (some ⟨E, 0, none⟩)) rfl rfl rfl (fun wq hw => by have q : wq.cell? ⟨E, 0, none⟩ = some (.int .u8 r.c) := (by rw [cell_of_row _ _ _ _ _ _ hw]; rfl); go_simp)) hS ?_
  refine tg 5 (.pointer (some ⟨E, 1, none⟩)) rfl hS ?_
  refine tk 6 (.int .u32 r.t) rfl (yi_load 22 (.tmp 10) (.pointer (some ⟨E, 1, none⟩)) rfl rfl rfl (fun wq hw => by have q : wq.cell? ⟨E, 1, none⟩ = some (.int .u32 r.t) := (by rw [cell_of_row _ _ _ _ _ _ hw]; rfl); go_simp)) hS ?_
  refine tk 7 (.int .u64 r.t) rfl (.inl ⟨rfl, fun _ _ => by go_simp <;> first | exact hwt | exact hwv⟩) hS ?_
  refine wpAnyH_ready (rs := [3]) (by kernel_rfl) (by simp) ?_
  refine AllReadyH.cons rfl (fun K hK => ?_) AllReadyH.nil
  rw [if_pos (by rfl)]
  go_simp
  refine hK.out _ _ ((BX.out _ _ _ _ _ (M0.below (((Below.refl _ _).alloc (Nat.le_refl _) _).drew)))) (fun hS => ?_)
  clear hK K
  refine wpAnyH_ready (rs := [4]) (by kernel_rfl) (by simp) ?_
  refine AllReadyH.cons rfl (fun K hK => ?_) AllReadyH.nil
  rw [if_pos (by rfl)]
  refine app_e (M0.below (((Below.refl _ _).alloc (Nat.le_refl _) _).drew)) (.tmp 5) (.tmp 8) rfl rfl (some ⟨W.heap.size, 0, none⟩) 1 1 [r.c] rfl rfl (by exact bytes_new _ [r.c] 5) (by intro h; cases h) (by omega) ?_
  intro a1 c1 w1 M1
  refine hK.out _ _ ((BX.out _ _ _ _ _ M1)) (fun hS => ?_)
  clear hK K
  refine wpAnyH_ready (rs := [8]) (by kernel_rfl) (by simp) ?_
  refine AllReadyH.cons rfl (fun K hK => ?_) AllReadyH.nil
  rw [if_pos (by rfl)]
  go_simp
  refine Calls.mono ((put_e M1 r.t 4 (n + 1 + 4) (by decide) (by omega) rfl)) ?_
  rintro e w2 ⟨a2, c2, rfl, M2⟩
  refine hK.out _ _ ((BX.out _ _ _ _ _ M2)) (fun hS => ?_)
  clear hK K
  refine tm 9 (.slice a2 (n + 1 + 4) c2) rfl hS ?_
  refine wpAnyH_done (by kernel_rfl) ?_ _
  clear hS
  go_upto_region 2 with fail
  refine wp_region_held_drew (S := fun wx => wx.heap[E]? = some (.cells #[.int .u8 r.c, .int .u32 r.t, .int .u8 r.k, .int .u8 r.y, .int .u16 r.v] 27 (0, 0))) (by kernel_rfl) ((BX.out _ _ _ _ _ (M2.below (Below.refl _ _).drew))) (fun hS => ?_)
  refine tm 0 (.slice a2 (n + 1 + 4) c2) rfl hS ?_
  refine tg 1 (.pointer (some ⟨E, 2, none⟩)) rfl hS ?_
  refine tg 2 (.pointer (some ⟨E, 2, none⟩)) rfl hS ?_
  refine tk 3 (.int .u8 r.k) rfl (yi_load 5 (.tmp 16) (.pointer (some ⟨E, 2, none⟩)) rfl rfl rfl (fun wq hw => by have q : wq.cell? ⟨E, 2, none⟩ = some (.int .u8 r.k) := (by rw [cell_of_row _ _ _ _ _ _ hw]; rfl); go_simp)) hS ?_
  refine tg 4 (.pointer (some ⟨E, 2, none⟩)) rfl hS ?_
  refine tg 5 (.pointer (some ⟨E, 3, none⟩)) rfl hS ?_
  refine tk 6 (.int .u8 r.y) rfl (yi_load 5 (.tmp 19) (.pointer (some ⟨E, 3, none⟩)) rfl rfl rfl (fun wq hw => by have q : wq.cell? ⟨E, 3, none⟩ = some (.int .u8 r.y) := (by rw [cell_of_row _ _ _ _ _ _ hw]; rfl); go_simp)) hS ?_
  refine tg 9 (.pointer (some ⟨E, 2, none⟩)) rfl hS ?_
  refine tg 10 (.pointer (some ⟨E, 4, none⟩)) rfl hS ?_
  refine tk 11 (.int .u16 r.v) rfl (yi_load 23 (.tmp 24) (.pointer (some ⟨E, 4, none⟩)) rfl rfl rfl (fun wq hw => by have q : wq.cell? ⟨E, 4, none⟩ = some (.int .u16 r.v) := (by rw [cell_of_row _ _ _ _ _ _ hw]; rfl); go_simp)) hS ?_
  refine tk 12 (.int .u64 r.v) rfl (.inl ⟨rfl, fun _ _ => by go_simp <;> first | exact hwt | exact hwv⟩) hS ?_
  refine wpAnyH_ready (rs := [7]) (by kernel_rfl) (by simp) ?_
  refine AllReadyH.cons rfl (fun K hK => ?_) AllReadyH.nil
  rw [if_pos (by rfl)]
  go_simp
  refine hK.out _ _ ((BX.out _ _ _ _ _ (M2.below (((Below.refl _ _).alloc (Nat.le_refl _) _).drew)))) (fun hS => ?_)
  clear hK K
  refine wpAnyH_ready (rs := [8]) (by kernel_rfl) (by simp) ?_
  refine AllReadyH.cons rfl (fun K hK => ?_) AllReadyH.nil
  rw [if_pos (by rfl)]
  refine app_e (M2.below (((Below.refl _ _).alloc (Nat.le_refl _) _).drew)) (.tmp 14) (.tmp 21) rfl rfl (some ⟨w2.heap.size, 0, none⟩) 2 2 [r.k, r.y] rfl rfl (by exact bytes_new _ [r.k, r.y] 5) (by intro h; cases h) (by omega) ?_
  intro a3 c3 w3 M3
  refine hK.out _ _ ((BX.out _ _ _ _ _ M3)) (fun hS => ?_)
  clear hK K
  refine wpAnyH_ready (rs := [13]) (by kernel_rfl) (by simp) ?_
  refine AllReadyH.cons rfl (fun K hK => ?_) AllReadyH.nil
  rw [if_pos (by rfl)]
  go_simp
  refine Calls.mono ((put_e M3 r.v 2 (n + 1 + 4 + 2 + 2) (by decide) (by omega) rfl)) ?_
  rintro e w4 ⟨a4, c4, rfl, M4⟩
  refine hK.out _ _ ((BX.out _ _ _ _ _ M4)) (fun hS => ?_)
  clear hK K
  refine tm 14 (.slice a4 (n + 1 + 4 + 2 + 2) c4) rfl hS ?_
  refine wpAnyH_done (by kernel_rfl) ?_ _
  clear hS
  go_wp2_with fail
  go_ret
  refine ⟨a4, c4, rfl, ?_⟩
  have q := M4.early HBW.out
  rw [be_4, be_2] at q
  have e : l ++ [r.c] ++ b4 r.t ++ [r.k, r.y] ++ b2 r.v = l ++ r.bytes := by simp [Rq.bytes]
  rw [e] at q
  exact q
end Go.Proofs.YtbpfkeeikhhlnaaGreatDoor
