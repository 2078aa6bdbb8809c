/- The bytes of a message. What is read of a message of one byte behind its head. The known answers: a message of one byte behind its head is written and read again. Readers once more: what they have left lies ahead of them in memory. -/
import Derived.Test.YtbpfkeeikhhlnaaGreatDoorC04
import Derived.Test.YtbpfkeeikhhlnaaGreatDoorC01
import Derived.Laws.ResultCell
namespace Go.Proofs.YtbpfkeeikhhlnaaGreatDoor
open Go.RowKit
set_option maxRecDepth 100000

def b4 (x : Int) : List Int := [x / 16777216 % 256, x / 65536 % 256, x / 256 % 256, x % 256]
def b2 (x : Int) : List Int := [x / 256 % 256, x % 256]
def Rq.bytes (r : Rq) : List Int := [r.c] ++ (b4 r.t ++ ([r.k] ++ ([r.y] ++ b2 r.v)))
/-- the bytes of a part of one word -/
def wordB (m : Mg) (p : Int) : List Int := if p = 0 then b4 m.vw else if p = 1 then b4 m.sq else if p = 2 then m.rq.bytes else if p = 3 then be8 m.ro else if p = 4 then [m.ct] else if p = 5 then [m.pg] else b4 m.rs

theorem Wrote.start {w : World} {B : Nat} {g : Option Nat} {xs : List Int} (h : Wr w B g xs) : Wrote w B g xs w := ⟨g, h, Kept.refl _ _, .inl rfl⟩

theorem Wrote.new {W w w1 : World} {B : Nat} {g : Option Nat} {xs : List Int} (h : Wrote W B g xs w) (hb : Below w.heap.size w w1) : Wrote W B g xs w1 := by
  obtain ⟨g1, h1, hk, hg⟩ := h
  exact ⟨g1, h1.below hb, hk.trans (Kept.ofBelow (S := fun _ => False) hb) (fun _ _ h => h.elim), hg⟩

/-- a block that is no writer's stays -/
theorem Wrote.stay {W w : World} {B : Nat} {g : Option Nat} {xs : List Int} (h : Wrote W B g xs w) {b : Nat} {o : Obj} (hb : W.heap[b]? = some o) (h1 : b ≠ B) (h2 : g ≠ some b) : w.heap[b]? = some o := by
  obtain ⟨g1, _, hk, _⟩ := h
  rw [hk.block b (lt_of_block hb) (by rintro (e | e); exact h1 e; exact h2 e.symm)]; exact hb

theorem u8_wr (W w : World) (B : Nat) (g : Option Nat) (xs : List Int) (x : Int) (h : Wrote W B g xs w) (hl : xs.length ≤ 800000) :
    Calls Tryz.prog 24 #[.pointer (some ⟨B, 0, none⟩), .int .u8 x] w fun e w' => e = .returned (.tuple #[]) ∧ Wrote W B g (xs ++ [x]) w' := by
  obtain ⟨g1, h1, hk, hg⟩ := h
  refine Calls.mono (u8_any w B g1 xs x h1 (by omega)) ?_
  rintro e w' ⟨rfl, hw⟩
  exact ⟨rfl, Wrote.trans hk hg hw⟩

theorem u16_wr (W w : World) (B : Nat) (g : Option Nat) (xs : List Int) (x : Int) (h : Wrote W B g xs w) (hl : xs.length ≤ 800000) :
    Calls Tryz.prog 94 #[.pointer (some ⟨B, 0, none⟩), .int .u16 x] w fun e w' => e = .returned (.tuple #[]) ∧ Wrote W B g (xs ++ b2 x) w' := by
  obtain ⟨g1, h1, hk, hg⟩ := h
  refine Calls.mono (u16_any w B g1 xs x h1 (by omega)) ?_
  rintro e w' ⟨rfl, hw⟩
  exact ⟨rfl, Wrote.trans hk hg hw⟩

theorem u32_wr (W w : World) (B : Nat) (g : Option Nat) (xs : List Int) (x : Int) (h : Wrote W B g xs w) (hl : xs.length ≤ 800000) :
    Calls Tryz.prog 66 #[.pointer (some ⟨B, 0, none⟩), .int .u32 x] w fun e w' => e = .returned (.tuple #[]) ∧ Wrote W B g (xs ++ b4 x) w' := by
  obtain ⟨g1, h1, hk, hg⟩ := h
  refine Calls.mono (u32_any w B g1 xs x h1 (by omega)) ?_
  rintro e w' ⟨rfl, hw⟩
  exact ⟨rfl, Wrote.trans hk hg hw⟩

theorem u64_wr (W w : World) (B : Nat) (g : Option Nat) (xs : List Int) (x : Int) (h : Wrote W B g xs w) (hl : xs.length ≤ 800000) :
    Calls Tryz.prog 68 #[.pointer (some ⟨B, 0, none⟩), .int .u64 x] w fun e w' => e = .returned (.tuple #[]) ∧ Wrote W B g (xs ++ be8 x) w' := by
  obtain ⟨g1, h1, hk, hg⟩ := h
  refine Calls.mono (u64_any w B g1 xs x h1 (by omega)) ?_
  rintro e w' ⟨rfl, hw⟩
  exact ⟨rfl, Wrote.trans hk hg hw⟩

set_option maxHeartbeats 1600000 in
theorem writeReq_wr (W0 w : World) (B : Nat) (g : Option Nat) (xs : List Int) (r : Rq) (h : Wrote W0 B g xs w) (hl : xs.length ≤ 700000) :
    Calls Tryz.prog 67 #[.pointer (some ⟨B, 0, none⟩), .agg r.cells.toArray] w fun e w' => e = .returned (.tuple #[]) ∧ Wrote W0 B g (xs ++ r.bytes) w' := by
  obtain ⟨g0, hw0, hk0, hg0⟩ := h
  obtain ⟨W, hW⟩ : ∃ W, W = w.alloc (.cells r.cells.toArray 27) := ⟨_, rfl⟩
  have hbl := bl1 hW
  have hblk : W.heap[w.heap.size]? = some (.cells r.cells.toArray 27 (0, 0)) := by rw [hW]; exact heap_alloc_new _ _
  have hne : w.heap.size ≠ B := by have := hw0.lt; omega
  have hng : g0 ≠ some w.heap.size := by
    obtain ⟨ao, n, cap, hb, ho, h1, h2⟩ := hw0
    intro e
    have := own_lt ho (h1.trans e)
    omega
  have S0 : Wrote W B g0 xs W := Wrote.start (hw0.below hbl)
  have stay : ∀ ys w', Wrote W B g0 ys w' → w'.heap[w.heap.size]? = some (.cells r.cells.toArray 27 (0, 0)) := fun _ _ h => h.stay hblk hne hng
  have HST := Lib.hid stay
  have HS0 := Lib.hid S0
  have HEND : Hid (∀ ys w', Wrote W B g0 ys w' → Wrote W0 B g ys w') := Lib.hid (fun ys w' h => Wrote.trans hk0 hg0 (Wrote.trans (Kept.ofBelow hbl) (.inl rfl) h))
  have q0 : W.cell? ⟨w.heap.size, 0, none⟩ = some (.int .u8 r.c) := by rw [cell_of_row _ _ _ _ _ _ hblk]; rfl
  have HW := Lib.hid hW
  clear hW hblk hne hng S0 stay hbl hw0 hk0 hg0
  simp only [Rq.cells] at HW ⊢
  go_enter Tryz.func67, Tryz.ntmps67
  go_wp2_with fail
  rw [← HW.out]
  refine Calls.mono (u8_wr W W B g0 xs r.c HS0.out (by omega)) ?_
  rintro e w1 ⟨rfl, h1⟩
  have p := HST.out _ _ h1
  have q1 : w1.cell? ⟨w.heap.size, 1, none⟩ = some (.int .u32 r.t) := by rw [cell_of_row _ _ _ _ _ _ p]; rfl
  have H1 := Lib.hid h1
  clear h1 p q0 HW
  go_wp2_with fail
  refine Calls.mono (u32_wr W w1 B g0 _ r.t H1.out (by simp; omega)) ?_
  rintro e w2 ⟨rfl, h1⟩
  have p := HST.out _ _ h1
  have q2 : w2.cell? ⟨w.heap.size, 2, none⟩ = some (.int .u8 r.k) := by rw [cell_of_row _ _ _ _ _ _ p]; rfl
  have H2 := Lib.hid h1
  clear h1 p q1
  go_wp2_with fail
  refine Calls.mono (u8_wr W w2 B g0 _ r.k H2.out (by simp [b4]; omega)) ?_
  rintro e w3 ⟨rfl, h1⟩
  have p := HST.out _ _ h1
  have q3 : w3.cell? ⟨w.heap.size, 3, none⟩ = some (.int .u8 r.y) := by rw [cell_of_row _ _ _ _ _ _ p]; rfl
  have H3 := Lib.hid h1
  clear h1 p q2
  go_wp2_with fail
  refine Calls.mono (u8_wr W w3 B g0 _ r.y H3.out (by simp [b4]; omega)) ?_
  rintro e w4 ⟨rfl, h1⟩
  have p := HST.out _ _ h1
  have q4 : w4.cell? ⟨w.heap.size, 4, none⟩ = some (.int .u16 r.v) := by rw [cell_of_row _ _ _ _ _ _ p]; rfl
  have H4 := Lib.hid h1
  clear h1 p q3
  go_wp2_with fail
  refine Calls.mono (u16_wr W w4 B g0 _ r.v H4.out (by simp [b4]; omega)) ?_
  rintro e w5 ⟨rfl, h1⟩
  have H5 := Lib.hid (HEND.out _ _ h1)
  clear h1 q4
  go_wp2_with fail
  go_end0
  refine ⟨rfl, ?_⟩
  have := H5.out
  simpa [Rq.bytes, List.append_assoc] using this

set_option maxHeartbeats 4000000 in
theorem write_wr (W0 w : World) (B : Nat) (g : Option Nat) (xs : List Int) (m : Mg) (p : Int) (h0 : 0 ≤ p) (h6 : p ≤ 6) (h : Wrote W0 B g xs w) (hl : xs.length ≤ 600000) :
    Calls Tryz.prog 26 #[.pointer (some ⟨B, 0, none⟩), .agg m.cells.toArray, .int .u8 p] w fun e w' => e = .returned (.tuple #[]) ∧ Wrote W0 B g (xs ++ wordB m p) w' := by
  obtain ⟨b, hb⟩ : ∃ b, b = wordB m p := ⟨_, rfl⟩
  rw [← hb]
  unfold wordB at hb
  have HB := Lib.hid hb
  obtain ⟨W, hW⟩ : ∃ W, W = w.alloc (.cells m.cells.toArray 37) := ⟨_, rfl⟩
  have hbl := bl1 hW
  have hbx := bx1 hW
  have HS := Lib.hid (h.new hbl)
  have q4 : W.cell? ⟨w.heap.size, 4, none⟩ = some (.int .u32 m.vw) := cell_box hbx 4
  have q5 : W.cell? ⟨w.heap.size, 5, none⟩ = some (.int .u32 m.sq) := cell_box hbx 5
  have q6 : W.cell? ⟨w.heap.size, 6, none⟩ = some (.int .u8 m.rq.c) := cell_box hbx 6
  have q7 : W.cell? ⟨w.heap.size, 7, none⟩ = some (.int .u32 m.rq.t) := cell_box hbx 7
  have q8 : W.cell? ⟨w.heap.size, 8, none⟩ = some (.int .u8 m.rq.k) := cell_box hbx 8
  have q9 : W.cell? ⟨w.heap.size, 9, none⟩ = some (.int .u8 m.rq.y) := cell_box hbx 9
  have q10 : W.cell? ⟨w.heap.size, 10, none⟩ = some (.int .u16 m.rq.v) := cell_box hbx 10
  have q11 : W.cell? ⟨w.heap.size, 11, none⟩ = some (.int .u64 m.ro) := cell_box hbx 11
  have q12 : W.cell? ⟨w.heap.size, 12, none⟩ = some (.int .u8 m.ct) := cell_box hbx 12
  have q13 : W.cell? ⟨w.heap.size, 13, none⟩ = some (.int .u8 m.pg) := cell_box hbx 13
  have q14 : W.cell? ⟨w.heap.size, 14, none⟩ = some (.int .u32 m.rs) := cell_box hbx 14
  have HW := Lib.hid hW
  clear hW hbx hbl hb h
  simp only [Mg.cells] at HW ⊢
  go_enter Tryz.func26, Tryz.ntmps26
  go_upto_region 1 with fail
  rw [← HW.out]
  have eA := mgA m
  rw [eA]
  clear eA HW
  generalize m.cells.toArray = A
  have hcase : p = 0 ∨ p = 1 ∨ p = 2 ∨ p = 3 ∨ p = 4 ∨ p = 5 ∨ p = 6 := by omega
  rcases hcase with rfl | rfl | rfl | rfl | rfl | rfl | rfl
  · go_wp2_with fail
    refine Calls.mono (u32_wr W0 W B g xs m.vw HS.out (by omega)) ?_
    rintro e w1 ⟨rfl, h1⟩
    have H1 := Lib.hid h1
    clear h1
    go_wp2_with fail
    go_end0
    exact ⟨rfl, by rw [HB.out]; exact H1.out⟩
  · go_wp2_with fail
    refine Calls.mono (u32_wr W0 W B g xs m.sq HS.out (by omega)) ?_
    rintro e w1 ⟨rfl, h1⟩
    have H1 := Lib.hid h1
    clear h1
    go_wp2_with fail
    go_end0
    exact ⟨rfl, by rw [HB.out]; exact H1.out⟩
  · go_wp2_with fail
    refine Calls.mono (writeReq_wr W0 W B g xs m.rq HS.out (by omega)) ?_
    rintro e w1 ⟨rfl, h1⟩
    have H1 := Lib.hid h1
    clear h1
    go_wp2_with fail
    go_end0
    exact ⟨rfl, by rw [HB.out]; exact H1.out⟩
  · go_wp2_with fail
    refine Calls.mono (u64_wr W0 W B g xs m.ro HS.out (by omega)) ?_
    rintro e w1 ⟨rfl, h1⟩
    have H1 := Lib.hid h1
    clear h1
    go_wp2_with fail
    go_end0
    exact ⟨rfl, by rw [HB.out]; exact H1.out⟩
  · go_wp2_with fail
    refine Calls.mono (u8_wr W0 W B g xs m.ct HS.out (by omega)) ?_
    rintro e w1 ⟨rfl, h1⟩
    have H1 := Lib.hid h1
    clear h1
    go_wp2_with fail
    go_end0
    exact ⟨rfl, by rw [HB.out]; exact H1.out⟩
  · go_wp2_with fail
    refine Calls.mono (u8_wr W0 W B g xs m.pg HS.out (by omega)) ?_
    rintro e w1 ⟨rfl, h1⟩
    have H1 := Lib.hid h1
    clear h1
    go_wp2_with fail
    go_end0
    exact ⟨rfl, by rw [HB.out]; exact H1.out⟩
  · go_wp2_with fail
    refine Calls.mono (u32_wr W0 W B g xs m.rs HS.out (by omega)) ?_
    rintro e w1 ⟨rfl, h1⟩
    have H1 := Lib.hid h1
    clear h1
    go_wp2_with fail
    go_end0
    exact ⟨rfl, by rw [HB.out]; exact H1.out⟩
theorem parts_new (k : Int) (w : World) : Calls Tryz.prog 25 #[.int .u8 k] w fun e w' => ∃ ao, e = .returned (.slice ao (partsOf k).length (partsOf k).length) ∧ Bytes w' ao (partsOf k) ∧ (∀ ad, ao = some ad → ad.block = w.heap.size) ∧ Below w.heap.size w w' := by
  by_cases h1 : k = 1
  · subst h1
    go_enter Tryz.func25, Tryz.ntmps25
    go_wp2
    go_ret
    exact ⟨some ⟨w.heap.size, 0, none⟩, rfl, bytes_new w [2] 61, (fun ad h => by injection h with h; rw [← h]), (Below.refl _ _).alloc (Nat.le_refl _) _⟩
  by_cases h2 : k = 2
  · subst h2
    go_enter Tryz.func25, Tryz.ntmps25
    go_wp2
    go_ret
    exact ⟨some ⟨w.heap.size, 0, none⟩, rfl, bytes_new w [0, 1, 2] 61, (fun ad h => by injection h with h; rw [← h]), (Below.refl _ _).alloc (Nat.le_refl _) _⟩
  by_cases h3 : k = 3
  · subst h3
    go_enter Tryz.func25, Tryz.ntmps25
    go_wp2
    go_ret
    exact ⟨some ⟨w.heap.size, 0, none⟩, rfl, bytes_new w [0, 1, 2] 61, (fun ad h => by injection h with h; rw [← h]), (Below.refl _ _).alloc (Nat.le_refl _) _⟩
  by_cases h4 : k = 4
  · subst h4
    go_enter Tryz.func25, Tryz.ntmps25
    go_wp2
    go_ret
    exact ⟨some ⟨w.heap.size, 0, none⟩, rfl, bytes_new w [0, 1, 2] 61, (fun ad h => by injection h with h; rw [← h]), (Below.refl _ _).alloc (Nat.le_refl _) _⟩
  by_cases h5 : k = 5
  · subst h5
    go_enter Tryz.func25, Tryz.ntmps25
    go_wp2
    go_ret
    exact ⟨some ⟨w.heap.size, 0, none⟩, rfl, bytes_new w [1, 3] 61, (fun ad h => by injection h with h; rw [← h]), (Below.refl _ _).alloc (Nat.le_refl _) _⟩
  by_cases h6 : k = 6
  · subst h6
    go_enter Tryz.func25, Tryz.ntmps25
    go_wp2
    go_ret
    exact ⟨some ⟨w.heap.size, 0, none⟩, rfl, bytes_new w [7] 61, (fun ad h => by injection h with h; rw [← h]), (Below.refl _ _).alloc (Nat.le_refl _) _⟩
  by_cases h7 : k = 7
  · subst h7
    go_enter Tryz.func25, Tryz.ntmps25
    go_wp2
    go_ret
    exact ⟨some ⟨w.heap.size, 0, none⟩, rfl, bytes_new w [0, 8] 61, (fun ad h => by injection h with h; rw [← h]), (Below.refl _ _).alloc (Nat.le_refl _) _⟩
  by_cases h8 : k = 8
  · subst h8
    go_enter Tryz.func25, Tryz.ntmps25
    go_wp2
    go_ret
    exact ⟨some ⟨w.heap.size, 0, none⟩, rfl, bytes_new w [4] 61, (fun ad h => by injection h with h; rw [← h]), (Below.refl _ _).alloc (Nat.le_refl _) _⟩
  by_cases h9 : k = 9
  · subst h9
    go_enter Tryz.func25, Tryz.ntmps25
    go_wp2
    go_ret
    exact ⟨some ⟨w.heap.size, 0, none⟩, rfl, bytes_new w [4] 61, (fun ad h => by injection h with h; rw [← h]), (Below.refl _ _).alloc (Nat.le_refl _) _⟩
  by_cases h10 : k = 10
  · subst h10
    go_enter Tryz.func25, Tryz.ntmps25
    go_wp2
    go_ret
    exact ⟨some ⟨w.heap.size, 0, none⟩, rfl, bytes_new w [4, 1] 61, (fun ad h => by injection h with h; rw [← h]), (Below.refl _ _).alloc (Nat.le_refl _) _⟩
  by_cases h11 : k = 11
  · subst h11
    go_enter Tryz.func25, Tryz.ntmps25
    go_wp2
    go_ret
    exact ⟨some ⟨w.heap.size, 0, none⟩, rfl, bytes_new w [1, 5] 61, (fun ad h => by injection h with h; rw [← h]), (Below.refl _ _).alloc (Nat.le_refl _) _⟩
  by_cases h12 : k = 12
  · subst h12
    go_enter Tryz.func25, Tryz.ntmps25
    go_wp2
    go_ret
    exact ⟨some ⟨w.heap.size, 0, none⟩, rfl, bytes_new w [1, 9] 61, (fun ad h => by injection h with h; rw [← h]), (Below.refl _ _).alloc (Nat.le_refl _) _⟩
  by_cases h13 : k = 13
  · subst h13
    go_enter Tryz.func25, Tryz.ntmps25
    go_wp2
    go_ret
    exact ⟨some ⟨w.heap.size, 0, none⟩, rfl, bytes_new w [1, 5, 10] 61, (fun ad h => by injection h with h; rw [← h]), (Below.refl _ _).alloc (Nat.le_refl _) _⟩
  by_cases h14 : k = 14
  · subst h14
    go_enter Tryz.func25, Tryz.ntmps25
    go_wp2
    go_ret
    exact ⟨some ⟨w.heap.size, 0, none⟩, rfl, bytes_new w [0, 2, 6] 61, (fun ad h => by injection h with h; rw [← h]), (Below.refl _ _).alloc (Nat.le_refl _) _⟩
  · have e0 : partsOf k = [] := by unfold partsOf; simp [h1, h2, h3, h4, h5, h6, h7, h8, h9, h10, h11, h12, h13, h14]
    rw [e0]
    go_enter Tryz.func25, Tryz.ntmps25
    go_wp2
    go_ret
    exact ⟨none, rfl, (fun i hi => by simp at hi), (fun ad h => by cases h), Below.refl _ _⟩

/-- what Encode leaves -/
def EncDone (w w' : World) (ib : Bool) (bs : List Int) (e : Ending) : Prop :=
  (ib = false → e = .returned (.tuple #[.slice none 0 0, .int .i64 30])) ∧
  (ib = true → bs.length ≤ 8000 → ∃ ao c, e = .returned (.tuple #[.slice ao bs.length c, .int .i64 0]) ∧ New w.heap.size w' ao c bs) ∧
  (ib = true → 8000 < bs.length → e = .returned (.tuple #[.slice none 0 0, .int .i64 21])) ∧ Below w.heap.size w w'

theorem New.mono {H K : Nat} {w : World} {ao : Option Addr} {c : Nat} {l : List Int} (h : New H w ao c l) (hk : K ≤ H) : New K w ao c l := ⟨h.1, fun ad e => Nat.le_trans hk (h.2 ad e)⟩

theorem flat_len (pb : Int → List Int) : ∀ ps : List Int, (∀ p ∈ ps, (pb p).length ≤ 100000) → (ps.flatMap pb).length ≤ 100000 * ps.length
  | [], _ => by simp
  | p :: r, h => by
    have h1 := h p (by simp)
    have h2 := flat_len pb r (fun q hq => h q (by simp [hq]))
    simp only [List.flatMap_cons, List.length_append, List.length_cons]
    omega

def encUp (m : Mg) (pb : Int → List Int) (ps : List Int) : List Int := [m.k, m.f, m.t, m.e] ++ ps.flatMap pb

set_option maxHeartbeats 8000000 in
theorem encode_any (w : World) (m : Mg) (ib : Bool) (pb : Int → List Int) (hpb : ∀ p ∈ partsOf m.k, (pb p).length ≤ 100000)
    (hi : ∀ w1, Below w.heap.size w w1 → Calls Tryz.prog 10 #[.agg m.cells.toArray] w1 fun e w2 => e = .returned (.bool ib) ∧ Below w1.heap.size w1 w2)
    (hw : ib = true → ∀ p ∈ partsOf m.k, ∀ W0 w1 B g xs, Below w.heap.size w w1 → Wrote W0 B g xs w1 → xs.length ≤ 600000 → Calls Tryz.prog 26 #[.pointer (some ⟨B, 0, none⟩), .agg m.cells.toArray, .int .u8 p] w1 fun e w2 => e = .returned (.tuple #[]) ∧ Wrote W0 B g (xs ++ pb p) w2) :
    Calls Tryz.prog 8 #[.agg m.cells.toArray] w fun e w' => EncDone w w' ib (encUp m pb (partsOf m.k)) e := by
  have hpl := partsOf_len m.k
  have CP := Lib.hid (parts_new m.k)
  generalize hPS : partsOf m.k = ps at *
  obtain ⟨W, hW⟩ : ∃ W, W = w.alloc (.cells m.cells.toArray 37) := ⟨_, rfl⟩
  have hbx := bx1 hW
  have hbl := bl1 hW
  have HBX := Lib.hid hbx
  have HBL := Lib.hid hbl
  have HW := Lib.hid hW
  have HI := Lib.hid hi
  have HWR := Lib.hid hw
  have HPB := Lib.hid hpb
  clear hW hbx hbl hi hw hpb hPS
  simp only [Mg.cells] at HW ⊢
  go_enter Tryz.func8, Tryz.ntmps8
  go_upto_region 1 with fail
  rw [← HW.out]
  have eA := mgA m
  rw [eA]
  clear eA HW
  have hsz : m.cells.toArray.size = 25 := rfl
  have HQ := Lib.hid (fun (w' : World) (h : w'.heap[w.heap.size]? = some (.cells m.cells.toArray 37 (0, 0))) (i : Nat) => cell_box h i)
  generalize hA : m.cells.toArray = A at *
  have HSZ := Lib.hid hsz
  clear hA hsz
  refine wp_region_lit ?_
  refine wpList_load_row rfl 37 (.tmp 1) rfl w.heap.size rfl 37 _ (0, 0) _ HBX.out Tryz.underlying37 rfl (by rw [HSZ.out]; exact size37) ?_
  go_wp2_with fail
  refine Calls.mono (HI.out _ HBL.out) ?_
  rintro e w1 ⟨rfl, hb1⟩
  have B1 := Lib.hid (HBL.out.trans (hb1.mono HBL.out.size))
  have X1 := Lib.hid ((hb1.block w.heap.size (lt_of_block HBX.out)).trans HBX.out)
  clear hb1
  cases ib
  · go_wp2_with fail
    go_ret2
    exact ⟨fun _ => rfl, (fun h => by cases h), (fun h => by cases h), B1.out⟩
  · go_wp2_with fail
    refine Calls.mono (new_any _) ?_
    rintro e w2 ⟨rfl, rfl⟩
    have hxb : (w1.alloc (.cells #[.slice none 0 0] 107)).heap[w.heap.size]? = some (.cells A 37 (0, 0)) := by rw [heap_alloc_old _ _ (lt_of_block X1.out)]; exact X1.out
    have B2 := B1.out.alloc (Nat.le_of_lt (lt_of_block X1.out)) (.cells #[.slice none 0 0] 107)
    have S0 := Wrote.start (wr_new w1)
    have hlt : w.heap.size < w1.heap.size := lt_of_block X1.out
    generalize hW2 : w1.alloc (.cells #[.slice none 0 0] 107) = W2 at *
    generalize hBB : w1.heap.size = B at *
    have hw2s : B < W2.heap.size := by rw [← hW2, ← hBB]; simp
    have HB2 := Lib.hid B2
    have H0 := Lib.hid S0
    have HXB := Lib.hid hxb
    have HST := Lib.hid (fun ys w' (h : Wrote W2 B none ys w') => h.stay hxb (by omega) (by intro e; cases e))
    have q : W2.cell? ⟨w.heap.size, 0, none⟩ = some (.int .u8 m.k) := HQ.out _ hxb 0
    clear B2 S0 hxb hW2 hBB
    go_wp2_with fail
    clear q
    refine Calls.mono (u8_wr W2 _ B none _ m.k H0.out (by simp)) ?_
    rintro e v1 ⟨rfl, h1⟩
    have p := HST.out _ _ h1
    have H1 := Lib.hid h1
    have q : v1.cell? ⟨w.heap.size, 1, none⟩ = some (.int .u8 m.f) := HQ.out _ p 1
    clear h1 p
    go_wp2_with fail
    clear q
    refine Calls.mono (u8_wr W2 _ B none _ m.f H1.out (by simp)) ?_
    rintro e v2 ⟨rfl, h1⟩
    have p := HST.out _ _ h1
    have H2 := Lib.hid h1
    have q : v2.cell? ⟨w.heap.size, 2, none⟩ = some (.int .u8 m.t) := HQ.out _ p 2
    clear h1 p
    go_wp2_with fail
    clear q
    refine Calls.mono (u8_wr W2 _ B none _ m.t H2.out (by simp)) ?_
    rintro e v3 ⟨rfl, h1⟩
    have p := HST.out _ _ h1
    have H3 := Lib.hid h1
    have q : v3.cell? ⟨w.heap.size, 3, none⟩ = some (.int .u8 m.e) := HQ.out _ p 3
    clear h1 p
    go_wp2_with fail
    clear q
    refine Calls.mono (u8_wr W2 _ B none _ m.e H3.out (by simp)) ?_
    rintro e v4 ⟨rfl, h1⟩
    have p := HST.out _ _ h1
    have q : v4.cell? ⟨w.heap.size, 0, none⟩ = some (.int .u8 m.k) := HQ.out _ p 0
    have H4 := Lib.hid h1
    have X4 := Lib.hid p
    clear h1 p
    go_wp2_with fail
    clear q
    refine Calls.mono (CP.out _) ?_
    rintro e wp ⟨ao, rfl, hby, hnb, hbp⟩
    obtain ⟨g1, hwr4, hk4, hg4⟩ := H4.out
    have hg1b : ∀ k, g1 = some k → B < k := fun k e => by
      rcases hg4 with e' | ⟨k', e', hk'⟩
      · rw [e'] at e; cases e
      · rw [e'] at e; injection e with e; omega
    have hgx : g1 ≠ some w.heap.size := fun e => by have := hg1b _ e; omega
    have hglt : ∀ k, g1 = some k → k < v4.heap.size := fun k e => by
      obtain ⟨a5, n5, c5, hb5, ho5, h51, h52⟩ := hwr4
      exact own_lt ho5 (h51.trans e)
    have hBlt : B < v4.heap.size := hwr4.lt
    have hxp : wp.heap[w.heap.size]? = some (.cells A 37 (0, 0)) := (hbp.block _ (lt_of_block X4.out)).trans X4.out
    have BWP : Below w.heap.size w wp := HB2.out.trans ((H4.out.new hbp).bel (H := w.heap.size) (by omega) (by omega) (fun k e => by cases e))
    have S4 := Lib.hid (Wrote.start (hwr4.below hbp))
    have HKB := Lib.hid (fun ys w' (h : Wrote wp B g1 ys w') => BWP.trans (h.bel (H := w.heap.size) BWP.size (by omega) (fun k e => by have := hg1b k e; omega)))
    have HKX := Lib.hid (fun ys w' (h : Wrote wp B g1 ys w') => h.stay hxp (by omega) hgx)
    have HKP := Lib.hid (fun ys w' (h : Wrote wp B g1 ys w') => by
      obtain ⟨g2, _, hk2, _⟩ := h
      exact bytes_kept hby hk2 (fun ad e _ hS => by
        have e1 := hnb ad e
        rcases hS with hS | hS
        · omega
        · have := hglt _ hS.symm; omega))
    clear hwr4 hk4 hg4 hg1b hgx hglt hBlt hxp BWP hby hnb hbp
    generalize hln : ps.length = n at *
    have HLN := Lib.hid hln
    clear hln
    go_wp2_with fail
    go_loopw [6, 32] (fun _ vi wr => ∃ j : Nat, j ≤ n ∧ vi = .int .i64 j ∧ Hid (Wrote wp B g1 (encUp m pb (ps.take j)) wr)) (fun _ i _ => n - (intOf i).toNat)
    case atStart => exact ⟨0, by omega, rfl, Lib.hid (by simpa [encUp] using S4.out)⟩
    case round =>
      obtain ⟨j, hj, rfl, HR⟩ := hrel
      by_cases hlt2 : j < n
      · obtain ⟨ad, rfl, hc⟩ := HKP.out _ _ HR.out j (by rw [HLN.out]; exact hlt2)
        obtain ⟨p, hpd⟩ : ∃ p, p = ps.getD j 0 := ⟨_, rfl⟩
        rw [← hpd] at hc
        have hj' : ps[j]? = some p := by rw [hpd, List.getD_eq_getElem?_getD, List.getElem?_eq_getElem (by rw [HLN.out]; exact hlt2)]; rfl
        have hmem : p ∈ ps := List.mem_of_getElem? hj'
        have hs : encUp m pb (ps.take (j + 1)) = encUp m pb (ps.take j) ++ pb p := by rw [List.take_add_one, hj']; simp [encUp, List.flatMap_append]
        have hlen : (encUp m pb (ps.take j)).length ≤ 600000 := by
          have h7 := flat_len pb (ps.take j) (fun q hq => HPB.out q (List.mem_of_mem_take hq))
          have h8 : (ps.take j).length ≤ 3 := by simp; omega
          simp only [encUp, List.length_append, List.length_cons, List.length_nil]
          omega
        have F := Lib.hid (HWR.out (by first | rfl | trivial) p hmem wp wr B g1 _ (HKB.out _ _ HR.out) HR.out hlen)
        have XW := Lib.hid (HKX.out _ _ HR.out)
        have HS := Lib.hid hs
        clear hpd hj' hmem hs hlen
        go_upto_region 11 with fail
        refine wp_region_lit ?_
        refine wpl_val (v := .pointer (some ⟨B, 0, none⟩)) (w1 := wr) rfl (by go_simp) _ rfl ?_
        refine wpList_load_row rfl 37 (.tmp 1) rfl w.heap.size rfl 37 _ (0, 0) _ XW.out Tryz.underlying37 rfl (by rw [HSZ.out]; exact size37) ?_
        go_wp2_with fail
        refine Calls.mono F.out ?_
        rintro e w5 ⟨rfl, h5⟩
        rw [← HS.out] at h5
        have H5 := Lib.hid h5
        clear h5
        go_wp2_with fail
        go_round
        case measure => simp [intOf]; omega
        case rel => exact ⟨j + 1, by omega, by go_num, H5⟩
      · obtain rfl : j = n := by omega
        have hR := HR.out
        rw [List.take_of_length_le (by rw [HLN.out]; exact Nat.le_refl _)] at hR
        have hlen : (encUp m pb ps).length ≤ 600000 := by
          have h7 := flat_len pb ps (fun q hq => HPB.out q hq)
          have h8 := HLN.out
          simp only [encUp, List.length_append, List.length_cons, List.length_nil]
          omega
        have BWR := Lib.hid (HKB.out _ _ hR)
        obtain ⟨g2, hw2, -, -⟩ := hR
        obtain ⟨bs, hbs⟩ : ∃ bs, bs = encUp m pb ps := ⟨_, rfl⟩
        rw [← hbs] at hw2 hlen
        have HBS := Lib.hid hbs
        clear hbs
        have C := Lib.hid (all_any wr B g2 bs hw2 (by omega))
        generalize hbl : bs.length = bl at *
        have HBLN := Lib.hid hbl
        clear hw2 hbl
        go_wp2_with fail
        refine Calls.mono C.out ?_
        rintro e w6 ⟨ao6, c6, rfl, hnew, hb6⟩
        have HNEW := Lib.hid hnew
        have B6 := Lib.hid (BWR.out.trans (hb6.mono BWR.out.size))
        clear hnew hb6
        by_cases hbig : bl ≤ 8000
        · have hbigI : ¬ (bl : Int) > 8000 := by omega
          go_wp2_with fail
          go_ret2
          rw [← HBS.out]
          refine ⟨(fun h => by cases h), fun _ _ => ⟨ao6, c6, ?_, HNEW.out.mono BWR.out.size⟩, (fun _ h => by rw [HBLN.out] at h; omega), B6.out⟩
          rw [HBLN.out]; rfl
        · have hbigI : (bl : Int) > 8000 := by omega
          go_wp2_with fail
          go_ret2
          rw [← HBS.out]
          exact ⟨(fun h => by cases h), (fun _ h => by rw [HBLN.out] at h; omega), (fun _ _ => rfl), B6.out⟩

def Src (w : World) (S R : Nat) : Prop := w.heap[S]? = some (.cells #[.pointer (some ⟨R, 0, none⟩), .int .i64 0] 94 (0, 0))

theorem Src.ne {w : World} {S R : Nat} {l : List Int} (h : Src w S R) (hr : Rd w R l) : S ≠ R := by
  obtain ⟨ao, cap, hb, _⟩ := hr
  intro e
  subst e
  rw [Src, hb] at h
  simp at h

theorem Src.kept {w w' : World} {S R : Nat} {l : List Int} (h : Src w S R) (hr : Rd w R l) (hk : Kept (fun k => k = R) w w') : Src w' S R := by
  unfold Src
  rw [hk.block S (lt_of_block h) (h.ne hr)]; exact h

set_option maxHeartbeats 1600000 in
theorem get8 (w : World) (S R : Nat) (l : List Int) (hs : Src w S R) (hr : Rd w R l) (h1 : 1 ≤ l.length) (hl : l.length ≤ 1000000) :
    Calls Tryz.prog 82 #[.pointer (some ⟨S, 0, none⟩), .func (.func 83) #[.pointer (some ⟨R, 0, none⟩)] #[]] w fun e w' => e = .returned (.int .u8 (l.getD 0 0)) ∧ Rd w' R (l.drop 1) ∧ Kept (fun k => k = R) w w' := by
  have q1 : w.cell? ⟨S, 1, none⟩ = some (.int .i64 0) := by rw [cell_of_row _ _ _ _ _ _ hs]; rfl
  have C := Lib.hid (r8_any w R l hr h1 hl)
  generalize l.getD 0 0 = x at C
  clear hs hr
  go_enter Tryz.func82, Tryz.ntmps82
  go_wp2_with fail
  refine Calls.mono C.out ?_
  rintro e w1 ⟨rfl, h2, h3⟩
  have H2 := Lib.hid h2
  have H3 := Lib.hid h3
  clear h2 h3
  go_wp2_with fail
  go_ret
  exact ⟨rfl, H2.out, H3.out⟩

set_option maxHeartbeats 1600000 in
theorem su8 (w : World) (S R : Nat) (l : List Int) (hs : Src w S R) (hr : Rd w R l) (h1 : 1 ≤ l.length) (hl : l.length ≤ 1000000) :
    Calls Tryz.prog 59 #[.pointer (some ⟨S, 0, none⟩)] w fun e w' => e = .returned (.int .u8 (l.getD 0 0)) ∧ Rd w' R (l.drop 1) ∧ Kept (fun k => k = R) w w' := by
  have q0 : w.cell? ⟨S, 0, none⟩ = some (.pointer (some ⟨R, 0, none⟩)) := by rw [cell_of_row _ _ _ _ _ _ hs]; rfl
  have C := Lib.hid (get8 w S R l hs hr h1 hl)
  generalize l.getD 0 0 = x at C
  have hmf : ∀ (fn : Fn) (first cap : Array Value) (w : World), (Instr.makeFunc fn first cap).run Tryz.prog w = .ok (.func fn first cap) w := fun _ _ _ _ => rfl
  clear hs hr
  go_enter Tryz.func59, Tryz.ntmps59
  go_wp2_with fail
  refine Calls.mono C.out ?_
  rintro e w1 ⟨rfl, h2, h3⟩
  have H2 := Lib.hid h2
  have H3 := Lib.hid h3
  clear h2 h3
  go_wp2_with fail
  go_ret
  exact ⟨rfl, H2.out, H3.out⟩

theorem Rd.empty {w w' : World} {R : Nat} (h : Rd w R []) (hk : w'.heap[R]? = w.heap[R]?) : Rd w' R [] := by
  obtain ⟨ao, cap, hb, hB, hcap, hnone, hne, hby⟩ := h
  exact ⟨ao, cap, by rw [hk]; exact hb, (fun i hi => by simp at hi), hcap, hnone, (fun _ _ h => by simp at h), hby⟩

set_option maxHeartbeats 1600000 in
/-- the count is read -/
theorem read4 (w : World) (S R M : Nat) (c : Int) (X : Array Value) (old : Value) (hs : Src w S R) (hr : Rd w R [c]) (hM : w.heap[M]? = some (.cells X 37 (0, 0))) (hX : X[12]? = some old) :
    Calls Tryz.prog 60 #[.pointer (some ⟨S, 0, none⟩), .pointer (some ⟨M, 0, none⟩), .int .u8 4] w fun e w' => e = .returned (.tuple #[]) ∧ Rd w' R [] ∧ w'.heap[M]? = some (.cells (X.setIfInBounds 12 (.int .u8 c)) 37 (0, 0)) ∧ Kept (fun k => k = R ∨ k = M) w w' := by
  obtain ⟨W, hW⟩ : ∃ W, W = w.alloc (.cells #[.pointer (some ⟨S, 0, none⟩)] 90) := ⟨_, rfl⟩
  have hbl := bl1 hW
  have hMR : M ≠ R := by
    obtain ⟨ao, cap, hb, _⟩ := hr
    intro e; subst e
    rw [hb] at hM
    simp at hM
  have hs' : Src W S R := (hbl.block S (lt_of_block hs)).trans hs
  have hr' := hr.below hbl
  have hM' : W.heap[M]? = some (.cells X 37 (0, 0)) := (hbl.block M (lt_of_block hM)).trans hM
  have q : W.cell? ⟨w.heap.size, 0, none⟩ = some (.pointer (some ⟨S, 0, none⟩)) := by rw [hW, cell_of_row _ _ _ _ _ _ (heap_alloc_new _ _)]; rfl
  have C := Lib.hid (su8 W S R [c] hs' hr' (by simp) (by simp))
  have HM := Lib.hid hM'
  have HMR := Lib.hid hMR
  have HBL := Lib.hid hbl
  have HW := Lib.hid hW
  have HX := Lib.hid hX
  clear hs hr hM hW hbl hs' hr' hM' hMR hX
  go_enter Tryz.func60, Tryz.ntmps60
  go_upto_region 1 with fail
  rw [← HW.out]
  clear HW
  go_wp2_with fail
  refine Calls.mono C.out ?_
  rintro e w1 ⟨rfl, h2, h3⟩
  have hb1 : w1.heap[M]? = some (.cells X 37 (0, 0)) := by rw [h3.block M (lt_of_block HM.out) HMR.out]; exact HM.out
  have hc : w1.cell? ⟨M, 12, none⟩ = some old := by rw [cell_of_row _ _ _ _ _ _ hb1]; exact HX.out
  have hf : w1.frozen? ⟨M, 12, none⟩ = false := frozen_of_row _ _ _ _ _ hb1
  have H2 := Lib.hid h2
  have H3 := Lib.hid h3
  have HB1 := Lib.hid hb1
  clear h2 h3 hb1
  go_wp2_with fail
  go_end0
  refine ⟨rfl, ?_, heap_setCell_same _ _ _ _ _ _ HB1.out, ?_⟩
  · exact Rd.empty H2.out (heap_setCell_other _ _ _ _ (by simpa using fun e => HMR.out e.symm))
  · refine Kept.setCell ?_ _ _ (fun _ => .inr rfl)
    exact (Kept.ofBelow (S := fun k => k = R ∨ k = M) HBL.out).trans H3.out (fun i _ e => .inl e)

def dm (f t e c : Int) : Mg := { k := 8, f := f, t := t, e := e, vw := 0, sq := 0, rq := Rq.zero, ro := 0, ct := c, pg := 0, rs := 0, vt := Vt.zero, vs := ⟨none, 0, 0⟩, sm := ⟨none, 0, 0⟩, dt := ⟨none, 0, 0⟩ }

theorem dm_at (w : World) (f t e c : Int) : MgAt w (dm f t e c) Mc.nil :=
  ⟨⟨Row.nil _ _ _, Row.nil _ _ _, Row.nil _ _ _⟩, ⟨Row.nil _ _ _, fun x hx => by cases hx⟩, Row.nil _ _ _, ⟨rfl, (fun i hi => by simp [Mc.nil] at hi), fun _ => rfl, Nat.le_refl _, by simp [Mc.nil], fun x hx => by simp [Mc.nil] at hx⟩⟩

theorem add_zero (ad : Addr) : ad.add 0 = ad := by unfold Addr.add; simp

theorem dm_step (f t e c : Int) : ((dm f t e 0).cells.toArray).setIfInBounds 12 (.int .u8 c) = (dm f t e c).cells.toArray := rfl

set_option maxHeartbeats 8000000 in
theorem decode_count (w : World) (ao : Option Addr) (cap : Nat) (f t e c : Int) (hb : Bytes w ao [8, f, t, e, c]) (hno : ao = none → False) (hby : ∀ x ∈ [8, f, t, e, c], isByte x)
    (hi : isB (dm f t e c) Mc.nil false false = true) :
    Calls Tryz.prog 20 #[.slice ao 5 cap] w fun e' w' => e' = .returned (.tuple #[.agg (dm f t e c).cells.toArray, .int .i64 0]) ∧ Below w.heap.size w w' := by
  obtain ⟨W, hW⟩ : ∃ W, W = w.alloc (.cells Vz.toArray 37) := ⟨_, rfl⟩
  have hbl := bl1 hW
  have hg0 : W.heap[w.heap.size]? = some (.cells Vz.toArray 37 (0, 0)) := by rw [hW]; exact heap_alloc_new _ _
  have CO := Lib.hid (open_any W ao cap [8, f, t, e, c] (bytes_below hb hbl (Nat.le_refl _)) (fun h => (hno h).elim) (by simp) hby)
  have CI := Lib.hid (fun w1 => is_any w1 (dm f t e c) Mc.nil (dm_at w1 f t e c) false false (fun h => by simp [dm, partsOf] at h) (fun h => by simp [dm, partsOf] at h))
  rw [hi] at CI
  have HBL := Lib.hid hbl
  have HG0 := Lib.hid hg0
  have HW := Lib.hid hW
  clear hb hno hby hi hbl hg0 hW
  simp only [Vz] at HW
  go_enter Tryz.func20, Tryz.ntmps20
  go_upto_region 1 with fail
  rw [← HW.out]
  clear HW
  go_wp2_with fail
  refine Calls.mono CO.out ?_
  rintro e1 w1 ⟨R, rfl, hR, hrd, hb1⟩
  obtain ⟨w2, hw2⟩ : ∃ w2, w2 = w1.alloc (.cells #[.pointer (some ⟨R, 0, none⟩), .int .i64 0] 94) := ⟨_, rfl⟩
  have hb2 : Below w1.heap.size w1 w2 := by rw [hw2]; exact (Below.refl _ _).alloc (Nat.le_refl _) _
  have hsrc : Src w2 w1.heap.size R := by rw [hw2]; exact heap_alloc_new _ _
  have S2 := Lib.hid hsrc
  have R2 := Lib.hid (hrd.below hb2)
  have B2 := Lib.hid (Below.up (W := W) hb1 hb2)
  have HRW := Lib.hid hR
  have HW2 := Lib.hid hw2
  have hRl : R < w2.heap.size := (hrd.below hb2).lt
  have HRL := Lib.hid hRl
  generalize hS : w1.heap.size = S at *
  clear hb2 hsrc hrd hb1 hw2 hR hRl
  go_wp2_with fail
  rw [← HW2.out]
  have C1 := su8 w2 S R [8, f, t, e, c] S2.out R2.out (by simp) (by simp)
  simp only [List.getD_cons_zero, List.drop_succ_cons, List.drop_zero] at C1
  refine Calls.mono C1 ?_
  rintro e2 v1 ⟨rfl, h1, h2⟩
  have S3 := Lib.hid (S2.out.kept R2.out h2)
  have R3 := Lib.hid h1
  have K1 : Hid (Kept (fun k => k = R) w2 v1) := Lib.hid (h2)
  clear C1 h1 h2
  go_wp2_with fail
  have C2 := su8 v1 S R [f, t, e, c] S3.out R3.out (by simp) (by simp)
  simp only [List.getD_cons_zero, List.drop_succ_cons, List.drop_zero] at C2
  refine Calls.mono C2 ?_
  rintro e3 v2 ⟨rfl, h1, h2⟩
  have S4 := Lib.hid (S3.out.kept R3.out h2)
  have R4 := Lib.hid h1
  have K2 : Hid (Kept (fun k => k = R) w2 v2) := Lib.hid (K1.out.trans h2 (fun _ _ e => e))
  clear C2 h1 h2
  go_wp2_with fail
  have C3 := su8 v2 S R [t, e, c] S4.out R4.out (by simp) (by simp)
  simp only [List.getD_cons_zero, List.drop_succ_cons, List.drop_zero] at C3
  refine Calls.mono C3 ?_
  rintro e4 v3 ⟨rfl, h1, h2⟩
  have S5 := Lib.hid (S4.out.kept R4.out h2)
  have R5 := Lib.hid h1
  have K3 : Hid (Kept (fun k => k = R) w2 v3) := Lib.hid (K2.out.trans h2 (fun _ _ e => e))
  clear C3 h1 h2
  go_wp2_with fail
  have C4 := su8 v3 S R [e, c] S5.out R5.out (by simp) (by simp)
  simp only [List.getD_cons_zero, List.drop_succ_cons, List.drop_zero] at C4
  refine Calls.mono C4 ?_
  rintro e5 v4 ⟨rfl, h1, h2⟩
  have S6 := Lib.hid (S5.out.kept R5.out h2)
  have R6 := Lib.hid h1
  have K4 : Hid (Kept (fun k => k = R) w2 v4) := Lib.hid (K3.out.trans h2 (fun _ _ e => e))
  clear C4 h1 h2
  dsimp only
  refine ‹∀ (a : Act) (w : World), wpList Tryz.prog _ _ _ a w → _› _ _ ?_
  obtain ⟨M, hMs⟩ : ∃ M, M = v4.heap.size := ⟨_, rfl⟩
  obtain ⟨V, hV⟩ : ∃ V, V = v4.alloc (.cells Vz.toArray 37) := ⟨_, rfl⟩
  have hVn : V.heap[M]? = some (.cells Vz.toArray 37 (0, 0)) := by rw [hV, hMs]; exact heap_alloc_new _ _
  obtain ⟨U, hU⟩ : ∃ U, U = V.setCells M 0 (dm f t e 0).cells := ⟨_, rfl⟩
  have hkk := fun k (h : k ≠ M) => setCells_kept M (dm f t e 0).cells 0 V k h
  have hUb : Below v4.heap.size v4 U := by
    have hnz := fun k (h : k < v4.heap.size) => hkk k (by omega)
    refine ⟨?_, ?_, ?_, ?_, fun k hk => ?_⟩
    · rw [hU, (hkk (M + 1) (by omega)).2.2.1, hV]; rfl
    · rw [hU, (hkk (M + 1) (by omega)).2.2.2.1, hV]; rfl
    · rw [hU, (hkk (M + 1) (by omega)).2.2.2.2, hV]; rfl
    · rw [hU, (hkk (M + 1) (by omega)).2.1, hV]; simp
    · rw [hU, (hnz k hk).1, hV]; exact heap_alloc_old _ _ hk
  have hUM : U.heap[M]? = some (.cells (dm f t e 0).cells.toArray 37 (0, 0)) := by rw [hU, setCells_block _ 37 _ _ _ _ hVn, over_zero]
  have hth : V.there M 0 25 := fun i hi => by
    refine ⟨?_, frozen_of_row _ _ _ _ _ hVn⟩
    rw [cell_of_row _ _ _ _ _ _ hVn]; simp [Vz]; omega
  have BV4 : Below w.heap.size w v4 := by
    have h5 : Below W.heap.size W v4 := B2.out.trans (K4.out.below (B := W.heap.size) B2.out.size (fun k e => by rw [e]; exact HRW.out))
    exact HBL.out.trans (h5.mono HBL.out.size)
  have hG4 : v4.heap[w.heap.size]? = some (.cells Vz.toArray 37 (0, 0)) := by
    rw [K4.out.block _ (Nat.lt_of_lt_of_le (lt_of_block HG0.out) B2.out.size) (by have := HRW.out; have := lt_of_block HG0.out; omega), B2.out.block _ (lt_of_block HG0.out)]
    exact HG0.out
  have HSU := Lib.hid ((hUb.block S (lt_of_block S6.out)).trans S6.out)
  have HRU := Lib.hid (R6.out.below hUb)
  have HGU := Lib.hid ((hUb.block _ (lt_of_block hG4)).trans hG4)
  have HBU := Lib.hid (BV4.trans (hUb.mono BV4.size))
  have HUM := Lib.hid hUM
  have HMS := Lib.hid hMs
  have HTH := Lib.hid hth
  have HV := Lib.hid hV
  have HU := Lib.hid hU
  have HMG := Lib.hid (show M ≠ w.heap.size by have := lt_of_block hG4; omega)
  have HMBIG := Lib.hid (show w.heap.size < M by have := lt_of_block hG4; omega)
  have HMR := Lib.hid (show M ≠ R by have := R6.out.lt; omega)
  have HMS2 := Lib.hid (show M ≠ S by have := lt_of_block S6.out; omega)
  clear hVn hkk hUb hUM hth BV4 hG4 hMs hV hU S2 S3 S4 S5 S6 R2 R3 R4 R5 R6 K1 K2 K3 K4
  refine wpl_val (v := .agg (dm f t e 0).cells.toArray) (w1 := v4) rfl (by simp only [dm, Mg.cells, Rq.zero, Vt.zero]; go_simp) _ rfl ?_
  refine wpl_val (v := .pointer (some ⟨M, 0, none⟩)) (w1 := V) rfl (by have e1 := HV.out; simp only [Vz] at e1; rw [HMS.out, e1]; go_simp) _ rfl ?_
  refine wpList_store_mid rfl 37 (.tmp 5) (.tmp 24) rfl M 0 (dm f t e 0).cells.toArray rfl rfl HTH.out size37 (all_oneCell_toArray (dm f t e 0).one) ?_
  dsimp only
  rw [← HU.out]
  clear HTH HV HU HMS
  have q0 : U.cell? ⟨M, 0, none⟩ = some (.int .u8 8) := cell_box HUM.out 0
  generalize hD0 : (dm f t e 0).cells.toArray = D0
  go_wp2_with fail
  clear q0
  refine Calls.mono (parts_new 8 U) ?_
  rintro e6 wp ⟨ao2, rfl, hby2, hnb2, hbp⟩
  have e8 : partsOf 8 = [4] := rfl
  rw [e8] at hby2
  obtain ⟨ad, rfl, hc4⟩ := hby2 0 (by simp)
  have hadb := hnb2 ad rfl
  have HAD := Lib.hid hadb
  have P1 := Lib.hid hc4
  have Q1 := Lib.hid ((hbp.block M (lt_of_block HUM.out)).trans HUM.out)
  have Q2 := Lib.hid ((hbp.block S (lt_of_block HSU.out)).trans HSU.out)
  have Q3 := Lib.hid (HRU.out.below hbp)
  have Q4 := Lib.hid ((hbp.block _ (lt_of_block HGU.out)).trans HGU.out)
  have Q5 := Lib.hid (HBU.out.trans (hbp.mono HBU.out.size))
  have HU1 := Lib.hid (show M < U.heap.size from lt_of_block HUM.out)
  have HU2 := Lib.hid (show R < U.heap.size from HRU.out.lt)
  clear hby2 hnb2 hc4 hadb hbp
  simp only [e8, List.length_cons, List.length_nil, Nat.zero_add]
  clear e8
  go_wp2_with fail
  go_loopw [7, 29] (fun _ vi wr => ∃ j : Nat, vi = .int .i64 j ∧ ((j = 0 ∧ Hid (wr = wp)) ∨ (j = 1 ∧ Hid (wr.heap[M]? = some (.cells (dm f t e c).cells.toArray 37 (0, 0)) ∧ Src wr S R ∧ Rd wr R [] ∧ wr.heap[w.heap.size]? = some (.cells Vz.toArray 37 (0, 0)) ∧ Below w.heap.size w wr)))) (fun _ i _ => 1 - (intOf i).toNat)
  case atStart => exact ⟨0, rfl, .inl ⟨rfl, Lib.hid rfl⟩⟩
  case round =>
    obtain ⟨j, rfl, hjj⟩ := hrel
    rcases hjj with ⟨rfl, hwr⟩ | ⟨rfl, HH⟩
    · have hwr' := hwr.out
      subst hwr'
      clear hwr
      have hcell : wr.cell? (ad.add 0) = some (.int .u8 4) := P1.out
      have hcell0 : wr.cell? ad = some (.int .u8 4) := by rw [← add_zero ad]; exact P1.out
      have F := Lib.hid (read4 wr S R M c _ _ Q2.out Q3.out Q1.out (show _ = some (Value.int .u8 0) from rfl))
      rw [dm_step] at F
      go_wp2_with fail
      refine Calls.mono F.out ?_
      rintro e7 w7 ⟨rfl, h1, h2, h3⟩
      have HN : Hid (w7.heap[M]? = some (.cells (dm f t e c).cells.toArray 37 (0, 0)) ∧ Src w7 S R ∧ Rd w7 R [] ∧ w7.heap[w.heap.size]? = some (.cells Vz.toArray 37 (0, 0)) ∧ Below w.heap.size w w7) := by
        refine Lib.hid ⟨h2, ?_, h1, ?_, ?_⟩
        · unfold Src
          rw [h3.block S (lt_of_block Q2.out) (by rintro (e | e); exact Src.ne Q2.out Q3.out e; exact HMS2.out e.symm)]; exact Q2.out
        · rw [h3.block _ (lt_of_block Q4.out) (by
            rintro (e | e)
            · have := HRW.out; have := lt_of_block HG0.out; omega
            · exact HMG.out e.symm)]
          exact Q4.out
        · refine Q5.out.trans (h3.below (B := w.heap.size) Q5.out.size (fun k e => ?_))
          rcases e with e | e
          · have := HRW.out; have := lt_of_block HG0.out; omega
          · have := HMBIG.out; omega
      clear h1 h2 h3
      go_wp2_with fail
      go_round
      case measure => simp [intOf]
      case rel => exact ⟨1, by go_num, .inr ⟨rfl, HN⟩⟩
    · have hsf : wr.cell? ⟨S, 1, none⟩ = some (.int .i64 0) := by rw [cell_of_row _ _ _ _ _ _ HH.out.2.1]; rfl
      go_upto_region 12 with fail
      refine wp_region_lit ?_
      refine wpList_load_row rfl 37 (.tmp 5) rfl M rfl 37 _ (0, 0) _ HH.out.1 Tryz.underlying37 rfl size37 ?_
      go_wp2_with fail
      refine Calls.mono (CI.out _) ?_
      rintro e8 w8 ⟨rfl, hb8⟩
      have T1 := Lib.hid ((hb8.block M (lt_of_block HH.out.1)).trans HH.out.1)
      have T2 := (hb8.block S (lt_of_block HH.out.2.1)).trans HH.out.2.1
      have T3 := Lib.hid (HH.out.2.2.1.below hb8)
      have T4 := Lib.hid ((hb8.block _ (lt_of_block HH.out.2.2.2.1)).trans HH.out.2.2.2.1)
      have T5 := Lib.hid (HH.out.2.2.2.2.trans (hb8.mono HH.out.2.2.2.2.size))
      have hsr : w8.cell? ⟨S, 0, none⟩ = some (.pointer (some ⟨R, 0, none⟩)) := by rw [cell_of_row _ _ _ _ _ _ T2]; rfl
      clear T2 hb8 hsf
      go_wp2_with fail
      refine Calls.mono (left_any w8 R [] T3.out) ?_
      rintro e9 w9 ⟨rfl, rfl⟩
      go_upto_region 16 with fail
      have hth : w8.there w.heap.size 0 25 := fun i hi => by
        refine ⟨?_, frozen_of_row _ _ _ _ _ T4.out⟩
        rw [cell_of_row _ _ _ _ _ _ T4.out]; simp [Vz]; omega
      obtain ⟨wz, hwz⟩ : ∃ wz, wz = w8.setCells w.heap.size 0 (dm f t e c).cells := ⟨_, rfl⟩
      have hk := fun k (h : k ≠ w.heap.size) => setCells_kept w.heap.size (dm f t e c).cells 0 w8 k h
      have hbel : Below w.heap.size w wz := T5.out.trans (by rw [hwz]; exact ⟨(hk (w.heap.size + 1) (by omega)).2.2.1, (hk (w.heap.size + 1) (by omega)).2.2.2.1, (hk (w.heap.size + 1) (by omega)).2.2.2.2, by rw [(hk (w.heap.size + 1) (by omega)).2.1]; exact Nat.le_refl _, fun k h => (hk k (by omega)).1⟩)
      have hblk : wz.heap[w.heap.size]? = some (.cells (dm f t e c).cells.toArray 37 (0, 0)) := by rw [hwz, setCells_block _ 37 _ _ _ _ T4.out, over_zero]
      refine wp_region_lit ?_
      refine wpList_load_row rfl 37 (.tmp 5) rfl M rfl 37 _ (0, 0) _ T1.out Tryz.underlying37 rfl size37 ?_
      refine wpList_store_mid rfl 37 (.tmp 2) (.tmp 61) rfl w.heap.size 0 (dm f t e c).cells.toArray rfl rfl hth size37 (all_oneCell_toArray (dm f t e c).one) ?_
      dsimp only
      rw [← hwz]
      have HBLK := Lib.hid hblk
      have HBEL := Lib.hid hbel
      clear hth hk hbel hblk hwz hsr
      go_wp2_with fail
      (try simp only [Exit.inBlock, Exit.then])
      refine bodyPost_ret (v := .tuple #[.agg (dm f t e c).cells.toArray, .int .i64 0]) ?_ rfl ⟨rfl, HBEL.out⟩
      rw [results_cell_tmp rfl]
      have hlv := run_loadVar_row (P := Tryz.prog) wz w.heap.size 37 37 _ (0, 0) _ HBLK.out Tryz.underlying37 rfl size37
      show ((asAddr (.pointer (some ⟨w.heap.size, 0, none⟩))).run Tryz.prog wz).andThen (fun a w₁ => ((loadVar 37 a).run Tryz.prog w₁).andThen fun v w₂ => .ok (Value.tuple #[v, Value.int .i64 0]) w₂) = _
      simp only [asAddr, Sem.run_pure, Result.andThen_ok, hlv]

theorem size27 : (Tryz.prog.info? 27).map (·.size) = some 5 := by kernel_rfl

theorem wlg {P : Program} {ops : Array Oper} {Q : Exit → Act → World → Prop} {o : Oper} {rest : List Oper} {a : Act} {w : World} (hw : Region.wanted o (yielded ops a.tmps) = true) (h : ∀ K, (∀ a w, wpList P ops Q rest a w → K a w) → o.wp P a w K Q) : wpList P ops Q (o :: rest) a w := by
  unfold wpList
  rw [if_pos hw]
  exact .inl (h _ fun _ _ h => h)
theorem wg {P : Program} {ops : Array Oper} {Q : Exit → Act → World → Prop} {o : Oper} {rest : List Oper} {t t' : Array Value} {df : List Deferred} {d : Nat} {w : World} (v : Value) (w1 : World) (hw : Region.wanted o (yielded ops t) = true) (h : (execOp (Act.mk t df).eval o).run P w = .ok (.value v) w1) (k : wpList P ops Q rest ⟨t', df⟩ w1)
    (hd : o.dst = some d := by rfl) (ha : t.setIfInBounds d v = t' := by simp only [List.setIfInBounds_toArray, List.set_cons_succ, List.set_cons_zero]; rfl) : wpList P ops Q (o :: rest) ⟨t, df⟩ w :=
  wlg hw fun K hK => by
    unfold Oper.wp; rw [h]; refine hK _ _ ?_
    subst ha; rw [hd]; exact k
theorem exec_load {P : Program} {o : Oper} {a : Act} {w : World} {p v : Value} (ty : TypeId) (x : Operand) (ho : o.op = .load ty x) (hx : a.eval x = p) (h : (Instr.loadAt ty p).run P w = .ok v w) : (execOp a.eval o).run P w = .ok (.value v) w := by
  unfold execOp
  simp only [ho, hx, Sem.run_bind, h, Result.andThen_ok, Sem.run_pure]

def km : Mg := dm 1 2 3 3
def km1 : Mg := { dm 1 2 3 3 with vw := 1 }
theorem km_set : (km.cells.toArray).setIfInBounds 4 (.int .u32 1) = km1.cells.toArray := rfl
theorem km1_at (w : World) : MgAt w km1 Mc.nil := ⟨(dm_at w 1 2 3 3).vt, (dm_at w 1 2 3 3).vs, (dm_at w 1 2 3 3).sm, (dm_at w 1 2 3 3).dt⟩
theorem km_is : isB km Mc.nil false false = true := by decide
theorem km1_is : isB km1 Mc.nil false false = false := by decide
theorem km_parts : partsOf km.k = [4] := rfl
theorem km_enc : encUp km (wordB km) (partsOf km.k) = [8, 1, 2, 3, 3] := by decide
theorem kr_text : (Rq.mk 1 2 1 3 4).text = [49, 58, 50, 58, 49, 58, 51, 58, 52] := by
  have h1 : dg 1 = [49] := Lib.decDigits_one (by decide)
  have h2 : dg 2 = [50] := Lib.decDigits_one (by decide)
  have h3 : dg 3 = [51] := Lib.decDigits_one (by decide)
  have h4 : dg 4 = [52] := Lib.decDigits_one (by decide)
  simp only [Rq.text, h1, h2, h3, h4]; rfl

theorem is_km (w : World) : Calls Tryz.prog 10 #[.agg km.cells.toArray] w fun e w' => e = .returned (.bool true) ∧ Below w.heap.size w w' := by
  have h := is_any w km Mc.nil (dm_at w 1 2 3 3) false false (fun h => by rw [km_parts] at h; simp at h) (fun h => by rw [km_parts] at h; simp at h)
  rw [km_is] at h; exact h
theorem is_km1 (w : World) : Calls Tryz.prog 10 #[.agg km1.cells.toArray] w fun e w' => e = .returned (.bool false) ∧ Below w.heap.size w w' := by
  have h := is_any w km1 Mc.nil (km1_at w) false false (fun h => by have e : partsOf km1.k = [4] := rfl; rw [e] at h; simp at h) (fun h => by have e : partsOf km1.k = [4] := rfl; rw [e] at h; simp at h)
  rw [km1_is] at h; exact h
theorem enc_km (w : World) : Calls Tryz.prog 8 #[.agg km.cells.toArray] w fun e w' => ∃ ao c, e = .returned (.tuple #[.slice ao 5 c, .int .i64 0]) ∧ New w.heap.size w' ao c [8, 1, 2, 3, 3] ∧ Below w.heap.size w w' := by
  have h := encode_any w km true (wordB km) (fun p hp => by rw [km_parts] at hp; simp at hp; subst hp; decide) (fun w1 _ => is_km w1) (fun _ p hp W0 w1 B g xs _ hW hl => by rw [km_parts] at hp; simp at hp; subst hp; exact write_wr W0 w1 B g xs km 4 (by decide) (by decide) hW hl)
  refine Calls.mono h ?_
  rintro e w' ⟨-, h2, -, h4⟩
  rw [km_enc] at h2
  obtain ⟨ao, c, h5, h6⟩ := h2 rfl (by decide)
  exact ⟨ao, c, h5, h6, h4⟩
theorem dec_km (w : World) (ao : Option Addr) (c : Nat) (h : Bytes w ao [8, 1, 2, 3, 3]) (hno : ao = none → False) : Calls Tryz.prog 20 #[.slice ao 5 c] w fun e w' => e = .returned (.tuple #[.agg km.cells.toArray, .int .i64 0]) ∧ Below w.heap.size w w' :=
  decode_count w ao c 1 2 3 3 h hno (by intro x hx; simp at hx; unfold isByte; omega) km_is
theorem put_any (w : World) : Calls Tryz.prog 22 #[.int .u8 1, .int .u32 2, .int .u8 3, .int .u16 4] w fun e w' => e = .returned (.agg (Rq.mk 1 2 1 3 4).cells.toArray) ∧ Below w.heap.size w w' := by
  simp only [Rq.cells]
  go_enter Tryz.func22, Tryz.ntmps22
  go_wp2_with fail
  (try simp only [Exit.inBlock, Exit.then])
  refine bodyPost_ret (results_cell_row (P := Tryz.prog) rfl _ _ w.heap.size 27 _ (0, 0) _ rfl (heap_alloc_new _ _) Tryz.underlying27 rfl size27) rfl ?_
  exact ⟨rfl, (Below.refl _ _).alloc (Nat.le_refl _) _⟩

set_option maxHeartbeats 8000000 in
theorem known_any (w : World) (ht : Tab w) : Calls Tryz.prog 5 #[] w fun e w' => e = .returned (.bool true) ∧ Below w.heap.size w w' := by
  obtain ⟨V, hV⟩ : ∃ V, V = w.alloc (.cells Vz.toArray 37) := ⟨_, rfl⟩
  have hVn : V.heap[w.heap.size]? = some (.cells Vz.toArray 37 (0, 0)) := by rw [hV]; exact heap_alloc_new _ _
  obtain ⟨U, hU⟩ : ∃ U, U = V.setCells w.heap.size 0 km.cells := ⟨_, rfl⟩
  have hkk := fun k (h : k ≠ w.heap.size) => setCells_kept w.heap.size km.cells 0 V k h
  have hUb : Below w.heap.size w U := by
    refine ⟨?_, ?_, ?_, ?_, fun k hk => ?_⟩
    · rw [hU, (hkk (w.heap.size + 1) (by omega)).2.2.1, hV]; rfl
    · rw [hU, (hkk (w.heap.size + 1) (by omega)).2.2.2.1, hV]; rfl
    · rw [hU, (hkk (w.heap.size + 1) (by omega)).2.2.2.2, hV]; rfl
    · rw [hU, (hkk (w.heap.size + 1) (by omega)).2.1, hV]; simp
    · rw [hU, (hkk k (by omega)).1, hV]; exact heap_alloc_old _ _ hk
  have hUM : U.heap[w.heap.size]? = some (.cells km.cells.toArray 37 (0, 0)) := by rw [hU, setCells_block _ 37 _ _ _ _ hVn, over_zero]
  have hth : V.there w.heap.size 0 25 := fun i hi => by
    refine ⟨?_, frozen_of_row _ _ _ _ _ hVn⟩
    rw [cell_of_row _ _ _ _ _ _ hVn]; simp [Vz]; omega
  have HTH := Lib.hid hth
  have HV := Lib.hid hV
  have HU := Lib.hid hU
  have HUB := Lib.hid hUb
  have HUM := Lib.hid hUM
  have HT := Lib.hid ht
  clear hV hVn hU hkk hUb hUM hth ht
  go_enter Tryz.func5, Tryz.ntmps5
  go_upto_region 1 with fail
  refine wp_region_lit ?_
  refine wpl_val (v := .agg km.cells.toArray) (w1 := w) rfl (by simp only [km, dm, Mg.cells, Rq.zero, Vt.zero]; go_simp) _ rfl ?_
  refine wpl_val (v := .pointer (some ⟨w.heap.size, 0, none⟩)) (w1 := V) rfl (by have e1 := HV.out; simp only [Vz] at e1; rw [e1]; go_simp) _ rfl ?_
  refine wpList_store_mid rfl 37 (.tmp 1) (.tmp 6) rfl w.heap.size 0 km.cells.toArray rfl rfl HTH.out size37 (all_oneCell_toArray km.one) ?_
  dsimp only
  rw [← HU.out]
  clear HTH HV HU
  generalize hA0 : km.cells.toArray = A0 at *
  have HA0 := Lib.hid hA0
  clear hA0
  go_upto_region 2 with fail
  refine wp_region_lit ?_
  refine wpList_load_row rfl 37 (.tmp 1) rfl w.heap.size rfl 37 _ (0, 0) _ HUM.out Tryz.underlying37 rfl (by rw [← HA0.out]; exact size37) ?_
  go_wp2_with fail
  have CE := enc_km U
  rw [HA0.out] at CE
  refine Calls.mono CE ?_
  rintro e1 w1 ⟨ao, c, rfl, hnew, hb1⟩
  have hby := own_bytes hnew.1
  have hno : ao = none → False := fun h => by have := (hnew.none h).1; simp at this
  have HAO := Lib.hid (fun ad (e : ao = some ad) => Nat.lt_of_lt_of_le (lt_of_block HUM.out) (hnew.2 ad e))
  have CD := dec_km w1 ao c hby hno
  rw [HA0.out] at CD
  have HBY := Lib.hid hby
  have HNO := Lib.hid hno
  have X1 := Lib.hid ((hb1.block _ (lt_of_block HUM.out)).trans HUM.out)
  have B1 := Lib.hid (HUB.out.trans (hb1.mono HUB.out.size))
  have HCD := Lib.hid CD
  clear hnew hb1 hby hno CE CD
  go_wp2_with fail
  refine Calls.mono HCD.out ?_
  rintro e2 w2 ⟨rfl, hb2⟩
  have X2 : w2.heap[w.heap.size]? = some (.cells A0 37 (0, 0)) := (hb2.block _ (lt_of_block X1.out)).trans X1.out
  have B2 := B1.out.trans (hb2.mono B1.out.size)
  have Y2 := bytes_below HBY.out hb2 (Nat.le_refl _)
  obtain ⟨M, hMs⟩ : ∃ M, M = w2.heap.size := ⟨_, rfl⟩
  obtain ⟨V2, hV2⟩ : ∃ V2, V2 = w2.alloc (.cells Vz.toArray 37) := ⟨_, rfl⟩
  have hVn : V2.heap[M]? = some (.cells Vz.toArray 37 (0, 0)) := by rw [hV2, hMs]; exact heap_alloc_new _ _
  obtain ⟨U2, hU2⟩ : ∃ U2, U2 = V2.setCells M 0 km.cells := ⟨_, rfl⟩
  have hkk := fun k (h : k ≠ M) => setCells_kept M km.cells 0 V2 k h
  have hUb : Below w2.heap.size w2 U2 := by
    have hnz := fun k (h : k < w2.heap.size) => hkk k (by omega)
    refine ⟨?_, ?_, ?_, ?_, fun k hk => ?_⟩
    · rw [hU2, (hkk (M + 1) (by omega)).2.2.1, hV2]; rfl
    · rw [hU2, (hkk (M + 1) (by omega)).2.2.2.1, hV2]; rfl
    · rw [hU2, (hkk (M + 1) (by omega)).2.2.2.2, hV2]; rfl
    · rw [hU2, (hkk (M + 1) (by omega)).2.1, hV2]; simp
    · rw [hU2, (hnz k hk).1, hV2]; exact heap_alloc_old _ _ hk
  have hUM : U2.heap[M]? = some (.cells km.cells.toArray 37 (0, 0)) := by rw [hU2, setCells_block _ 37 _ _ _ _ hVn, over_zero]
  have hth : V2.there M 0 25 := fun i hi => by
    refine ⟨?_, frozen_of_row _ _ _ _ _ hVn⟩
    rw [cell_of_row _ _ _ _ _ _ hVn]; simp [Vz]; omega
  have hGlt := lt_of_block X2
  have hGM : w.heap.size ≠ M := by omega
  have hG2 : U2.heap[w.heap.size]? = some (.cells km.cells.toArray 37 (0, 0)) := by rw [hUb.block _ hGlt, X2, HA0.out]
  have Y3 := bytes_below Y2 hUb (Nat.le_refl _)
  have B3 := B2.trans (hUb.mono B2.size)
  obtain ⟨U3, hU3⟩ : ∃ U3, U3 = U2.setCell ⟨w.heap.size, 4, none⟩ (.int .u32 1) := ⟨_, rfl⟩
  have hG3 : U3.heap[w.heap.size]? = some (.cells km1.cells.toArray 37 (0, 0)) := by rw [hU3, heap_setCell_same _ _ _ _ _ _ hG2, km_set]
  have hM3 : U3.heap[M]? = some (.cells km.cells.toArray 37 (0, 0)) := by rw [hU3, heap_setCell_other _ _ _ _ (by simpa using fun e => hGM e.symm)]; exact hUM
  have K3 : Kept (fun k => k = w.heap.size) U2 U3 := by rw [hU3]; exact (Kept.refl _ _).setCell _ _ (fun _ => rfl)
  have Y4 : Bytes U3 ao [8, 1, 2, 3, 3] := bytes_kept Y3 K3 (fun ad e _ h => by have := HAO.out ad e; omega)
  have B4 : Below w.heap.size w U3 := B3.trans (K3.below (B := w.heap.size) B3.size (fun k e => by omega))
  have hstr : (convert 35 9 (.slice ao 5 c)).run Tryz.prog U3 = .ok (.string ⟨#[8, 1, 2, 3, 3]⟩) U3 := str_bytes (l := [8, 1, 2, 3, 3]) Y4 (fun h => (HNO.out h).elim)
  have c4 : U2.cell? ⟨w.heap.size, 4, none⟩ = some (.int .u32 0) := cell_box (m := km) hG2 4
  have f4 : U2.frozen? ⟨w.heap.size, 4, none⟩ = false := frozen_of_row _ _ _ _ _ hG2
  have HZ := Lib.hid (msg_load (m := km1) hG3)
  have cM : U3.cell? ⟨M, 12, none⟩ = some (.int .u8 3) := cell_box (m := km) hM3 12
  have HTH := Lib.hid hth
  have HV2 := Lib.hid hV2
  have HMS := Lib.hid hMs
  have HU2 := Lib.hid hU2
  have HU3 := Lib.hid hU3
  have HB4 := Lib.hid B4
  have HST := Lib.hid hstr
  have HTB := Lib.hid (Tab.on HT.out B4)
  clear hb2 X2 B2 Y2 hMs hV2 hVn hU2 hkk hUb hUM hth hGlt hGM hG2 Y3 B3 hU3 hG3 hM3 K3 Y4 B4 hstr
  dsimp only
  refine ‹∀ (a : Act) (w : World), wpList Tryz.prog _ _ _ a w → _› _ _ ?_
  refine wpl_val (v := .tuple #[.agg A0, .int .i64 0]) (w1 := w2) rfl rfl _ rfl ?_
  refine wpl_val (v := .agg A0) (w1 := w2) rfl (by go_simp) _ rfl ?_
  refine wpl_val (v := .int .i64 0) (w1 := w2) rfl (by go_simp) _ rfl ?_
  refine wpl_val (v := .pointer (some ⟨M, 0, none⟩)) (w1 := V2) rfl (by have e1 := HV2.out; simp only [Vz] at e1; rw [HMS.out, e1]; go_simp) _ rfl ?_
  refine wpList_store_mid rfl 37 (.tmp 4) (.tmp 15) rfl M 0 km.cells.toArray rfl (by rw [HA0.out]; rfl) HTH.out size37 (all_oneCell_toArray km.one) ?_
  dsimp only
  rw [← HU2.out]
  clear HTH HV2 HMS HU2
  go_upto_region 5 with fail
  rw [← HU3.out]
  clear HU3 c4 f4
  have hstr := HST.out
  refine wp_region_lit ?_
  refine wv (.int .i64 0) (U3) (rfl) ?_
  refine wv (.bool true) (U3) (by go_simp) ?_
  refine wv (.bool true) (U3) (rfl) ?_
  refine wg (.int .i64 0) U3 rfl (rfl) ?_
  refine wg (.bool true) U3 rfl (by go_simp) ?_
  refine wv (.bool true) (U3) (rfl) ?_
  refine wv (.bool true) (U3) (rfl) ?_
  refine wg (.slice ao 5 c) U3 rfl (rfl) ?_
  refine wg (.string ⟨#[8, 1, 2, 3, 3]⟩) U3 rfl (by go_simp) ?_
  refine wg (.bool true) U3 rfl (by go_simp) ?_
  refine wv (.bool true) (U3) (rfl) ?_
  refine wv (.bool true) (U3) (rfl) ?_
  refine wg (.pointer (some ⟨M, 12, none⟩)) U3 rfl (by go_simp) ?_
  refine wg (.int .u8 3) U3 rfl (by go_simp) ?_
  refine wg (.bool true) U3 rfl (by go_simp) ?_
  refine wv (.bool true) (U3) (rfl) ?_
  refine wv (.bool true) (U3) (rfl) ?_
  refine wg (.agg km1.cells.toArray) U3 rfl (exec_load 37 (.tmp 1) rfl rfl HZ.out) ?_
  have C1 := is_km1 U3
  generalize km1.cells.toArray = A1 at C1 ⊢
  clear hstr cM
  go_wp2_with fail
  refine Calls.mono C1 ?_
  rintro e3 w3 ⟨rfl, hb3⟩
  have HB3 := Lib.hid hb3
  clear hb3 C1
  go_wp2_with fail
  refine Calls.mono (put_any w3) ?_
  rintro e4 w4 ⟨rfl, hb4⟩
  have hB : Below U3.heap.size U3 w4 := HB3.out.trans (hb4.mono HB3.out.size)
  have CT := text_any (Rq.mk 1 2 1 3 4) (by unfold Rq.ok; decide) w4 (Tab.on HTB.out hB)
  rw [kr_text] at CT
  have HB5 := Lib.hid hB
  have HCT := Lib.hid CT
  simp only [Rq.cells] at HCT ⊢
  clear hb4 hB CT
  go_wp2_with fail
  refine Calls.mono HCT.out ?_
  rintro e5 w5 ⟨rfl, hb5⟩
  have HB6 := Lib.hid (HB4.out.trans ((HB5.out.trans (hb5.mono HB5.out.size)).mono HB4.out.size))
  clear hb5
  go_wp2_with fail
  go_ret
  refine ⟨?_, HB6.out⟩
  first | rfl | trace_state

/-- at block R lies a reader that has the bytes l left; they lie in an elder block -/
def Rb (w : World) (R : Nat) (l : List Int) : Prop :=
  ∃ ao cap, w.heap[R]? = some (.cells #[.slice ao l.length cap] 120 (0, 0)) ∧ Bytes w ao l ∧ l.length ≤ cap ∧ (ao = none → cap = 0) ∧ (∀ ad, ao = some ad → 0 < l.length → ad.block < R) ∧ ∀ x ∈ l, isByte x
theorem Rb.toRd {w : World} {R : Nat} {l : List Int} (h : Rb w R l) : Rd w R l := by
  obtain ⟨ao, cap, h1, h2, h3, h4, h5, h6⟩ := h
  exact ⟨ao, cap, h1, h2, h3, h4, fun ad e hp => Nat.ne_of_lt (h5 ad e hp), h6⟩
theorem Rd.up {w : World} {R : Nat} {l : List Int} {ao : Option Addr} {n cap : Nat} (h : Rd w R l) (hb : w.heap[R]? = some (.cells #[.slice ao n cap] 120 (0, 0))) (hlt : ∀ ad, ao = some ad → 0 < l.length → ad.block < R) : Rb w R l := by
  obtain ⟨ao', cap', h1, h2, h3, h4, h5, h6⟩ := h
  have e := h1
  rw [hb] at e
  simp at e
  obtain ⟨rfl, _, _⟩ := e
  exact ⟨ao, cap', h1, h2, h3, h4, hlt, h6⟩
theorem Rb.lt {w : World} {R : Nat} {l : List Int} (h : Rb w R l) : R < w.heap.size := h.toRd.lt
theorem Rb.byte {w : World} {R : Nat} {l : List Int} (h : Rb w R l) (i : Nat) (hi : i < l.length) : isByte (l.getD i 0) := h.toRd.byte i hi
theorem Rb.kept {S : Nat → Prop} {w w' : World} {R : Nat} {l : List Int} (h : Rb w R l) (hk : Kept S w w') (hS : ∀ k, k ≤ R → ¬ S k) : Rb w' R l := by
  obtain ⟨ao, cap, hb, hB, hcap, hnone, hne, hby⟩ := h
  refine ⟨ao, cap, ?_, bytes_kept hB hk (fun ad e hpos => hS _ (Nat.le_of_lt (hne ad e hpos))), hcap, hnone, hne, hby⟩
  rw [hk.block R (lt_of_block hb) (hS R (Nat.le_refl _))]; exact hb
theorem Rb.below {w w' : World} {R : Nat} {l : List Int} (h : Rb w R l) (hk : Below w.heap.size w w') : Rb w' R l := h.kept (Kept.ofBelow (S := fun _ => False) hk) (fun _ _ h => h)
theorem Rb.drewN {w : World} {R : Nat} {l : List Int} (h : Rb w R l) (n : Nat) : Rb (w.drewN n) R l := h.kept ((Kept.refl (fun _ => False) w).drewN n) (fun _ _ h => h)

theorem take_b (w : World) (R : Nat) (l : List Int) (n : Nat) (h : Rb w R l) (hn : n ≤ l.length) (hl : l.length ≤ 1000000) :
    Calls Tryz.prog 104 #[.pointer (some ⟨R, 0, none⟩), .int .i64 n] w fun e w' => ∃ ao c, e = .returned (.slice ao n c) ∧ n ≤ c ∧ Bytes w' ao (l.take n) ∧ (ao = none → c = 0) ∧ Rb w' R (l.drop n) ∧ Kept (fun k => k = R) w w' := by
  obtain ⟨ao, cap, hb, hB, hcap, hnone, hne, hby⟩ := h
  cases ao with
  | none =>
    obtain rfl := hnone rfl
    obtain rfl : l = [] := List.eq_nil_of_length_eq_zero (by omega)
    obtain rfl : n = 0 := by simpa using hn
    refine (take_none w R hb).mono ?_
    rintro e w' ⟨rfl, rfl⟩
    exact ⟨none, 0, rfl, Nat.le_refl _, fun i h => by simp at h, fun _ => rfl, ⟨none, 0, one_setCell hb, fun i h => by simp at h, Nat.le_refl _, fun _ => rfl, fun _ _ h => by simp at h, fun x hx => by simp at hx⟩, (Kept.refl _ w).setCell _ _ (fun _ => rfl)⟩
  | some ad =>
    refine (take_raw w R ad l.length cap n hb hn hcap hl).mono ?_
    rintro e w' ⟨rfl, rfl⟩
    refine ⟨some ad, cap, rfl, by omega, ?_, fun h => by (cases h), (rd_drop hb hB hcap (fun hp => Nat.ne_of_lt (hne ad rfl hp)) hby hn).up (one_setCell hb) ?_, (Kept.refl _ w).setCell _ _ (fun _ => rfl)⟩
    · intro i hi
      simp only [List.length_take] at hi
      obtain ⟨ad', e, h⟩ := hB i (by omega)
      injection e with e; subst e
      refine ⟨_, rfl, ?_⟩
      rw [World.cell?_of_block (w := w) (Below.heap_setCell _ _ _ _ (by rw [add_block]; exact Nat.ne_of_lt (hne ad rfl (by omega)))), h]
      simp [List.getD_eq_getElem?_getD, show i < n from by omega]
    · intro a e hpos
      rw [List.length_drop] at hpos
      injection e with e
      have hlt := hne ad rfl (by omega)
      rw [← e]
      split
      · exact hlt
      · rw [add_block]; exact hlt

set_option maxHeartbeats 1600000 in
theorem r8_b (w : World) (R : Nat) (l : List Int) (h : Rb w R l) (h1 : 1 ≤ l.length) (hl : l.length ≤ 1000000) :
    Calls Tryz.prog 83 #[.pointer (some ⟨R, 0, none⟩)] w fun e w' => e = .returned (.tuple #[.int .u8 (l.getD 0 0), .int .i64 0]) ∧ Rb w' R (l.drop 1) ∧ Kept (fun k => k = R) w w' := by
  have T := Lib.hid (take_b w R l 1 h h1 hl)
  obtain ⟨x0, hx0⟩ : ∃ x, x = l.getD 0 0 := ⟨_, rfl⟩
  have y0 : isByte x0 := by rw [hx0]; exact h.byte 0 (by omega)
  have HX0 := Lib.hid hx0
  clear hx0
  obtain ⟨ao, cap, hb, _⟩ := h
  have hc := cell_of_one hb
  clear hb
  generalize hm : l.length = m at *
  have HM := Lib.hid hm
  clear hm
  go_enter Tryz.func83, Tryz.ntmps83
  go_wp2_with fail
  refine T.out.mono ?_
  rintro e w' ⟨ao', c', rfl, hc1, hB, hnn, hR, hK⟩
  obtain ⟨g, off, rfl, hcell⟩ := bytes_at hB (by rw [List.length_take, HM.out]; omega)
  have c0 := hcell 0 (by rw [List.length_take, HM.out]; omega)
  rw [getD_take l 1 0 (by omega), ← HX0.out, Nat.add_zero] at c0
  have HR := Lib.hid hR
  have HK := Lib.hid hK
  clear hB hnn hR hK hcell
  go_wp2_with fail
  exact bodyPost_ret (v := .tuple #[.int .u8 x0, .int .i64 0]) (by simp [results, Tryz.results83, go_sem]) rfl ⟨by rw [HX0.out], HR.out, HK.out⟩
end Go.Proofs.YtbpfkeeikhhlnaaGreatDoor
