/- PageClients: for every four ts and four results the law's function answers true and leaves its arguments as they were; no condition. -/
import Derived.Test.YthbfbdblnohbjaaRows
import Derived.Test.YthbfbdblnohbjaaPair
import Derived.Test.YthbfbdblnohbjaaArr
import Derived.WalkKit
import Derived.ProofKit
import Derived.OpenShut
import Derived.ShutString
import Derived.ChangeOld
import Derived.Below
import Derived.Test.YthbfbdblnohbjaaHeld
namespace Go.Proofs.Ythbfbdblnohbjaa.pageClients
open Go.ChangeShapes Go.WideShapes Go.ChangeAt Go.RowKit
set_option maxRecDepth 100000

theorem own : ownKnob Try.prog.godebug = none := by kernel_rfl
theorem laidOut : laidOutB Try.prog = true := by kernel_rfl

/-- what is set so far: the first i clients' ts, results -/
def upS (T R : Nat → Int) (i : Nat) : (Nat → Int) × (Nat → Int) := (fun j => if j < i then T j else 0, fun j => if j < i then (if T j = 0 then 0 else R j) else 0)
theorem upS_next (T R : Nat → Int) (i : Nat) (hi : i < 4) : putC (upS T R i) (i + 1) (T i) (R i) = upS T R (i + 1) := by
  unfold putC upS
  rw [if_pos (by omega), show ((i : Int) + 1).toNat - 1 = i by omega]
  refine Prod.ext (funext fun j => ?_) (funext fun j => ?_)
  · show upd _ i (T i) j = _
    unfold upd
    by_cases h : j = i
    · subst h; simp
    · simp only [h, if_false]
      by_cases h2 : j < i
      · have h3 : j < i + 1 := by omega
        simp only [h2, h3, if_true]
      · have h3 : ¬ j < i + 1 := by omega
        simp only [h2, h3, if_false]
  · show upd _ i (if T i = 0 then 0 else R i) j = _
    unfold upd
    by_cases h : j = i
    · subst h; simp
    · simp only [h, if_false]
      by_cases h2 : j < i
      · have h3 : j < i + 1 := by omega
        simp only [h2, h3, if_true]
      · have h3 : ¬ j < i + 1 := by omega
        simp only [h2, h3, if_false]
theorem good_up (T R : Nat → Int) (hT : ∀ i, i < 4 → 0 ≤ T i ∧ T i ≤ 4294967295) (hR : ∀ i, i < 4 → 0 ≤ R i ∧ R i ≤ 4294967295) (n : Nat) (hn : n ≤ 4) : Good nul (upS T R n) := by
  refine ⟨fun _ => by simp [nul], fun i => ?_, fun i => ?_, fun i => ?_⟩
  · show 0 ≤ (if i < n then T i else 0) ∧ (if i < n then T i else 0) ≤ 4294967295
    split
    · exact hT i (by omega)
    · decide
  · show 0 ≤ (if i < n then (if T i = 0 then 0 else R i) else 0) ∧ (if i < n then (if T i = 0 then 0 else R i) else 0) ≤ 4294967295
    split
    · split
      · decide
      · exact hR i (by omega)
    · decide
  · show (if i < n then T i else 0) = 0 → (if i < n then (if T i = 0 then 0 else R i) else 0) = 0
    split
    · intro e; rw [if_pos e]
    · intro _; rfl
/-- how many bytes the first i clients' entries have -/
def cnt (T : Nat → Int) : Nat → Nat
  | 0 => 0
  | i + 1 => cnt T i + (if T i = 0 then 0 else 9)
theorem cnt_succ (T : Nat → Int) (i : Nat) : cnt T (i + 1) = cnt T i + (if T i = 0 then 0 else 9) := rfl
theorem cnt_le (T : Nat → Int) : ∀ i, cnt T i ≤ 9 * i
  | 0 => Nat.le_refl _
  | i + 1 => by
    have := cnt_le T i
    unfold cnt
    split <;> omega
theorem cg_cnt (T R : Nat → Int) : ∀ n k, 4 - k ≤ n → k ≤ 4 → (cg T R k).length + cnt T k = cnt T 4 := by
  intro n
  induction n with
  | zero => intro k h hk; obtain rfl : k = 4 := by omega
            rw [cg_end (by omega)]; simp
  | succ n ih =>
    intro k h hk
    by_cases h4 : k < 4
    · have e := ih (k + 1) (by omega) (by omega)
      rw [cnt_succ] at e
      by_cases h0 : T k = 0
      · rw [← cg_no h4 h0]
        rw [if_pos h0] at e
        omega
      · rw [← cg_yes h4 rfl rfl h0]
        rw [if_neg h0] at e
        simp only [List.length_append, List.length_cons, List.length_nil]
        omega
    · obtain rfl : k = 4 := by omega
      rw [cg_end (by omega)]; simp
theorem cnt_ext {T T' : Nat → Int} : ∀ n, (∀ i, i < n → T i = T' i) → cnt T n = cnt T' n
  | 0, _ => rfl
  | n + 1, h => by
    unfold cnt
    rw [cnt_ext n (fun i hi => h i (by omega)), h n (by omega)]
theorem len_up (T R : Nat → Int) : (cg (upS T R 4).1 (upS T R 4).2 0).length = cnt T 4 := by
  have h := cg_cnt (upS T R 4).1 (upS T R 4).2 4 0 (by omega) (by omega)
  have e : cnt (upS T R 4).1 4 = cnt T 4 := cnt_ext 4 fun i hi => if_pos hi
  rw [e] at h
  have z : cnt (upS T R 4).1 0 = 0 := rfl
  omega

/-- block E holds four numbers -/
def Ar (w : World) (E : Nat) (T : Nat → Int) : Prop := w.heap[E]? = some (.cells #[.int .u32 (T 0), .int .u32 (T 1), .int .u32 (T 2), .int .u32 (T 3)] 39 (0, 0))
theorem Ar.cell {w : World} {E : Nat} {T : Nat → Int} (h : Ar w E T) (i : Nat) (hi : i < 4) : w.cell? ⟨E, i, none⟩ = some (.int .u32 (T i)) := by
  rw [cell_of_row w E i _ 39 (0, 0) h]
  rcases (by omega : i = 0 ∨ i = 1 ∨ i = 2 ∨ i = 3) with rfl | rfl | rfl | rfl <;> rfl
theorem Ar.kept {S : Nat → Prop} {w w' : World} {E : Nat} {T : Nat → Int} (h : Ar w E T) (hk : Kept S w w') (hE : ¬ S E) : Ar w' E T := by
  unfold Ar
  rw [hk.block E (lt_of_block h) hE]
  exact h
/-- the arguments' copies, the map -/
def CI (w wr : World) (E F B : Nat) (T R : Nat → Int) (i : Nat) : Prop :=
  Ar wr E T ∧ Ar wr F R ∧ Mp wr B nul (upS T R i).1 (upS T R i).2 ∧ Below w.heap.size w wr ∧ w.heap.size ≤ B ∧ E ≠ B ∧ F ≠ B
theorem CI.drew {w wr : World} {E F B : Nat} {T R : Nat → Int} {i : Nat} (h : CI w wr E F B T R i) : CI w wr.drew E F B T R i := ⟨h.1, h.2.1, h.2.2.1, h.2.2.2.1.drew, h.2.2.2.2⟩
theorem CI.next {w wr w' : World} {E F B : Nat} {T R : Nat → Int} {i j : Nat} (h : CI w wr E F B T R i) (hk : Kept (fun i => i = B) wr w') (hm : Mp w' B nul (upS T R j).1 (upS T R j).2) : CI w w' E F B T R j :=
  ⟨h.1.kept hk h.2.2.2.2.2.1, h.2.1.kept hk h.2.2.2.2.2.2, hm, h.2.2.2.1.trans (hk.below h.2.2.2.1.size (fun k e => by have := h.2.2.2.2.1; omega)), h.2.2.2.2⟩

set_option maxHeartbeats 16000000 in
theorem walk (T R : Nat → Int) (w : World) (hT : ∀ i, i < 4 → 0 ≤ T i ∧ T i ≤ 4294967295) (hR : ∀ i, i < 4 → 0 ≤ R i ∧ R i ≤ 4294967295) :
    Calls Try.prog 5 #[.agg #[.int .u32 (T 0), .int .u32 (T 1), .int .u32 (T 2), .int .u32 (T 3)], .agg #[.int .u32 (R 0), .int .u32 (R 1), .int .u32 (R 2), .int .u32 (R 3)]] w fun e w' => e = .returned (.bool true) ∧ Below w.heap.size w w' := by
  have HTR := Lib.hid (And.intro hT hR)
  obtain ⟨w0, hw0⟩ : ∃ w0, w0 = (w.alloc (.cells #[.int .u32 (T 0), .int .u32 (T 1), .int .u32 (T 2), .int .u32 (T 3)] 39)).alloc (.cells #[.int .u32 (R 0), .int .u32 (R 1), .int .u32 (R 2), .int .u32 (R 3)] 39) := ⟨_, rfl⟩
  have a1 : Ar w0 w.heap.size T := hw0 ▸ heap_alloc2_old w _ _
  have a2 : Ar w0 (w.heap.size + 1) R := hw0 ▸ heap_alloc2_new w _ _
  have b0 : Below w.heap.size w w0 := hw0 ▸ ((Below.refl _ _).alloc (Nat.le_refl _) _).alloc (by simp) _
  have s0 : w0.heap.size = w.heap.size + 2 := by rw [hw0]; simp
  have KN := Lib.hid (known_any w0)
  have H0 := Lib.hid (And.intro a1 (And.intro a2 (And.intro b0 s0)))
  generalize ha : (#[.int .u32 (T 0), .int .u32 (T 1), .int .u32 (T 2), .int .u32 (T 3)] : Array Value) = at_ at hw0 ⊢
  generalize hb : (#[.int .u32 (R 0), .int .u32 (R 1), .int .u32 (R 2), .int .u32 (R 3)] : Array Value) = ar_ at hw0 ⊢
  have HW0 := Lib.hid hw0
  clear hT hR a1 a2 b0 s0 ha hb hw0
  go_enter Try.func5, Try.ntmps5
  go_wp2_with fail
  rw [← HW0.out]
  refine KN.out.mono ?_
  rintro e w1 ⟨rfl, b1⟩
  have k1 : Kept (fun _ => False) w0 w1 := Kept.ofBelow b1
  have NW := Lib.hid (map_new w1)
  have F0 := mp_new w1
  have k2 : Kept (fun _ => False) w0 (w1.alloc (.cells (mapL nul nul nul).toArray 48)) := k1.alloc _
  obtain ⟨w2, hw2⟩ : ∃ w2, w2 = w1.alloc (.cells (mapL nul nul nul).toArray 48) := ⟨_, rfl⟩
  rw [← hw2] at F0 k2 NW
  have C0 : CI w w2 w.heap.size (w.heap.size + 1) w1.heap.size T R 0 := by
    have s0 := H0.out.2.2.2
    have s1 := b1.size
    exact ⟨H0.out.1.kept k2 (fun h => h), H0.out.2.1.kept k2 (fun h => h), F0, H0.out.2.2.1.trans (k2.below (by omega) (fun k e => e.elim)), by omega, by omega, by omega⟩
  have C0 := Lib.hid C0
  clear b1 k1 k2 F0 hw2
  go_wp2_with fail
  refine NW.out.mono ?_
  rintro e w3 ⟨rfl, rfl⟩
  clear NW KN
  go_wp2_with fail
  generalize w.heap.size + 1 = F at *
  generalize hE : w.heap.size = E at *
  generalize w1.heap.size = B at *
  have HE := Lib.hid hE
  clear hE
  go_loopw [6, 7] (fun v6 v7 wr => ∃ (i : Nat), v6 = .int .i64 (cnt T i : Nat) ∧ v7 = .int .u8 i ∧ i ≤ 4 ∧ Hid (CI w wr E F B T R i)) (fun _ v7 _ => 4 - (intOf v7).toNat)
  case atStart => exact ⟨0, rfl, rfl, by omega, C0⟩
  case round =>
    obtain ⟨i, rfl, rfl, hi, I⟩ := hrel
    by_cases hi4 : i < 4
    · have hi4' : (i : Int) < 4 := by omega
      have c1 := I.out.1.cell i hi4
      have c2 := I.out.2.1.cell i hi4
      generalize ht : T i = t at c1
      generalize hr : R i = r at c2
      have BD := Lib.hid (And.intro c1 c2)
      have P := setClient_any wr.drew B (i + 1) t r nul (upS T R i) I.out.2.2.1
      rw [show ((i + 1 : Nat) : Int) = (i : Int) + 1 by omega, ← ht, ← hr, upS_next T R i hi4, ht, hr] at P
      have P := Lib.hid P
      have HT := Lib.hid ht
      have HR := Lib.hid hr
      have hcn := cnt_le T i
      have hw8 : IntKind.u8.wrap ((i : Int) + 1) = i + 1 := by
        have : IntKind.u8.wrap ((i : Int) + 1) = ((i : Int) + 1) % 256 := rfl
        omega
      clear ht hr c1 c2
      go_wp2_with fail
      refine wp_region_held_drew (S := fun wx => wx.cell? ⟨E, i, none⟩ = some (.int .u32 t) ∧ wx.cell? ⟨F, i, none⟩ = some (.int .u32 r)) (by kernel_rfl) (BD.out) (fun hS => ?_)
      refine takeA (i := 0) (v := .pointer (some ⟨B, 0, none⟩)) ({ tmps := #[.agg at_, .agg ar_, .pointer (some ⟨E, 0, none⟩), .pointer (some ⟨F, 0, none⟩), .bool false, .pointer (some ⟨B, 0, none⟩), .int .i64 ((cnt T i : Nat) : Int), .int .u8 ↑i, undef, undef, undef, undef, .bool true, .bool false, .pointer (some ⟨B, 0, none⟩), .int .u8 ↑i, .bool true, u17, u18, .pointer (some ⟨B, 0, none⟩), u20, u21, u22, u23, u24, u25, u26, u27, u28, u29, u30, u31, u32, u33, u34, undef, undef, undef, undef, undef, undef, undef, undef, undef, undef, undef, undef, undef, undef, undef, undef, undef, undef, undef, undef, undef, undef, undef, undef, undef, undef, undef, undef, undef, undef, undef, undef, undef, undef, undef, undef, undef, undef, undef, undef, undef, undef, undef, undef, undef, undef, undef, undef, undef, undef, undef, undef, undef, undef, undef, undef, undef, undef, undef, undef, undef], defers := [] }) rfl (by kernel_rfl) (by kernel_rfl) (by kernel_rfl) (fun _ _ _ h => h) (.inl ⟨rfl, fun _ _ => rfl⟩) hS rfl ?_
      refine takeA (i := 1) (v := .int .u8 ↑i) ({ tmps := #[.agg at_, .agg ar_, .pointer (some ⟨E, 0, none⟩), .pointer (some ⟨F, 0, none⟩), .bool false, .pointer (some ⟨B, 0, none⟩), .int .i64 ((cnt T i : Nat) : Int), .int .u8 ↑i, undef, undef, undef, undef, .bool true, .bool false, .pointer (some ⟨B, 0, none⟩), .int .u8 ↑i, .bool true, u17, u18, .pointer (some ⟨B, 0, none⟩), .int .u8 ↑i, u21, u22, u23, u24, u25, u26, u27, u28, u29, u30, u31, u32, u33, u34, undef, undef, undef, undef, undef, undef, undef, undef, undef, undef, undef, undef, undef, undef, undef, undef, undef, undef, undef, undef, undef, undef, undef, undef, undef, undef, undef, undef, undef, undef, undef, undef, undef, undef, undef, undef, undef, undef, undef, undef, undef, undef, undef, undef, undef, undef, undef, undef, undef, undef, undef, undef, undef, undef, undef, undef, undef, undef, undef, undef, undef], defers := [] }) rfl (by kernel_rfl) (by kernel_rfl) (by kernel_rfl) (fun _ _ _ h => h) (.inl ⟨rfl, fun _ _ => rfl⟩) hS rfl ?_
      refine takeA (i := 2) (v := .int .u8 (↑i + 1)) ({ tmps := #[.agg at_, .agg ar_, .pointer (some ⟨E, 0, none⟩), .pointer (some ⟨F, 0, none⟩), .bool false, .pointer (some ⟨B, 0, none⟩), .int .i64 ((cnt T i : Nat) : Int), .int .u8 ↑i, undef, undef, undef, undef, .bool true, .bool false, .pointer (some ⟨B, 0, none⟩), .int .u8 ↑i, .bool true, u17, u18, .pointer (some ⟨B, 0, none⟩), .int .u8 ↑i, .int .u8 (↑i + 1), u22, u23, u24, u25, u26, u27, u28, u29, u30, u31, u32, u33, u34, undef, undef, undef, undef, undef, undef, undef, undef, undef, undef, undef, undef, undef, undef, undef, undef, undef, undef, undef, undef, undef, undef, undef, undef, undef, undef, undef, undef, undef, undef, undef, undef, undef, undef, undef, undef, undef, undef, undef, undef, undef, undef, undef, undef, undef, undef, undef, undef, undef, undef, undef, undef, undef, undef, undef, undef, undef, undef, undef, undef, undef], defers := [] }) rfl (by kernel_rfl) (by kernel_rfl) (by kernel_rfl) (fun _ _ _ h => h) (.inl ⟨rfl, fun _ _ => by go_simp⟩) hS rfl ?_
      refine takeA (i := 3) (v := .int .u8 ↑i) ({ tmps := #[.agg at_, .agg ar_, .pointer (some ⟨E, 0, none⟩), .pointer (some ⟨F, 0, none⟩), .bool false, .pointer (some ⟨B, 0, none⟩), .int .i64 ((cnt T i : Nat) : Int), .int .u8 ↑i, undef, undef, undef, undef, .bool true, .bool false, .pointer (some ⟨B, 0, none⟩), .int .u8 ↑i, .bool true, u17, u18, .pointer (some ⟨B, 0, none⟩), .int .u8 ↑i, .int .u8 (↑i + 1), .int .u8 ↑i, u23, u24, u25, u26, u27, u28, u29, u30, u31, u32, u33, u34, undef, undef, undef, undef, undef, undef, undef, undef, undef, undef, undef, undef, undef, undef, undef, undef, undef, undef, undef, undef, undef, undef, undef, undef, undef, undef, undef, undef, undef, undef, undef, undef, undef, undef, undef, undef, undef, undef, undef, undef, undef, undef, undef, undef, undef, undef, undef, undef, undef, undef, undef, undef, undef, undef, undef, undef, undef, undef, undef, undef, undef], defers := [] }) rfl (by kernel_rfl) (by kernel_rfl) (by kernel_rfl) (fun _ _ _ h => h) (.inl ⟨rfl, fun _ _ => rfl⟩) hS rfl ?_
      refine takeA (i := 4) (v := .pointer (some ⟨E, i, none⟩)) ({ tmps := #[.agg at_, .agg ar_, .pointer (some ⟨E, 0, none⟩), .pointer (some ⟨F, 0, none⟩), .bool false, .pointer (some ⟨B, 0, none⟩), .int .i64 ((cnt T i : Nat) : Int), .int .u8 ↑i, undef, undef, undef, undef, .bool true, .bool false, .pointer (some ⟨B, 0, none⟩), .int .u8 ↑i, .bool true, u17, u18, .pointer (some ⟨B, 0, none⟩), .int .u8 ↑i, .int .u8 (↑i + 1), .int .u8 ↑i, .pointer (some ⟨E, i, none⟩), u24, u25, u26, u27, u28, u29, u30, u31, u32, u33, u34, undef, undef, undef, undef, undef, undef, undef, undef, undef, undef, undef, undef, undef, undef, undef, undef, undef, undef, undef, undef, undef, undef, undef, undef, undef, undef, undef, undef, undef, undef, undef, undef, undef, undef, undef, undef, undef, undef, undef, undef, undef, undef, undef, undef, undef, undef, undef, undef, undef, undef, undef, undef, undef, undef, undef, undef, undef, undef, undef, undef, undef], defers := [] }) rfl (by kernel_rfl) (by kernel_rfl) (by kernel_rfl) (fun _ _ _ h => h) (.inl ⟨rfl, fun _ _ => by go_simp⟩) hS rfl ?_
      refine takeA (i := 5) (v := .int .u32 t) ({ tmps := #[.agg at_, .agg ar_, .pointer (some ⟨E, 0, none⟩), .pointer (some ⟨F, 0, none⟩), .bool false, .pointer (some ⟨B, 0, none⟩), .int .i64 ((cnt T i : Nat) : Int), .int .u8 ↑i, undef, undef, undef, undef, .bool true, .bool false, .pointer (some ⟨B, 0, none⟩), .int .u8 ↑i, .bool true, u17, u18, .pointer (some ⟨B, 0, none⟩), .int .u8 ↑i, .int .u8 (↑i + 1), .int .u8 ↑i, .pointer (some ⟨E, i, none⟩), .int .u32 t, u25, u26, u27, u28, u29, u30, u31, u32, u33, u34, undef, undef, undef, undef, undef, undef, undef, undef, undef, undef, undef, undef, undef, undef, undef, undef, undef, undef, undef, undef, undef, undef, undef, undef, undef, undef, undef, undef, undef, undef, undef, undef, undef, undef, undef, undef, undef, undef, undef, undef, undef, undef, undef, undef, undef, undef, undef, undef, undef, undef, undef, undef, undef, undef, undef, undef, undef, undef, undef, undef, undef], defers := [] }) rfl (by kernel_rfl) (by kernel_rfl) (by kernel_rfl) (fun _ _ _ h => h) (yi_load 30 _ (.pointer (some ⟨E, i, none⟩)) rfl rfl rfl (fun w hw => by have q := hw.1; go_simp)) hS rfl ?_
      refine takeA (i := 6) (v := .int .u8 ↑i) ({ tmps := #[.agg at_, .agg ar_, .pointer (some ⟨E, 0, none⟩), .pointer (some ⟨F, 0, none⟩), .bool false, .pointer (some ⟨B, 0, none⟩), .int .i64 ((cnt T i : Nat) : Int), .int .u8 ↑i, undef, undef, undef, undef, .bool true, .bool false, .pointer (some ⟨B, 0, none⟩), .int .u8 ↑i, .bool true, u17, u18, .pointer (some ⟨B, 0, none⟩), .int .u8 ↑i, .int .u8 (↑i + 1), .int .u8 ↑i, .pointer (some ⟨E, i, none⟩), .int .u32 t, .int .u8 ↑i, u26, u27, u28, u29, u30, u31, u32, u33, u34, undef, undef, undef, undef, undef, undef, undef, undef, undef, undef, undef, undef, undef, undef, undef, undef, undef, undef, undef, undef, undef, undef, undef, undef, undef, undef, undef, undef, undef, undef, undef, undef, undef, undef, undef, undef, undef, undef, undef, undef, undef, undef, undef, undef, undef, undef, undef, undef, undef, undef, undef, undef, undef, undef, undef, undef, undef, undef, undef, undef, undef], defers := [] }) rfl (by kernel_rfl) (by kernel_rfl) (by kernel_rfl) (fun _ _ _ h => h) (.inl ⟨rfl, fun _ _ => rfl⟩) hS rfl ?_
      refine takeA (i := 7) (v := .pointer (some ⟨F, i, none⟩)) ({ tmps := #[.agg at_, .agg ar_, .pointer (some ⟨E, 0, none⟩), .pointer (some ⟨F, 0, none⟩), .bool false, .pointer (some ⟨B, 0, none⟩), .int .i64 ((cnt T i : Nat) : Int), .int .u8 ↑i, undef, undef, undef, undef, .bool true, .bool false, .pointer (some ⟨B, 0, none⟩), .int .u8 ↑i, .bool true, u17, u18, .pointer (some ⟨B, 0, none⟩), .int .u8 ↑i, .int .u8 (↑i + 1), .int .u8 ↑i, .pointer (some ⟨E, i, none⟩), .int .u32 t, .int .u8 ↑i, .pointer (some ⟨F, i, none⟩), u27, u28, u29, u30, u31, u32, u33, u34, undef, undef, undef, undef, undef, undef, undef, undef, undef, undef, undef, undef, undef, undef, undef, undef, undef, undef, undef, undef, undef, undef, undef, undef, undef, undef, undef, undef, undef, undef, undef, undef, undef, undef, undef, undef, undef, undef, undef, undef, undef, undef, undef, undef, undef, undef, undef, undef, undef, undef, undef, undef, undef, undef, undef, undef, undef, undef, undef, undef, undef], defers := [] }) rfl (by kernel_rfl) (by kernel_rfl) (by kernel_rfl) (fun _ _ _ h => h) (.inl ⟨rfl, fun _ _ => by go_simp⟩) hS rfl ?_
      refine takeA (i := 8) (v := .int .u32 r) ({ tmps := #[.agg at_, .agg ar_, .pointer (some ⟨E, 0, none⟩), .pointer (some ⟨F, 0, none⟩), .bool false, .pointer (some ⟨B, 0, none⟩), .int .i64 ((cnt T i : Nat) : Int), .int .u8 ↑i, undef, undef, undef, undef, .bool true, .bool false, .pointer (some ⟨B, 0, none⟩), .int .u8 ↑i, .bool true, u17, u18, .pointer (some ⟨B, 0, none⟩), .int .u8 ↑i, .int .u8 (↑i + 1), .int .u8 ↑i, .pointer (some ⟨E, i, none⟩), .int .u32 t, .int .u8 ↑i, .pointer (some ⟨F, i, none⟩), .int .u32 r, u28, u29, u30, u31, u32, u33, u34, undef, undef, undef, undef, undef, undef, undef, undef, undef, undef, undef, undef, undef, undef, undef, undef, undef, undef, undef, undef, undef, undef, undef, undef, undef, undef, undef, undef, undef, undef, undef, undef, undef, undef, undef, undef, undef, undef, undef, undef, undef, undef, undef, undef, undef, undef, undef, undef, undef, undef, undef, undef, undef, undef, undef, undef, undef, undef, undef, undef, undef], defers := [] }) rfl (by kernel_rfl) (by kernel_rfl) (by kernel_rfl) (fun _ _ _ h => h) (yi_load 30 _ (.pointer (some ⟨F, i, none⟩)) rfl rfl rfl (fun w hw => by have q := hw.2; go_simp)) hS rfl ?_
      refine wpAnyH_ready (rs := [9]) (by kernel_rfl) (by simp) ?_
      refine AllReadyH.cons rfl (fun K hK => ?_) AllReadyH.nil
      rw [if_pos (by rfl)]
      go_simp
      refine Calls.mono (P.out) ?_
      rintro e w4 ⟨rfl, k4, m4⟩
      have I4 : CI w w4 E F B T R (i + 1) := I.out.drew.next k4 m4
      have hS4 : w4.cell? ⟨E, i, none⟩ = some (.int .u32 t) ∧ w4.cell? ⟨F, i, none⟩ = some (.int .u32 r) := ⟨by rw [I4.1.cell i hi4, HT.out], by rw [I4.2.1.cell i hi4, HR.out]⟩
      have I4 := Lib.hid I4
      clear k4 m4
      refine hK.out ({ tmps := #[.agg at_, .agg ar_, .pointer (some ⟨E, 0, none⟩), .pointer (some ⟨F, 0, none⟩), .bool false, .pointer (some ⟨B, 0, none⟩), .int .i64 ((cnt T i : Nat) : Int), .int .u8 ↑i, undef, undef, undef, undef, .bool true, .bool false, .pointer (some ⟨B, 0, none⟩), .int .u8 ↑i, .bool true, u17, u18, .pointer (some ⟨B, 0, none⟩), .int .u8 ↑i, .int .u8 (↑i + 1), .int .u8 ↑i, .pointer (some ⟨E, i, none⟩), .int .u32 t, .int .u8 ↑i, .pointer (some ⟨F, i, none⟩), .int .u32 r, .tuple #[], u29, u30, u31, u32, u33, u34, undef, undef, undef, undef, undef, undef, undef, undef, undef, undef, undef, undef, undef, undef, undef, undef, undef, undef, undef, undef, undef, undef, undef, undef, undef, undef, undef, undef, undef, undef, undef, undef, undef, undef, undef, undef, undef, undef, undef, undef, undef, undef, undef, undef, undef, undef, undef, undef, undef, undef, undef, undef, undef, undef, undef, undef, undef, undef, undef, undef, undef], defers := [] }) _ (hS4) (fun hS => ?_)
      clear hK K
      refine wpAnyH_done (by kernel_rfl) ?_ _
      have c1 := hS4.1
      have c2 := hS4.2
      clear hS P hS4
      have hcs : ((cnt T i : Nat) : Int) + (if t = 0 then 0 else 9) = (cnt T (i + 1) : Nat) := by
        rw [cnt_succ, HT.out]
        split <;> simp
      have hcn2 : ((cnt T i : Nat) : Int) ≤ 36 := by omega
      have hcn3 : (0 : Int) ≤ (cnt T i : Nat) := by omega
      generalize ((cnt T i : Nat) : Int) = cn at *
      by_cases h0 : t = 0
      · rw [if_pos h0, Int.add_zero] at hcs
        have HC := Lib.hid hcs
        subst h0
        clear hcs hcn
        go_wp2_with fail
        exact ⟨⟨i + 1, by rw [HC.out], by go_num, by omega, I4⟩, by simp [intOf]; omega⟩
      · rw [if_neg h0] at hcs
        have HC := Lib.hid hcs
        have h0' : (t != 0) = true := by simp [h0]
        clear hcs hcn
        go_wp2_with fail
        exact ⟨⟨i + 1, by rw [HC.out], by go_num, by omega, I4⟩, by simp [intOf]; omega⟩
    · have hi4' : ¬ (i : Int) < 4 := by omega
      obtain rfl : i = 4 := by omega
      have P0 := Lib.hid (setClient_none wr B 0 9 9 (by omega))
      have P5 := Lib.hid (setClient_none wr B 5 9 9 (by omega))
      obtain ⟨cn, hcn⟩ : ∃ cn, cn = cnt T 4 := ⟨_, rfl⟩
      have hcb := cnt_le T 4
      rw [← hcn] at hcb ⊢
      have HCN := Lib.hid hcn
      clear hcn
      go_wp2_with fail
      refine P0.out.mono ?_
      rintro e w5 ⟨rfl, e5⟩
      obtain rfl := e5.symm
      go_wp2_with fail
      refine P5.out.mono ?_
      rintro e w5 ⟨rfl, e6⟩
      obtain rfl := e6.symm
      clear P0 P5 e5 e6
      go_wp2_with fail
      go_loopw [8, 9, 10] (fun v8 _ _ wx => ∃ (k : Nat), v8 = .int .u8 k ∧ k ≤ 4 ∧ Hid (CI w wx E F B T R 4)) (fun v8 _ _ _ => 4 - (intOf v8).toNat)
      case atStart => exact ⟨0, rfl, by omega, I⟩
      case round =>
        clear I hi hi4 hi4'
        obtain ⟨k, rfl, hk, I⟩ := hrel
        by_cases hk4 : k < 4
        · have hk4' : (k : Int) < 4 := by omega
          have P := client_some wr B (k + 1) nul _ _ I.out.2.2.1 (by omega)
          rw [show ((k + 1 : Nat) : Int) = (k : Int) + 1 by omega, Nat.add_sub_cancel, show (upS T R 4).1 k = T k from if_pos hk4, show (upS T R 4).2 k = (if T k = 0 then 0 else R k) from if_pos hk4] at P
          obtain ⟨t, ht⟩ : ∃ t, t = T k := ⟨_, rfl⟩
          obtain ⟨r, hr⟩ : ∃ r, r = R k := ⟨_, rfl⟩
          rw [← ht, ← hr] at P
          have HT := Lib.hid (And.intro ht hr)
          clear ht hr
          have hgo : ∀ w5, Kept (fun _ => False) wr w5 → CI w w5 E F B T R 4 ∧ w5.cell? ⟨E, k, none⟩ = some (.int .u32 t) ∧ w5.cell? ⟨F, k, none⟩ = some (.int .u32 r) := fun w5 k5 => by
            have a := I.out.1.kept k5 (fun h => h)
            have b := I.out.2.1.kept k5 (fun h => h)
            exact ⟨⟨a, b, I.out.2.2.1.kept k5 (fun h => h), I.out.2.2.2.1.trans (k5.below (by have := I.out.2.2.2.1.size; have := HE.out; omega) (fun k e => e.elim)), I.out.2.2.2.2⟩, by rw [a.cell k hk4, HT.out.1], by rw [b.cell k hk4, HT.out.2]⟩
          have HGO := Lib.hid hgo
          clear hgo
          by_cases h0 : t = 0
          · rw [if_pos h0] at P
            subst h0
            have P := Lib.hid P
            go_wp2_with fail
            refine P.out.mono ?_
            rintro e w5 ⟨rfl, k5⟩
            obtain ⟨I5, c1, c2⟩ := HGO.out w5 k5
            have I5 := Lib.hid I5
            clear P k5 HGO
            go_wp2_with fail
            exact ⟨⟨k + 1, by go_num, by omega, I5⟩, by simp [intOf]; omega⟩
          · rw [if_neg h0] at P
            have h0' : (t != 0) = true := by simp [h0]
            have h0'' : (t == 0) = false := by simp [h0]
            have P := Lib.hid P
            go_wp2_with fail
            refine P.out.mono ?_
            rintro e w5 ⟨rfl, k5⟩
            obtain ⟨I5, c1, c2⟩ := HGO.out w5 k5
            have I5 := Lib.hid I5
            clear P k5 HGO
            go_wp2_with fail
            exact ⟨⟨k + 1, by go_num, by omega, I5⟩, by simp [intOf]; omega⟩
        · have hk4' : ¬ (k : Int) < 4 := by omega
          have NW := Lib.hid (map_new wr)
          have F0 := mp_new wr
          have bx : Below wr.heap.size wr (wr.alloc (.cells (mapL nul nul nul).toArray 48)) := (Below.refl _ _).alloc (Nat.le_refl _) _
          have hsz := I.out.2.2.2.1.size
          have hEw := HE.out
          obtain ⟨w5, hw5⟩ : ∃ w5, w5 = wr.alloc (.cells (mapL nul nul nul).toArray 48) := ⟨_, rfl⟩
          rw [← hw5] at F0 bx NW
          have hne : B ≠ wr.heap.size := by have := I.out.2.2.1.lt; omega
          have B5 : BI w w5 B wr.heap.size nul (upS T R 4) nul (nul, nul) :=
            ⟨I.out.2.2.1.below bx I.out.2.2.1.lt, F0, good_up T R HTR.out.1 HTR.out.2 4 (by omega), I.out.2.2.2.1.trans (bx.mono (by omega)), by have := I.out.2.2.2.2.1; omega, by omega, hne⟩
          generalize hX : wr.heap.size = X at *
          have HL := Lib.hid (len_up T R)
          have P1 := page_any w5 B 7 nul _ _ B5.1 (by omega)
          rw [show pageB nul (upS T R 4).1 (upS T R 4).2 7 = cg (upS T R 4).1 (upS T R 4).2 0 from if_pos rfl] at P1
          obtain ⟨len, hlen⟩ : ∃ len, len = (cg (upS T R 4).1 (upS T R 4).2 0).length := ⟨_, rfl⟩
          rw [← hlen] at P1
          have hlc : len = cn := by rw [hlen, HL.out, HCN.out]
          subst hlc
          have B5 := Lib.hid B5
          have P1 := Lib.hid P1
          have HLEN := Lib.hid hlen
          clear F0 bx hsz hEw hw5 hne hX hlen
          go_wp2_with fail
          refine NW.out.mono ?_
          rintro e w6 ⟨rfl, rfl⟩
          go_wp2_with fail
          refine P1.out.mono ?_
          rintro e w6 ⟨ap, cp, rfl, n6, b6⟩
          have B6 := B5.out.kept b6
          have P2 := page_any w6 B 7 nul _ _ B6.1 (by omega)
          rw [show pageB nul (upS T R 4).1 (upS T R 4).2 7 = cg (upS T R 4).1 (upS T R 4).2 0 from if_pos rfl, ← HLEN.out] at P2
          have P2 := Lib.hid P2
          have B6 := Lib.hid B6
          clear n6 b6 P1 NW
          go_wp2_with fail
          refine P2.out.mono ?_
          rintro e w7 ⟨aq, cq, rfl, n7, b7⟩
          have B7 := B6.out.kept b7
          have LD := load_last w7 X nul nul nul B7.2.1 aq cq (cg (upS T R 4).1 (upS T R 4).2 0) (own_bytes n7.1) n7.none (by have := cg_short (upS T R 4).1 (upS T R 4).2 0; omega) (cg_bytes _ _ _ 0 (Nat.le_refl _))
          rw [← HLEN.out] at LD
          have LD := Lib.hid LD
          have B7 := Lib.hid B7
          clear n7 b7 P2
          go_wp2_with fail
          refine LD.out.mono ?_
          intro e w8 hL
          obtain ⟨rfl, S3, h8, u8⟩ := load_back7 (S2 := (nul, nul)) B7.out ⟨fun _ _ _ => rfl, fun h => by omega⟩ hL
          have SM := same_any w8 X B _ _ _ _ _ _ h8.2.1 h8.1
          rw [same_turned u8] at SM
          have SM := Lib.hid SM
          have H8 := Lib.hid h8.2.2.2.1
          clear hL h8 u8 LD
          go_wp2_with fail
          refine SM.out.mono ?_
          rintro e w9 ⟨rfl, k9⟩
          have H9 := Lib.hid k9
          clear k9 SM
          go_wp2_with fail
          go_ret
          have hs8 := H8.out.size
          exact ⟨rfl, by have q := H8.out.trans (H9.out.below (B := w.heap.size) hs8 (fun k e => e.elim)); exact q⟩


theorem lifted (os : Os) (started : os.Started) (H : Type) (enc : TypeId × Value → H) :
    ReturnsInHanded {} Try.checked os 5 .any (Rows.pageClientsSpec.pre6 enc Try.prog Try.f5 Rows.pageClientsRow.domain false) (Rows.pageClientsSpec.post enc Try.prog Try.f5 false true false false) := by
  refine returnsInHanded_of_change (C := Try.checked) own started (by kernel_rfl) Try.func5
    (ChangeSpec.witness6 (enc := enc) (C := Try.checked) false ⟨#[], #[.agg #[.int .u32 0, .int .u32 0, .int .u32 0, .int .u32 0], .agg #[.int .u32 0, .int .u32 0, .int .u32 0, .int .u32 0]], []⟩ 8 (by kernel_rfl) (by kernel_rfl) (by kernel_rfl) (by kernel_rfl)) ?_
  intro W base args ds gs before hval0 hW hcnd _
  have hval : ∀ (j : Nat) t v, Try.f5.params[j]? = some t → args[j]? = some v → Value.okWide Try.prog W .any base t v := hval0
  have hW' := hW
  obtain ⟨p, q, hA0, hV, rfl, hfz, hnd⟩ := hW
  have hA : DataW.TrodAll enc Try.prog W 0 (fun _ => true) true Try.f5.params.toList args.toList ds p := hA0
  rw [Try.params5] at hA hval
  obtain ⟨v0, vs0, d0, ds0, p0, q0, hargs, rfl, rfl, h0, r0⟩ := trodAll_cons hA
  obtain ⟨v1, vs1, d1, ds1, p1, q1, rfl, rfl, rfl, h1, r1⟩ := trodAll_cons r0
  obtain ⟨rfl, rfl, rfl⟩ := trodAll_nil r1
  obtain rfl : args = #[v0, v1] := by cases args; simp_all
  obtain ⟨rfl, rfl⟩ := trodVars_none hV
  have k0 := h0
  have lt0 : ∀ x ∈ p0, x.block < W.heap.size := by obtain ⟨m, hm⟩ := k0; exact DataW.trod_lt m _ _ _ hm
  obtain ⟨T0, rfl, hT0⟩ := open_arr4 (hval 0 39 v0 rfl rfl) h0
  have k1 := h1
  have lt1 : ∀ x ∈ p1, x.block < W.heap.size := by obtain ⟨m, hm⟩ := k1; exact DataW.trod_lt m _ _ _ hm
  obtain ⟨T1, rfl, hT1⟩ := open_arr4 (hval 1 39 v1 rfl rfl) h1
  clear hA0 hval0
  refine (walk T0 T1 W hT0 hT1).mono fun e W' ⟨he, bel⟩ => ?_
  subst he
  exact ⟨_, rfl, _, _, _, [], _, [], hW', trodAll_mk1 (shut_bool Try.underlying4 _), (trodAll_cons_mk (Below.trod laidOut (by kernel_rfl) (of_decide_eq_true (by kernel_rfl)) k0 bel lt0) (trodAll_cons_mk (Below.trod laidOut (by kernel_rfl) (of_decide_eq_true (by kernel_rfl)) k1 bel lt1) trodAll_mk0)), rfl, bel.frame _, fun h => by cases h⟩

theorem over : Rows.pageClientsRow.holds Try.pinned (OpenSpec.ofChange Rows.pageClientsSpec) :=
  OpenClaim.holds_of_wide 5 Try.f5 rfl rfl rfl rfl rfl rfl rfl ⟨rfl, rfl, rfl, rfl, rfl⟩ rfl rfl rfl rfl rfl (by kernel_rfl) Try.func5 (by kernel_rfl)
    (of_decide_eq_true (by kernel_rfl)) (by unfold Func.isWrapper; first | (rw [if_pos (by decide +kernel)]; kernel_rfl) | (rw [if_neg (by decide +kernel)]; exact ⟨rfl, rfl⟩))
    (fun os started H enc _ => lifted os started H enc)

theorem proved : Rows.PageClientsSaid := over
#print axioms proved
end Go.Proofs.Ythbfbdblnohbjaa.pageClients
