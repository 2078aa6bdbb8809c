/- A new coprocessor; the known answers of layer 5. -/
import Derived.Test.YtmkfcfedadkkmaaCopro
namespace Go.Proofs.Ytmkfcfedadkkmaa
open Go.RowKit
set_option maxRecDepth 100000

theorem Kept.up {w w1 w2 : World} {B : Nat} (h : Kept (fun _ => False) w w1) (k : Kept (fun k => k = B) w1 w2) (hB : w.heap.size ≤ B) : Kept (fun _ => False) w w2 :=
  h.trans k (fun i hi e => by omega)

def newAt (id : Int) (j : Nat) : Cp := ⟨id, 1, 0, fun m => if m < j then 1 else 0, false⟩
theorem newAt_set (id : Int) (j : Nat) (hj : j = 0 ∨ j = 1 ∨ j = 2 ∨ j = 3) : (newAt id j).cells.setIfInBounds (3 + j) (.int .u8 1) = (newAt id (j + 1)).cells := by
  rcases hj with rfl | rfl | rfl | rfl <;> rfl
theorem newAt_end (id : Int) : (newAt id 4).cells = (Cp.new id).cells := rfl

set_option maxHeartbeats 1000000 in
theorem new_any (w : World) (id : Int) (B : Nat) (hB : w.heap.size = B) : Calls Try.prog 8 #[.int .u8 id] w fun e w' => e = .returned (.pointer (some ⟨B, 0, none⟩)) ∧ At 48 w' B (Cp.new id) ∧ Kept (fun _ => False) w w' := by
  subst hB
  go_enter Try.func8, Try.ntmps8
  go_wp2_with fail
  go_loopw [4, 8] (fun _ vi wr => ∃ j : Nat, j ≤ 4 ∧ vi = .int .i64 j ∧ At 48 wr w.heap.size (newAt id j) ∧ Kept (fun _ => False) w wr) (fun _ i _ => 4 - (intOf i).toNat)
  case atStart => exact ⟨0, by omega, rfl, heap_alloc_new _ _, (Kept.refl _ w).alloc _⟩
  case round =>
    obtain ⟨j, hj, rfl, ha, hk⟩ := hrel
    have HK := Lib.hid hk
    have HA := Lib.hid ha
    have f3 := ha.free 3
    have f4 := ha.free 4
    have f5 := ha.free 5
    have f6 := ha.free 6
    clear hk ha
    have hc : j = 0 ∨ j = 1 ∨ j = 2 ∨ j = 3 ∨ j = 4 := by omega
    clear hj
    rcases hc with rfl | rfl | rfl | rfl | rfl
    · have h0 := HA.out.cell 3
      simp only [newAt, Cp.cells] at h0
      go_wp2_with fail
      go_round
      case rel => exact ⟨1, by omega, rfl, HA.out.set 3 _ rfl, HK.out.setCell _ _ (fun h => absurd h (Nat.lt_irrefl _))⟩
      case measure => simp [intOf]
    · have h0 := HA.out.cell 4
      simp only [newAt, Cp.cells] at h0
      go_wp2_with fail
      go_round
      case rel => exact ⟨2, by omega, rfl, HA.out.set 4 _ rfl, HK.out.setCell _ _ (fun h => absurd h (Nat.lt_irrefl _))⟩
      case measure => simp [intOf]
    · have h0 := HA.out.cell 5
      simp only [newAt, Cp.cells] at h0
      go_wp2_with fail
      go_round
      case rel => exact ⟨3, by omega, rfl, HA.out.set 5 _ rfl, HK.out.setCell _ _ (fun h => absurd h (Nat.lt_irrefl _))⟩
      case measure => simp [intOf]
    · have h0 := HA.out.cell 6
      simp only [newAt, Cp.cells] at h0
      go_wp2_with fail
      go_round
      case rel => exact ⟨4, by omega, rfl, HA.out.set 6 _ rfl, HK.out.setCell _ _ (fun h => absurd h (Nat.lt_irrefl _))⟩
      case measure => simp [intOf]
    · go_wp2_with fail
      go_ret
      exact ⟨rfl, HA.out, HK.out⟩

def c0 : Cp := Cp.new 2
def c1 : Cp := c0.next
def c2 : Cp := c1.meet 1 5
theorem new_ok (id : Int) (h : 0 ≤ id ∧ id ≤ 255) : (Cp.new id).Ok := ⟨h, (by decide : (1 : Int) ≤ 1 ∧ (1 : Int) ≤ 200), (by decide : (0 : Int) ≤ 0 ∧ (0 : Int) ≤ 1048576), fun _ => (by decide : (1 : Int) ≤ 1 ∧ (1 : Int) ≤ 200), fun h => by cases h⟩
theorem next_ok {c : Cp} (h : c.Ok) : c.next.Ok := by
  obtain ⟨a1, a2, a3, a4, a5⟩ := h
  unfold Cp.next
  split
  · next e => exact ⟨a1, a2, a3, a4, fun _ => e⟩
  · next e => exact ⟨a1, ⟨by simp only []; omega, by simp only []; omega⟩, a3, a4, fun h => absurd (a5 h) e⟩
theorem raise_ok {c : Cp} (x : Int) (h : c.Ok) (hx : 0 ≤ x) : (c.raise x).Ok := by
  obtain ⟨a1, a2, a3, a4, a5⟩ := h
  unfold Cp.raise
  split
  · exact ⟨a1, a2, a3, a4, a5⟩
  · exact ⟨a1, a2, ⟨by simp only []; omega, by simp only []; omega⟩, a4, a5⟩
theorem meet_ok {c : Cp} (k x : Int) (h : c.Ok) : (c.meet k x).Ok := by
  obtain ⟨a1, a2, a3, a4, a5⟩ := h
  unfold Cp.meet
  split
  · next e =>
    refine ⟨a1, a2, a3, fun j => ?_, a5⟩
    unfold Cp.canMeet at e
    simp only [Bool.and_eq_true, Bool.not_eq_true', bne_iff_ne, ne_eq, decide_eq_true_eq] at e
    have := a4 k.toNat
    have := a4 j
    simp only []
    split <;> omega
  · exact ⟨a1, a2, a3, a4, a5⟩

set_option maxHeartbeats 1000000 in
theorem known_any (w : World) : Calls Try.prog 7 #[] w fun e w' => e = .returned (.bool true) ∧ Kept (fun _ => False) w w' := by
  obtain ⟨B, hB⟩ : ∃ B, w.heap.size = B := ⟨_, rfl⟩
  have HB := Lib.hid hB
  clear hB
  go_enter Try.func7, Try.ntmps7
  go_wp2_with fail
  refine Calls.mono (new_any w 2 B HB.out) ?_
  rintro e w1 ⟨rfl, h1, k1⟩
  have K1 := Lib.hid k1
  have o0 : c0.Ok := new_ok 2 (by decide)
  have O0 := Lib.hid o0
  clear k1 o0
  go_wp2_with fail
  refine Calls.mono (epoch_any w1 B c0 h1) ?_
  rintro e w' ⟨rfl, rfl⟩
  have e1 : c0.e = 1 := rfl
  rw [e1]
  clear e1
  go_wp2_with fail
  refine Calls.mono (next_any w1 B c0 h1 O0.out) ?_
  rintro e w2 ⟨rfl, h2, k2⟩
  have K2 := Lib.hid (K1.out.up k2 (by rw [HB.out]; exact Nat.le_refl _))
  have O1 := Lib.hid (next_ok O0.out)
  have e1 : (if c0.e = 200 then (50 : Int) else 0) = 0 := by decide
  rw [e1]
  clear e1 k2 K1 h1
  go_wp2_with fail
  refine Calls.mono (epoch_any w2 B c1 h2) ?_
  rintro e w' ⟨rfl, rfl⟩
  have e1 : c1.e = 2 := by decide
  rw [e1]
  clear e1
  go_wp2_with fail
  refine Calls.mono (meet_any w2 B c1 1 5 h2 O1.out (by decide) (by decide)) ?_
  rintro e w3 ⟨rfl, h3, k3⟩
  have K3 := Lib.hid (K2.out.up k3 (by rw [HB.out]; exact Nat.le_refl _))
  have O2 := Lib.hid (meet_ok 1 5 O1.out)
  have e1 : c1.canMeet 1 5 = true := by decide
  rw [e1]
  clear e1 k3 K2 h2
  go_wp2_with fail
  refine Calls.mono (meet_any w3 B c2 1 5 h3 O2.out (by decide) (by decide)) ?_
  rintro e w4 ⟨rfl, h4, k4⟩
  have K4 := Lib.hid (K3.out.up k4 (by rw [HB.out]; exact Nat.le_refl _))
  have e1 : c2.canMeet 1 5 = false := by decide
  have e2 : c2.meet 1 5 = c2 := by unfold Cp.meet; rw [e1]; rfl
  rw [e2] at h4
  rw [e1]
  clear e1 e2 k4 K3 h3
  go_wp2_with fail
  refine Calls.mono (peer_any w4 B c2 1 h4 (by decide)) ?_
  rintro e w' ⟨rfl, rfl⟩
  have e1 : c2.peer 1 = 5 := by decide
  rw [e1]
  clear e1
  go_wp2_with fail
  refine Calls.mono (peer_any w4 B c2 2 h4 (by decide)) ?_
  rintro e w' ⟨rfl, rfl⟩
  have e1 : c2.peer 2 = 2 := by decide
  rw [e1]
  clear e1
  go_wp2_with fail
  refine Calls.mono (meet_any w4 B c2 2 9 h4 O2.out (by decide) (by decide)) ?_
  rintro e w5 ⟨rfl, h5, k5⟩
  have K5 := Lib.hid (K4.out.up k5 (by rw [HB.out]; exact Nat.le_refl _))
  have e1 : c2.canMeet 2 9 = false := by decide
  rw [e1]
  clear e1 k5 K4 h4 h5
  go_wp2_with fail
  go_ret
  exact ⟨rfl, K5.out⟩
end Go.Proofs.Ytmkfcfedadkkmaa
