/- Mix, here and in the document: the sum of the eight bytes of a, then of b, the highest first. -/
import Derived.Test.YtfbcjigekmgbnaaPut
import Derived.Test.YtfbcjigekmgbnaaSums
import Derived.OwnWalk
namespace Go.Proofs.Ytfbcjigekmgbnaa
open Go.RowKit
set_option maxRecDepth 100000

def mixI (a b : Int) : Int := sumI (be a 8 ++ be b 8)

def mixAt (a b : Int) (k j : Nat) : Int :=
  if j < 8 then (if j < k then byteAt a (7 - j) else 0) else (if j - 8 < k then byteAt b (15 - j) else 0)

theorem xmix_next (wr : World) (g : Nat) (a b : Int) (k : Nat) (hk : k < 8) (hc : ∀ j, j < 16 → wr.cell? ⟨g, j, none⟩ = some (.int .u8 (mixAt a b k j))) :
    ∀ j, j < 16 → ((wr.setCell ⟨g, k, none⟩ (.int .u8 (a / 2 ^ (56 - 8 * k) % 256))).setCell ⟨g, 8 + k, none⟩ (.int .u8 (b / 2 ^ (56 - 8 * k) % 256))).cell? ⟨g, j, none⟩ = some (.int .u8 (mixAt a b (k + 1) j)) := by
  intro j hj
  have e7 : 8 * (7 - k) = 56 - 8 * k := by omega
  have hcA := hc k (by omega)
  have hcB := hc (8 + k) (by omega)
  by_cases h1 : j = 8 + k
  · subst h1
    rw [World.cell?_setCell_same' _ _ _ (by rw [World.cell?_setCell_other _ _ _ _ (by simp <;> omega), hcB]; rfl)]
    unfold mixAt byteAt
    rw [if_neg (by omega), if_pos (by omega), show 15 - (8 + k) = 7 - k from by omega, e7]
  · rw [World.cell?_setCell_other _ _ _ _ (by simp <;> omega)]
    by_cases h2 : j = k
    · subst h2
      rw [World.cell?_setCell_same' _ _ _ (by rw [hcA]; rfl)]
      unfold mixAt byteAt
      rw [if_pos hk, if_pos (by omega), e7]
    · rw [World.cell?_setCell_other _ _ _ _ (by simp <;> omega), hc j hj]
      have e : mixAt a b k j = mixAt a b (k + 1) j := by
        unfold mixAt
        by_cases h8 : j < 8
        · rw [if_pos h8, if_pos h8]
          by_cases hjk : j < k
          · rw [if_pos hjk, if_pos (by omega)]
          · rw [if_neg hjk, if_neg (by omega)]
        · rw [if_neg h8, if_neg h8]
          by_cases hjk : j - 8 < k
          · rw [if_pos hjk, if_pos (by omega)]
          · rw [if_neg hjk, if_neg (by omega)]
      rw [e]

theorem xmix_done (a b : Int) (j : Nat) (hj : j < 16) : mixAt a b 8 j = (be a 8 ++ be b 8).getD j 0 := by
  have h : j = 0 ∨ j = 1 ∨ j = 2 ∨ j = 3 ∨ j = 4 ∨ j = 5 ∨ j = 6 ∨ j = 7 ∨ j = 8 ∨ j = 9 ∨ j = 10 ∨ j = 11 ∨ j = 12 ∨ j = 13 ∨ j = 14 ∨ j = 15 := by omega
  rcases h with rfl | rfl | rfl | rfl | rfl | rfl | rfl | rfl | rfl | rfl | rfl | rfl | rfl | rfl | rfl | rfl <;> rfl

theorem xmix_start (w : World) (a b : Int) (o : Obj) (ho : o = Obj.cells #[.int .u8 0, .int .u8 0, .int .u8 0, .int .u8 0, .int .u8 0, .int .u8 0, .int .u8 0, .int .u8 0, .int .u8 0, .int .u8 0, .int .u8 0, .int .u8 0, .int .u8 0, .int .u8 0, .int .u8 0, .int .u8 0] 78) :
    (∀ j, j < 16 → (w.alloc o).cell? ⟨w.heap.size, j, none⟩ = some (.int .u8 (mixAt a b 0 j))) ∧ (∀ j, (w.alloc o).frozen? ⟨w.heap.size, j, none⟩ = false) := by
  subst ho
  have hh := heap_alloc_new w (Obj.cells #[.int .u8 0, .int .u8 0, .int .u8 0, .int .u8 0, .int .u8 0, .int .u8 0, .int .u8 0, .int .u8 0, .int .u8 0, .int .u8 0, .int .u8 0, .int .u8 0, .int .u8 0, .int .u8 0, .int .u8 0, .int .u8 0] 78)
  refine ⟨fun j hj => ?_, fun j => frozen_of_row _ _ j _ _ hh⟩
  rw [cell_of_row _ _ j _ _ _ hh]
  have h : j = 0 ∨ j = 1 ∨ j = 2 ∨ j = 3 ∨ j = 4 ∨ j = 5 ∨ j = 6 ∨ j = 7 ∨ j = 8 ∨ j = 9 ∨ j = 10 ∨ j = 11 ∨ j = 12 ∨ j = 13 ∨ j = 14 ∨ j = 15 := by omega
  rcases h with rfl | rfl | rfl | rfl | rfl | rfl | rfl | rfl | rfl | rfl | rfl | rfl | rfl | rfl | rfl | rfl <;> rfl

set_option maxHeartbeats 400000 in
theorem mix_any (a b : Int) (w : World) :
    Calls Try.prog 38 #[.int .u64 a, .int .u64 b] w fun e w' => e = .returned (.int .u64 (mixI a b)) ∧ Below w.heap.size w w' := by
  go_enter Try.func38, Try.ntmps38
  go_wp2_with fail
  go_loopw [8] (fun i w' => ∃ k : Nat, k ≤ 8 ∧ i = .int .i64 k ∧ (∀ j, j < 16 → w'.cell? ⟨w.heap.size, j, none⟩ = some (.int .u8 (mixAt a b k j))) ∧ (∀ j, w'.frozen? ⟨w.heap.size, j, none⟩ = false) ∧ Below w.heap.size w w') (fun i _ => 8 - (intOf i).toNat)
  case atStart =>
    obtain ⟨h1, h2⟩ := xmix_start w a b _ rfl
    exact ⟨0, by omega, rfl, h1, h2, (Below.refl _ _).alloc (Nat.le_refl _) _⟩
  case round =>
    obtain ⟨k, hk, rfl, hc, hf, hbel⟩ := hrel
    have HC := Lib.hid hc
    have HF := Lib.hid hf
    have HB := Lib.hid hbel
    clear hc hf hbel
    by_cases hlt : k < 8
    · have hcA := HC.out k (by omega)
      have hcB := HC.out (8 + k) (by omega)
      have hfA := HF.out k
      have hfB := HF.out (8 + k)
      go_wp2_with fail
      refine ⟨⟨k + 1, by omega, by go_num, xmix_next _ _ a b k hlt HC.out, ?_, (HB.out.setCell (Nat.le_refl _) _).setCell (Nat.le_refl _) _⟩, by simp [intOf]; omega⟩
      intro j
      simp [HF.out j]
    · obtain rfl : k = 8 := by omega
      have hbytes : Bytes wr (some ⟨w.heap.size, 0, none⟩) (be a 8 ++ be b 8) := by
        intro j hj
        have hj' : j < 16 := hj
        refine ⟨_, rfl, ?_⟩
        rw [← xmix_done a b j hj', ← HC.out j hj']
        congr 1
        unfold Addr.add
        by_cases h0 : j = 0
        · subst h0; rfl
        · rw [if_neg h0, Nat.zero_add]
      have hs : Calls Try.prog 36 #[.slice (some ⟨w.heap.size, 0, none⟩) 16 16] wr fun e w' => e = .returned (.int .u64 (mixI a b)) ∧ wr = w' := sum_any (some ⟨w.heap.size, 0, none⟩) (be a 8 ++ be b 8) 16 wr hbytes (by show 16 ≤ maxLen; unfold maxLen; omega)
      have HS := Lib.hid hs
      clear hs hbytes
      go_wp2_with (go_at_call 36; refine HS.out.mono ?_; rintro e w' ⟨rfl, rfl⟩)
      go_ret
      exact ⟨rfl, HB.out⟩

theorem nul_own (w : World) : w.ownsRow 0 5 1 (.slice none 0 0) 0 (vals []) := ⟨by simp [vals], .inl ⟨rfl, rfl⟩⟩

set_option maxHeartbeats 400000 in
theorem refMix_any (a b : Int) (w : World) :
    Calls Try.prog 32 #[.int .u64 a, .int .u64 b] w fun e w' => e = .returned (.int .u64 (mixI a b)) ∧ Below w.heap.size w w' := by
  have P1 := Lib.hid (put1_any none 0 0 [] a 8 w (nul_own w) (by omega) (by omega))
  go_enter Try.func32, Try.ntmps32
  go_wp2_with fail
  refine P1.out.mono ?_
  rintro e w1 ⟨a1, c1, rfl, o1, k1, g1⟩
  have P2 := Lib.hid (put1_any a1 (0 + 8) c1 ([] ++ be a 8) b 8 w1 o1 (by omega) (by omega))
  have b1 : Below w.heap.size w w1 := k1.below (Nat.le_refl _) (fun k e => by simp [Value.ownBlock] at e)
  have G1 : ∀ k, (Value.slice a1 (0 + 8) c1).ownBlock = some k → w.heap.size ≤ k := by
    intro k e
    rcases g1 with e1 | ⟨j, e1, hj⟩
    · rw [e1] at e; simp [Value.ownBlock] at e
    · rw [e1] at e; injection e with e; omega
  have H1 := Lib.hid (And.intro b1 G1)
  clear o1 k1 g1 b1 G1 P1
  go_wp2_with fail
  refine P2.out.mono ?_
  rintro e w2 ⟨a2, c2, rfl, o2, k2, g2⟩
  have b2 : Below w.heap.size w w2 := H1.out.1.trans (k2.below H1.out.1.size (fun k e => H1.out.2 k e.symm))
  have hb2 := own_bytes o2
  have hl : ([] ++ be a 8 ++ be b 8).length = 0 + 8 + 8 := by simp [be_length]
  have S := refSum_any a2 ([] ++ be a 8 ++ be b 8) c2 w2 hb2 (by rw [hl]; unfold maxLen; omega)
  rw [hl] at S
  have S := Lib.hid S
  have H2 := Lib.hid b2
  clear o2 k2 g2 b2 hb2 hl P2 H1
  go_wp2_with fail
  refine S.out.mono ?_
  rintro e w' ⟨rfl, rfl⟩
  go_wp2
  go_ret
  exact ⟨rfl, H2.out⟩
end Go.Proofs.Ytfbcjigekmgbnaa
