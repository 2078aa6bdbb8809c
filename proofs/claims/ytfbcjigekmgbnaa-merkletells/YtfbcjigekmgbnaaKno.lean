/- The known answers of layer 10. -/
import Derived.Test.YtfbcjigekmgbnaaSum8
import Derived.Test.YtfbcjigekmgbnaaUnl
namespace Go.Proofs.Ytfbcjigekmgbnaa
open Go.RowKit
set_option maxRecDepth 100000

theorem unl_same (a : List Int) (h : a.length = 8) : unlTo a a 8 = [] := by
  unfold unlTo
  rw [List.filter_eq_nil_iff.2 (fun k _ => by rw [unlP_in h h]; simp)]
  rfl
theorem unl_all (a b : List Int) (h : a.length ≠ 8 ∨ b.length ≠ 8) : (unlTo a b 8).length = 8 := by
  unfold unlTo
  rw [List.filter_eq_self.2 (fun k _ => unlP_out h)]
  rfl
theorem qs_nil (w : World) : Qs w none [] := fun i hi => absurd hi (by simp)
theorem leaf_zero : leafI 0 [] = sumI [0] := rfl

set_option maxHeartbeats 1600000 in
theorem known_any (w : World) : Calls Try.prog 8 #[] w fun e w' => e = .returned (.bool true) ∧ Below w.heap.size w w' := by
  have NW := Lib.hid (map_new w)
  have F0 := mp_new w
  have hk0 : Below w.heap.size w (w.alloc (.cells (mapL nul nul nul).toArray 66)) := (Below.refl _ _).alloc (Nat.le_refl _) _
  obtain ⟨w1, hw1⟩ : ∃ w1, w1 = w.alloc (.cells (mapL nul nul nul).toArray 66) := ⟨_, rfl⟩
  rw [← hw1] at NW F0 hk0
  obtain ⟨B, hB⟩ : ∃ B, B = w.heap.size := ⟨_, rfl⟩
  rw [← hB] at NW F0
  have H0 := Lib.hid (And.intro F0 hk0)
  have SA := Lib.hid (sums_any w1 B nul nul nul F0)
  have hlt : w.heap.size ≤ w1.heap.size := hk0.size
  clear F0 hk0 hw1 hB
  go_enter Try.func8, Try.ntmps8
  go_wp2_with fail
  refine NW.out.mono ?_
  rintro e w2 ⟨rfl, rfl⟩
  go_wp2_with fail
  refine SA.out.mono ?_
  rintro e w3 ⟨E, rfl, hE, hEl, b3⟩
  have m3 := H0.out.1.below b3 H0.out.1.lt
  have q3 := qs_block hE
  have k3 := H0.out.2.trans (b3.mono hlt)
  have OA := Lib.hid (of_any w3 B nul nul nul m3)
  have H3 := Lib.hid (And.intro q3 k3)
  clear hE b3 m3 q3 k3 SA NW
  generalize hs : sumsI nul nul nul = s at *
  have hl : s.length = 8 := by rw [← hs]; exact sumsI_len _ _ _
  have HL := Lib.hid hl
  clear hs hl
  go_wp2_with fail
  refine OA.out.mono ?_
  rintro e w4 ⟨rfl, b4⟩
  have k4 := H3.out.2.trans (b4.mono H3.out.2.size)
  have q4 := qs_below H3.out.1 b4
  have RA := Lib.hid (root_any w4 (some ⟨E, 0, none⟩) 8 8 s q4 HL.out)
  have H4 := Lib.hid (And.intro q4 k4)
  clear b4 k4 q4 OA H3
  go_wp2_with fail
  refine RA.out.mono ?_
  rintro e w5 ⟨rfl, b5⟩
  have k5 := H4.out.2.trans (b5.mono H4.out.2.size)
  have q5 := qs_below H4.out.1 b5
  have RN := Lib.hid (root_any w5 none 0 0 [] (qs_nil _) rfl)
  have H5 := Lib.hid (And.intro q5 k5)
  clear b5 k5 q5 RA H4
  generalize rI s = r at *
  go_wp2_with fail
  refine RN.out.mono ?_
  rintro e w6 ⟨rfl, b6⟩
  have k6 := H5.out.2.trans (b6.mono H5.out.2.size)
  have q6 := qs_below H5.out.1 b6
  have UA := Lib.hid (unlike_any w6 (some ⟨E, 0, none⟩) (some ⟨E, 0, none⟩) 8 8 8 8 s s q6 q6 HL.out HL.out)
  have H6 := Lib.hid (And.intro q6 k6)
  clear b6 k6 q6 RN H5
  have hr : rI [] = 0 := rfl
  rw [hr]
  go_wp2_with fail
  refine UA.out.mono ?_
  rintro e w7 ⟨ao, c, rfl, -, -, b7⟩
  have k7 := H6.out.2.trans (b7.mono H6.out.2.size)
  have q7 := qs_below H6.out.1 b7
  have UB := Lib.hid (unlike_any w7 (some ⟨E, 0, none⟩) none 8 0 8 0 s [] q7 (qs_nil _) HL.out rfl)
  have H7 := Lib.hid (And.intro q7 k7)
  rw [unl_same s HL.out]
  clear b7 k7 q7 UA H6
  go_wp2_with fail
  refine UB.out.mono ?_
  rintro e w8 ⟨ao2, c2, rfl, -, -, b8⟩
  have k8 := H7.out.2.trans (b8.mono H7.out.2.size)
  have LA := Lib.hid (leaf_any w8 0 none 0 [] (fun i hi => absurd hi (by simp)) (fun _ => ⟨rfl, rfl⟩) (by simp))
  have H8 := Lib.hid k8
  rw [unl_all s [] (.inr (by simp))]
  clear b8 k8 UB H7
  go_wp2_with fail
  refine LA.out.mono ?_
  rintro e w9 ⟨rfl, b9⟩
  have k9 := H8.out.trans (b9.mono H8.out.size)
  have SB := Lib.hid (refSum_any (some ⟨w9.heap.size, 0, none⟩) [0] 1 (w9.alloc (.cells (vals [0]).toArray 5)) (bytes_new w9 [0] 5) (by unfold maxLen; simp))
  have H9 := Lib.hid k9
  rw [leaf_zero]
  generalize sumI [0] = q at *
  clear b9 k9 LA H8
  go_wp2_with fail
  refine SB.out.mono ?_
  rintro e wa ⟨rfl, rfl⟩
  go_wp2_with fail
  go_ret
  exact ⟨rfl, H9.out.alloc H9.out.size _⟩
end Go.Proofs.Ytfbcjigekmgbnaa
