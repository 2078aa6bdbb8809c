/- For every 32-bit number and every byte the law BitsDouble returns true: it is doubled so many times, six at most, never above 2 to the 31st; a number below 0 of times counts as none. No condition. -/
import Derived.Test.YtbnbmclndcnfeaaRows
import Derived.Test.YtbnbmclndcnfeaaCalls
import Derived.WalkKit
import Derived.ProofKit
import Derived.OpenShut
import Derived.ShutString
namespace Go.Proofs.Ytbnbmclndcnfeaa.bitsDouble
open Go.ChangeShapes Go.WideShapes Go.ChangeAt Go.RowKit
open Go.ChangeMaps (open_string shut_string)
set_option linter.unusedVariables false      -- a walk need not use every 'w<i>' (that an integer argument fits its kind)

theorem own : ownKnob Try.prog.godebug = none := by kernel_rfl

/-- t doubled j times -/
def dbl (t : Int) (j : Nat) : Int := t * 2 ^ j

theorem dbl_next (t : Int) (j : Nat) : dbl t (j + 1) = dbl t j + dbl t j := by unfold dbl; rw [Int.pow_succ, ← Int.mul_assoc]; omega

theorem dbl_le (t : Int) (j : Nat) (h0 : 0 ≤ t) (h1 : t ≤ 4294967295) (hj : j ≤ 6) : 0 ≤ dbl t j ∧ dbl t j ≤ 274877906880 := by
  unfold dbl
  have hc : j = 0 ∨ j = 1 ∨ j = 2 ∨ j = 3 ∨ j = 4 ∨ j = 5 ∨ j = 6 := by omega
  rcases hc with rfl | rfl | rfl | rfl | rfl | rfl | rfl <;> omega

theorem double_of (t k : Int) (j : Nat) (h : (if 6 < k then 6 else if k < 0 then 0 else k) = (j : Int)) : doubleI t k = if 2147483648 < dbl t j then 2147483648 else dbl t j := by
  unfold doubleI dbl; rw [h]; rfl
set_option maxHeartbeats 1000000 in
theorem walk (a0 : Int) (a1 : Int) (w0 : (Lit.int .u32 a0).wf = true) (w1 : (Lit.int .u8 a1).wf = true) (w : World) :
    Calls Try.prog 8 #[.int .u32 a0, .int .u8 a1] w fun e w' => e = .returned (.bool true) ∧ Grown w w' := by
  have hx : 0 ≤ a0 ∧ a0 ≤ 4294967295 := by simpa [Lit.wf, IntKind.min, IntKind.max, IntKind.signed, IntKind.bits] using w0
  have hy : 0 ≤ a1 ∧ a1 ≤ 255 := by simpa [Lit.wf, IntKind.min, IntKind.max, IntKind.signed, IntKind.bits] using w1
  clear w0 w1
  obtain ⟨x0, x1⟩ := hx
  obtain ⟨k, rfl⟩ := Int.eq_ofNat_of_zero_le hy.1
  have hneg : doubleI a0 (-(k : Int)) = doubleI a0 0 := by
    by_cases h0 : k = 0
    · rw [h0]; rfl
    · exact doubleI_low a0 _ (by omega)
  have HN := Lib.hid hneg
  clear hneg
  go_enter Try.func8, Try.ntmps8
  go_wp2_with (first
    | (go_at_call 9; refine (known_any _).mono ?_; rintro e w' ⟨rfl, rfl⟩))
  go_loop [5, 6] (fun n i => ∃ j : Nat, j ≤ 6 ∧ j ≤ k ∧ i = .int .i64 j ∧ n = .int .u64 (dbl a0 j)) (fun _ i => 6 - (intOf i).toNat)
  case atStart => exact ⟨0, by omega, by omega, rfl, by simp [dbl]⟩
  case round =>
    obtain ⟨j, hj1, hj2, rfl, rfl⟩ := hrel
    have hb := dbl_le a0 j x0 x1 hj1
    by_cases hc : j < k ∧ j < 6
    · obtain ⟨hc1, hc2⟩ := hc
      have HS := Lib.hid (dbl_next a0 j)
      go_wp2
      go_round
      case rel => exact ⟨j + 1, by omega, by omega, by go_num, by rw [HS.out]⟩
      case measure => simp [intOf]; omega
    · have hd := double_of a0 k j (by split <;> (try split) <;> omega)
      have hjk : (j < k ∧ 6 ≤ j) ∨ k ≤ j := by omega
      have en := HN.out
      clear HN hc
      by_cases hbig : 2147483648 < dbl a0 j
      · rw [if_pos hbig] at hd
        rcases hjk with ⟨c1, c2⟩ | c1
        all_goals
          go_wp2_with (go_at_call 19; refine (double_any _ _ _ (by omega) (by omega)).mono ?_; rintro e w' ⟨rfl, rfl⟩)
          go_ret
          exact ⟨rfl, Grown.refl _⟩
      · rw [if_neg hbig] at hd
        rcases hjk with ⟨c1, c2⟩ | c1
        all_goals
          go_wp2_with (go_at_call 19; refine (double_any _ _ _ (by omega) (by omega)).mono ?_; rintro e w' ⟨rfl, rfl⟩)
          go_ret
          exact ⟨rfl, Grown.refl _⟩

set_option maxRecDepth 100000 in
theorem lifted (os : Os) (started : os.Started) (H : Type) (enc : TypeId × Value → H) :
    ReturnsInHanded {} Try.checked os 8 .any (Rows.bitsDoubleSpec.pre6 enc Try.prog Try.f8 Rows.bitsDoubleRow.domain false) (Rows.bitsDoubleSpec.post enc Try.prog Try.f8 false true false false) := by
  refine returnsInHanded_of_change (C := Try.checked) own started (by kernel_rfl) Try.func8
    (ChangeSpec.witness6 (enc := enc) (C := Try.checked) false ⟨#[], #[.int .u32 0, .int .u8 0], []⟩ 8 (by kernel_rfl) (by kernel_rfl) (by kernel_rfl) (by kernel_rfl)) ?_
  intro W base args ds gs before hval0 hW hcnd _
  have hval : ∀ (j : Nat) t v, Try.f8.params[j]? = some t → args[j]? = some v → Value.okWide Try.prog W .any base t v := hval0
  have hW' := hW
  obtain ⟨p, q, hA0, hV, rfl, hfz, hnd⟩ := hW
  have hA : DataW.TrodAll enc Try.prog W 0 (fun _ => true) true Try.f8.params.toList args.toList ds p := hA0
  rw [Try.params8] at hA hval
  obtain ⟨v0, vs0, d0, ds0, p0, q0, hargs, rfl, rfl, h0, r0⟩ := trodAll_cons hA
  obtain ⟨v1, vs1, d1, ds1, p1, q1, rfl, rfl, rfl, h1, r1⟩ := trodAll_cons r0
  obtain ⟨rfl, rfl, rfl⟩ := trodAll_nil r1
  obtain rfl : args = #[v0, v1] := by cases args; simp_all
  obtain ⟨rfl, rfl⟩ := trodVars_none hV
  obtain ⟨a0, rfl, rfl, rfl, w0⟩ := open_int Try.underlying24 (hval 0 24 v0 rfl rfl) h0
  obtain ⟨a1, rfl, rfl, rfl, w1⟩ := open_int Try.underlying5 (hval 1 5 v1 rfl rfl) h1
  clear hA0 hval0
  simp only [List.append_nil] at hW'
  refine (walk a0 a1 w0 w1 W).mono fun e W' ⟨he, hg⟩ => ?_
  subst he
  exact ⟨_, rfl, post_of_same (pa := []) (pv := []) hW' (fun _ _ _ => (trodAll_cons_mk (shut_bool Try.underlying4 _) trodAll_mk0)) (fun sp _ => (trodAll_cons_mk (shut_int Try.underlying24 w0) (trodAll_cons_mk (shut_int Try.underlying5 w1) trodAll_mk0))) (fun _ _ => rfl) rfl
    (hg.frame _) hg.2.1 (ok_one (by kernel_rfl) rfl (okWide_bool_mk Try.underlying4 _))⟩

theorem over : Rows.bitsDoubleRow.holds Try.pinned (OpenSpec.ofChange Rows.bitsDoubleSpec) :=
  OpenClaim.holds_of_wide 8 Try.f8 rfl rfl rfl rfl rfl rfl rfl ⟨rfl, rfl, rfl, rfl, rfl⟩ rfl rfl rfl rfl rfl (by kernel_rfl) Try.func8 (by kernel_rfl)
    (of_decide_eq_true (by kernel_rfl)) (by unfold Func.isWrapper; first | (rw [if_pos (by decide +kernel)]; kernel_rfl) | (rw [if_neg (by decide +kernel)]; exact ⟨rfl, rfl⟩))
    (fun os started H enc _ => lifted os started H enc)

theorem proved : Rows.BitsDoubleSaid :=
  over
#print axioms proved
end Go.Proofs.Ytbnbmclndcnfeaa.bitsDouble
