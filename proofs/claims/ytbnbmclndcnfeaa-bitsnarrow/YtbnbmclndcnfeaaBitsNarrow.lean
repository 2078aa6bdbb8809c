/- For every 64-bit number with a sign and every width from 1 to 63 that the byte gives, the law BitsNarrow returns true: what is narrowed lies within the width, is itself if it fits, and the next one beyond goes round. No condition. -/
import Derived.Test.YtbnbmclndcnfeaaRows
import Derived.Test.YtbnbmclndcnfeaaCalls
import Derived.WalkKit
import Derived.Deep.QuietTactic
import Derived.BigQuiet
import Derived.ProofKit
import Derived.OpenShut
import Derived.ShutString
namespace Go.Proofs.Ytbnbmclndcnfeaa.bitsNarrow
open Go.ChangeShapes Go.WideShapes Go.ChangeAt Go.RowKit
open Go.ChangeMaps (open_string shut_string)
set_option linter.unusedVariables false      -- a walk need not use every 'w<i>' (that an integer argument fits its kind)

theorem own : ownKnob Try.prog.godebug = none := by kernel_rfl

theorem shifted_out (a y q : Int) (m : Nat) (hm : m ≤ 62) (h : a - y = 2 * 2 ^ m * q) :
    IntKind.u64.wrap (IntKind.u64.wrap (IntKind.u64.wrap a - IntKind.u64.wrap y) * 2 ^ (63 - m)) = 0 := by
  have e : ((2 : Int) ^ m) * 2 ^ (63 - m) = 9223372036854775808 := by
    rw [← Int.pow_add, show m + (63 - m) = 63 from by omega]; rfl
  have e1 : IntKind.u64.wrap (IntKind.u64.wrap a - IntKind.u64.wrap y) = (a - y) % 18446744073709551616 := by
    simp only [IntKind.wrap_u64]; omega
  rw [e1, h, IntKind.wrap_u64, Int.mul_emod, Int.emod_emod, ← Int.mul_emod]
  have e2 : 2 * 2 ^ m * q * 2 ^ (63 - m) = 18446744073709551616 * q := by
    rw [Int.mul_assoc 2, Int.mul_assoc 2, Int.mul_right_comm (2 ^ m) q, e]; omega
  rw [e2, Int.mul_emod_right]

theorem half_is (m : Nat) (hm : m ≤ 62) : half (↑m + 1) = 2 ^ m := by
  unfold half
  rw [if_neg (by omega), if_neg (by omega), show ((m : Int) + 1).toNat - 1 = m from by omega]

theorem pow_le62 (m : Nat) (hm : m ≤ 62) : (1 : Int) ≤ 2 ^ m ∧ (2 : Int) ^ m ≤ 4611686018427387904 := by
  have h1 : 2 ^ m ≤ 2 ^ 62 := Nat.pow_le_pow_right (by omega) hm
  have h2 : 0 < 2 ^ m := Nat.two_pow_pos m
  have h3 : ((2 ^ m : Nat) : Int) = (2 : Int) ^ m := by simp [Int.natCast_pow]
  omega

theorem grown_drewN (w : World) (n : Nat) : Grown w (w.drewN n) := ⟨(Grown.refl w).1, (Grown.refl w).2.1, (Grown.refl w).2.2⟩

set_option maxHeartbeats 1000000 in
theorem core (a0 a1 : Int) (m : Nat) (h y : Int) (w : World) (hx : -9223372036854775808 ≤ a0 ∧ a0 ≤ 9223372036854775807) (hy : 0 ≤ a1 ∧ a1 ≤ 255) (hm1 : m ≤ 62) (hm : a1 % 63 = (m : Int))
    (hh1 : 1 ≤ h) (hh2 : h ≤ 4611686018427387904) (eh : wrap64 (2 ^ m) = h) (hy1 : -h ≤ y) (hy2 : y ≤ h - 1) (ey : narrowI a0 (↑m + 1) = y) (ey2 : narrowI y (↑m + 1) = y) (nn : narrowI h (↑m + 1) = -h)
    (ez : IntKind.u64.wrap (IntKind.u64.wrap (IntKind.u64.wrap a0 - IntKind.u64.wrap y) * 2 ^ (63 - m)) = 0)
    (hcase : a0 < -h ∨ (-h ≤ a0 ∧ h - 1 < a0) ∨ (-h ≤ a0 ∧ a0 ≤ h - 1 ∧ (y == a0) = true)) :
    Calls Try.prog 5 #[.int .i64 a0, .int .u8 a1] w fun e w' => e = .returned (.bool true) ∧ Grown w w' := by
  rcases hcase with e0 | ⟨e0, e1⟩ | ⟨e0, e1, e2⟩
  all_goals
    go_enter Try.func5, Try.ntmps5
    go_wp2_with (first
      | (go_at_call 9; refine (known_any _).mono ?_; rintro e w' ⟨rfl, rfl⟩)
      | (go_at_call 13; refine (narrow_any _ _ _).mono ?_; rintro e w' ⟨rfl, rfl⟩))
    go_quiet (fail)
    go_wp2_with (first
      | (go_at_call 9; refine (known_any _).mono ?_; rintro e w' ⟨rfl, rfl⟩)
      | (go_at_call 13; refine (narrow_any _ _ _).mono ?_; rintro e w' ⟨rfl, rfl⟩))
    go_ret
    refine ⟨?_, grown_drewN _ _⟩
    first
      | rfl
      | (rw [show IntKind.u64.wrap a0 = a0 from by rw [IntKind.wrap_u64]; omega] at ez; simp only [Array.getD, ez]; rfl)
      | (trace_state; simp [ez])
set_option maxHeartbeats 1000000 in
theorem walk (a0 : Int) (a1 : Int) (w0 : (Lit.int .i64 a0).wf = true) (w1 : (Lit.int .u8 a1).wf = true) (w : World) :
    Calls Try.prog 5 #[.int .i64 a0, .int .u8 a1] w fun e w' => e = .returned (.bool true) ∧ Grown w w' := by
  have hx : -9223372036854775808 ≤ a0 ∧ a0 ≤ 9223372036854775807 := by simpa [Lit.wf, IntKind.min, IntKind.max, IntKind.signed, IntKind.bits] using w0
  have hy : 0 ≤ a1 ∧ a1 ≤ 255 := by simpa [Lit.wf, IntKind.min, IntKind.max, IntKind.signed, IntKind.bits] using w1
  clear w0 w1
  obtain ⟨m, hm1, hm⟩ : ∃ m : Nat, m ≤ 62 ∧ a1 % 63 = (m : Int) := ⟨(a1 % 63).toNat, by omega, by omega⟩
  have hp := pow_le62 m hm1
  have hf := half_is m hm1
  have nb := narrow_bounds a0 (↑m + 1)
  have nf := fun y h1 h2 => narrow_fits y (↑m + 1) h1 h2
  have nn := narrow_next (↑m + 1)
  obtain ⟨q, hq⟩ := narrow_dvd a0 (↑m + 1)
  rw [hf] at nb nf nn hq
  have eh : wrap64 (2 ^ m) = 2 ^ m := by unfold wrap64; omega
  have es := shifted_out a0 _ q m hm1 hq
  obtain ⟨h, hh⟩ : ∃ h : Int, h = 2 ^ m := ⟨_, rfl⟩
  rw [← hh] at hp nb nf nn
  have eh' : wrap64 (2 ^ m) = h := by rw [eh, hh]
  obtain ⟨y, ey⟩ : ∃ y : Int, narrowI a0 (↑m + 1) = y := ⟨_, rfl⟩
  rw [ey] at nb es
  have hc : a0 < -h ∨ (-h ≤ a0 ∧ h - 1 < a0) ∨ (-h ≤ a0 ∧ a0 ≤ h - 1 ∧ (y == a0) = true) := by
    by_cases c1 : a0 < -h
    · exact .inl c1
    · by_cases c2 : h - 1 < a0
      · exact .inr (.inl ⟨by omega, c2⟩)
      · have := nf a0 (by omega) (by omega)
        exact .inr (.inr ⟨by omega, by omega, by rw [← ey, this]; simp⟩)
  exact core a0 a1 m h y w hx hy hm1 hm hp.1 hp.2 eh' nb.1 nb.2 ey (nf y nb.1 nb.2) nn es hc

set_option maxRecDepth 100000 in
theorem lifted (os : Os) (started : os.Started) (H : Type) (enc : TypeId × Value → H) :
    ReturnsInHanded {} Try.checked os 5 .any (Rows.bitsNarrowSpec.pre6 enc Try.prog Try.f5 Rows.bitsNarrowRow.domain false) (Rows.bitsNarrowSpec.post enc Try.prog Try.f5 false true false false) := by
  refine returnsInHanded_of_change (C := Try.checked) own started (by kernel_rfl) Try.func5
    (ChangeSpec.witness6 (enc := enc) (C := Try.checked) false ⟨#[], #[.int .i64 0, .int .u8 0], []⟩ 8 (by kernel_rfl) (by kernel_rfl) (by kernel_rfl) (by kernel_rfl)) ?_
  intro W base args ds gs before hval0 hW hcnd _
  have hval : ∀ (j : Nat) t v, Try.f5.params[j]? = some t → args[j]? = some v → Value.okWide Try.prog W .any base t v := hval0
  have hW' := hW
  obtain ⟨p, q, hA0, hV, rfl, hfz, hnd⟩ := hW
  have hA : DataW.TrodAll enc Try.prog W 0 (fun _ => true) true Try.f5.params.toList args.toList ds p := hA0
  rw [Try.params5] at hA hval
  obtain ⟨v0, vs0, d0, ds0, p0, q0, hargs, rfl, rfl, h0, r0⟩ := trodAll_cons hA
  obtain ⟨v1, vs1, d1, ds1, p1, q1, rfl, rfl, rfl, h1, r1⟩ := trodAll_cons r0
  obtain ⟨rfl, rfl, rfl⟩ := trodAll_nil r1
  obtain rfl : args = #[v0, v1] := by cases args; simp_all
  obtain ⟨rfl, rfl⟩ := trodVars_none hV
  obtain ⟨a0, rfl, rfl, rfl, w0⟩ := open_int Try.underlying2 (hval 0 2 v0 rfl rfl) h0
  obtain ⟨a1, rfl, rfl, rfl, w1⟩ := open_int Try.underlying5 (hval 1 5 v1 rfl rfl) h1
  clear hA0 hval0
  simp only [List.append_nil] at hW'
  refine (walk a0 a1 w0 w1 W).mono fun e W' ⟨he, hg⟩ => ?_
  subst he
  exact ⟨_, rfl, post_of_same (pa := []) (pv := []) hW' (fun _ _ _ => (trodAll_cons_mk (shut_bool Try.underlying4 _) trodAll_mk0)) (fun sp _ => (trodAll_cons_mk (shut_int Try.underlying2 w0) (trodAll_cons_mk (shut_int Try.underlying5 w1) trodAll_mk0))) (fun _ _ => rfl) rfl
    (hg.frame _) hg.2.1 (ok_one (by kernel_rfl) rfl (okWide_bool_mk Try.underlying4 _))⟩

theorem over : Rows.bitsNarrowRow.holds Try.pinned (OpenSpec.ofChange Rows.bitsNarrowSpec) :=
  OpenClaim.holds_of_wide 5 Try.f5 rfl rfl rfl rfl rfl rfl rfl ⟨rfl, rfl, rfl, rfl, rfl⟩ rfl rfl rfl rfl rfl (by kernel_rfl) Try.func5 (by kernel_rfl)
    (of_decide_eq_true (by kernel_rfl)) (by unfold Func.isWrapper; first | (rw [if_pos (by decide +kernel)]; kernel_rfl) | (rw [if_neg (by decide +kernel)]; exact ⟨rfl, rfl⟩))
    (fun os started H enc _ => lifted os started H enc)

theorem proved : Rows.BitsNarrowSaid :=
  over
#print axioms proved
end Go.Proofs.Ytbnbmclndcnfeaa.bitsNarrow
