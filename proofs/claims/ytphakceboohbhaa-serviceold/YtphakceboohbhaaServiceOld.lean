/- For every two times and every key the law ServiceOld returns true: a request elder than its client's last one tells nothing and does nothing, a younger one is done. No condition. -/
import Derived.Test.YtphakceboohbhaaRows
import Derived.Test.YtphakceboohbhaaLaw
import Derived.WalkKit
import Derived.ProofKit
import Derived.OpenShut
import Derived.ShutString
import Derived.ChangeOld
import Derived.Below
namespace Go.Proofs.Ytphakceboohbhaa.serviceOld
open Go.ChangeShapes Go.WideShapes Go.ChangeAt Go.RowKit
set_option maxRecDepth 100000

theorem own : ownKnob Try.prog.godebug = none := by kernel_rfl
theorem laidOut : laidOutB Try.prog = true := by kernel_rfl

def so1 (kn : Nat) (a : Int) : Sv := ⟨upd nul kn 7, upd nul 2 a, upd nul 2 0⟩
def so2 (kn : Nat) (a b : Int) : Sv := ⟨upd (upd nul kn 7) kn 8, upd (upd nul 2 a) 2 b, upd (upd nul 2 0) 2 7⟩
theorem so_a (kn : Nat) (hk : kn < 64) (a : Int) (ha : a ≠ 0 ∧ 0 ≤ a) : apS s0 ⟨3, a, 1, kn, 7⟩ = so1 kn a ∧ apR s0 ⟨3, a, 1, kn, 7⟩ = 0 ∧ apB s0 ⟨3, a, 1, kn, 7⟩ = true := by
  have h := ap_new (s := s0) (r := ⟨3, a, 1, kn, 7⟩) (real_mk (by decide) ha.1 (by decide) (by omega) (.inl (by decide))) (by simp [ct, s0, nul]; omega)
  exact ⟨h.1, h.2.1, h.2.2.1⟩
theorem so_b (kn : Nat) (hk : kn < 64) (a b : Int) (ha : a ≠ 0 ∧ 0 ≤ a) (hb : a < b) : apS (so1 kn a) ⟨3, b, 1, kn, 8⟩ = so2 kn a b ∧ apR (so1 kn a) ⟨3, b, 1, kn, 8⟩ = 7 ∧ apB (so1 kn a) ⟨3, b, 1, kn, 8⟩ = true ∧ ct (so2 kn a b).T 3 = b ∧ (so2 kn a b).V kn = 8 := by
  have h := ap_new (s := so1 kn a) (r := ⟨3, b, 1, kn, 8⟩) (real_mk (by decide) (by omega) (by decide) (by omega) (.inl (by decide))) (by simp [ct, so1, upd]; omega)
  have e : (so1 kn a).V kn = 7 := by simp [so1, upd]
  refine ⟨?_, ?_, h.2.2.1, by simp [ct, so2, upd], by simp [so2, upd]⟩
  · rw [h.1]; show Sv.mk (upd _ kn 8) (upd _ 2 b) (upd _ 2 ((so1 kn a).V kn)) = _; rw [e]; rfl
  · rw [h.2.1]; exact e
theorem so_s (kn : Nat) (hk : kn < 64) (a : Int) (ha : a ≠ 0 ∧ 0 ≤ a) : apS (so1 kn a) ⟨3, a, 1, kn, 8⟩ = so1 kn a ∧ apR (so1 kn a) ⟨3, a, 1, kn, 8⟩ = 0 ∧ apB (so1 kn a) ⟨3, a, 1, kn, 8⟩ = true := by
  have h := ap_same (s := so1 kn a) (r := ⟨3, a, 1, kn, 8⟩) (real_mk (by decide) ha.1 (by decide) (by omega) (.inl (by decide))) (by simp [ct, so1, upd])
  exact ⟨h.1, h.2.1.trans (by simp [ct, so1, upd]), h.2.2.1⟩
theorem so_o (kn : Nat) (a b : Int) (hb : b < a) : apS (so1 kn a) ⟨3, b, 1, kn, 8⟩ = so1 kn a ∧ apR (so1 kn a) ⟨3, b, 1, kn, 8⟩ = 0 ∧ apB (so1 kn a) ⟨3, b, 1, kn, 8⟩ = false := by
  have h := ap_old (s := so1 kn a) (r := ⟨3, b, 1, kn, 8⟩) (by simp [ct, so1, upd]; omega)
  exact ⟨h.1, h.2.1, h.2.2.1⟩
theorem so_t (kn : Nat) (a : Int) : ct (so1 kn a).T 3 = a ∧ (so1 kn a).V kn = 7 := ⟨by simp [ct, so1, upd], by simp [so1, upd]⟩

set_option maxHeartbeats 8000000 in
theorem walk (a b key : Int) (w : World) (ha : 0 ≤ a ∧ a ≤ 4294967295) (hb : 0 ≤ b ∧ b ≤ 4294967295) (hk : 0 ≤ key ∧ key ≤ 255) :
    Calls Try.prog 7 #[.int .u32 a, .int .u32 b, .int .u8 key] w fun e w' => e = .returned (.bool true) ∧ Below w.heap.size w w' := by
  have KN := Lib.hid (known_any w)
  by_cases h0 : a = 0
  · subst h0
    go_enter Try.func7, Try.ntmps7
    go_wp2_with fail
    refine KN.out.mono ?_
    rintro e w1 ⟨rfl, b1⟩
    replace b1 := Lib.hid b1
    go_wp2_with fail
    go_ret
    exact ⟨rfl, b1.out⟩
  · have e0 : (a == 0) = false := by simpa using h0
    by_cases h1 : b = 0
    · subst h1
      clear h0
      go_enter Try.func7, Try.ntmps7
      go_wp2_with fail
      refine KN.out.mono ?_
      rintro e w1 ⟨rfl, b1⟩
      replace b1 := Lib.hid b1
      go_wp2_with fail
      go_ret
      exact ⟨rfl, b1.out⟩
    · have e1 : (b == 0) = false := by simpa using h1
      obtain ⟨kn, hkn⟩ : ∃ n : Nat, key.tmod 64 = n := ⟨(key % 64).toNat, by rw [Int.tmod_eq_emod_of_nonneg hk.1]; omega⟩
      have hkm : kn < 64 := by rw [Int.tmod_eq_emod_of_nonneg hk.1] at hkn; omega
      have HH := Lib.hid (And.intro h0 (And.intro h1 (And.intro ha hb)))
      clear h0 h1 ha hb hk
      go_enter Try.func7, Try.ntmps7
      go_wp2_with fail
      refine KN.out.mono ?_
      rintro e w1 ⟨rfl, b1⟩
      have NW := Lib.hid (new_mi w w1 b1)
      clear KN b1
      go_wp2_with fail
      refine NW.out.mono ?_
      rintro e w2 ⟨rfl, m2, -⟩
      replace m2 := Lib.hid m2
      generalize w1.heap.size = A at *
      clear NW
      go_wp2_with fail
      have FA := so_a kn hkm a ⟨HH.out.1, HH.out.2.2.1.1⟩
      have AP := Lib.hid (ap_mi m2.out 3 a 1 kn 7 (so1 kn a) 0 true (ok_mk (by decide) (by have := HH.out; omega) (by decide) (by omega) (by decide)) FA.1 FA.2.1 FA.2.2)
      refine AP.out.mono ?_
      rintro e w3 ⟨rfl, m3, -⟩
      replace m3 := Lib.hid m3
      clear AP m2 FA
      by_cases hlt : a < b
      · skip
        have FB := so_b kn hkm a b ⟨HH.out.1, HH.out.2.2.1.1⟩ hlt
        have AP := Lib.hid (ap_mi m3.out 3 b 1 kn 8 (so2 kn a b) 7 true (ok_mk (by decide) (by have := HH.out; omega) (by decide) (by omega) (by decide)) FB.1 FB.2.1 FB.2.2.1)
        have hlt2 : decide (a < b) = true := by simpa using hlt
        go_wp2_with fail
        refine AP.out.mono ?_
        rintro e w4 ⟨rfl, m4, -⟩
        clear AP
        have eT : ct (so2 kn a b).T 3 = b := FB.2.2.2.1
        have eV : (so2 kn a b).V kn = 8 := FB.2.2.2.2
        have CL := client_any w4 A 3 (by decide) (so2 kn a b) m4.1
        rw [eT] at CL
        generalize ct (so2 kn a b).R 3 = rv at CL
        replace CL := Lib.hid CL
        replace m4 := Lib.hid m4
        replace eV := Lib.hid eV
        clear FB eT m3
        go_wp2_with fail
        refine CL.out.mono ?_
        rintro e w5 ⟨rfl, b5⟩
        have m5 := Lib.hid (m4.out.below b5)
        clear b5 m4 CL
        have GE := get_any w5 A kn (so2 kn a b).V (so2 kn a b).T (so2 kn a b).R m5.out.1
        rw [if_pos hkm, eV.out] at GE
        replace GE := Lib.hid GE
        go_wp2_with fail
        refine GE.out.mono ?_
        rintro e w6 ⟨rfl, rfl⟩
        go_wp2_with fail
        go_ret
        exact ⟨rfl, m5.out.2.2.1⟩
      · by_cases heq : b = a
        · subst heq
          have FB := so_s kn hkm b ⟨HH.out.1, HH.out.2.2.1.1⟩
          have AP := Lib.hid (ap_mi m3.out 3 b 1 kn 8 (so1 kn b) 0 true (ok_mk (by decide) (by have := HH.out; omega) (by decide) (by omega) (by decide)) FB.1 FB.2.1 FB.2.2)
          go_wp2_with fail
          refine AP.out.mono ?_
          rintro e w4 ⟨rfl, m4, -⟩
          clear AP
          have eT : ct (so1 kn b).T 3 = b := (so_t kn b).1
          have eV : (so1 kn b).V kn = 7 := (so_t kn b).2
          have CL := client_any w4 A 3 (by decide) (so1 kn b) m4.1
          rw [eT] at CL
          generalize ct (so1 kn b).R 3 = rv at CL
          replace CL := Lib.hid CL
          replace m4 := Lib.hid m4
          replace eV := Lib.hid eV
          clear FB eT m3
          go_wp2_with fail
          refine CL.out.mono ?_
          rintro e w5 ⟨rfl, b5⟩
          have m5 := Lib.hid (m4.out.below b5)
          clear b5 m4 CL
          have GE := get_any w5 A kn (so1 kn b).V (so1 kn b).T (so1 kn b).R m5.out.1
          rw [if_pos hkm, eV.out] at GE
          replace GE := Lib.hid GE
          go_wp2_with fail
          refine GE.out.mono ?_
          rintro e w6 ⟨rfl, rfl⟩
          go_wp2_with fail
          go_ret
          exact ⟨rfl, m5.out.2.2.1⟩
        · have hlt3 : decide (a < b) = false := by simpa using hlt
          have hne : (b == a) = false := by simpa using heq
          have FB := so_o kn a b (by omega)
          have AP := Lib.hid (ap_mi m3.out 3 b 1 kn 8 (so1 kn a) 0 false (ok_mk (by decide) (by have := HH.out; omega) (by decide) (by omega) (by decide)) FB.1 FB.2.1 FB.2.2)
          replace hlt := Lib.hid (And.intro hlt heq)
          clear heq
          go_wp2_with fail
          refine AP.out.mono ?_
          rintro e w4 ⟨rfl, m4, -⟩
          clear AP
          have eT : ct (so1 kn a).T 3 = a := (so_t kn a).1
          have eV : (so1 kn a).V kn = 7 := (so_t kn a).2
          have CL := client_any w4 A 3 (by decide) (so1 kn a) m4.1
          rw [eT] at CL
          generalize ct (so1 kn a).R 3 = rv at CL
          replace CL := Lib.hid CL
          replace m4 := Lib.hid m4
          replace eV := Lib.hid eV
          clear FB eT m3
          go_wp2_with fail
          refine CL.out.mono ?_
          rintro e w5 ⟨rfl, b5⟩
          have m5 := Lib.hid (m4.out.below b5)
          clear b5 m4 CL
          have GE := get_any w5 A kn (so1 kn a).V (so1 kn a).T (so1 kn a).R m5.out.1
          rw [if_pos hkm, eV.out] at GE
          replace GE := Lib.hid GE
          go_wp2_with fail
          refine GE.out.mono ?_
          rintro e w6 ⟨rfl, rfl⟩
          go_wp2_with fail
          go_ret
          exact ⟨rfl, m5.out.2.2.1⟩


theorem lifted (os : Os) (started : os.Started) (H : Type) (enc : TypeId × Value → H) :
    ReturnsInHanded {} Try.checked os 7 .any (Rows.serviceOldSpec.pre6 enc Try.prog Try.f7 Rows.serviceOldRow.domain false) (Rows.serviceOldSpec.post enc Try.prog Try.f7 false true false false) := by
  refine returnsInHanded_of_change (C := Try.checked) own started (by kernel_rfl) Try.func7
    (ChangeSpec.witness6 (enc := enc) (C := Try.checked) false ⟨#[], #[.int .u32 0, .int .u32 0, .int .u8 0], []⟩ 8 (by kernel_rfl) (by kernel_rfl) (by kernel_rfl) (by kernel_rfl)) ?_
  intro W base args ds gs before hval0 hW hcnd _
  have hval : ∀ (j : Nat) t v, Try.f7.params[j]? = some t → args[j]? = some v → Value.okWide Try.prog W .any base t v := hval0
  have hW' := hW
  obtain ⟨p, q, hA0, hV, rfl, hfz, hnd⟩ := hW
  have hA : DataW.TrodAll enc Try.prog W 0 (fun _ => true) true Try.f7.params.toList args.toList ds p := hA0
  rw [Try.params7] at hA hval
  obtain ⟨v0, vs0, d0, ds0, p0, q0, hargs, rfl, rfl, h0, r0⟩ := trodAll_cons hA
  obtain ⟨v1, vs1, d1, ds1, p1, q1, rfl, rfl, rfl, h1, r1⟩ := trodAll_cons r0
  obtain ⟨v2, vs2, d2, ds2, p2, q2, rfl, rfl, rfl, h2, r2⟩ := trodAll_cons r1
  obtain ⟨rfl, rfl, rfl⟩ := trodAll_nil r2
  obtain rfl : args = #[v0, v1, v2] := by cases args; simp_all
  obtain ⟨rfl, rfl⟩ := trodVars_none hV
  obtain ⟨a0, rfl, rfl, rfl, w0⟩ := open_int Try.underlying29 (hval 0 29 v0 rfl rfl) h0
  have b0 : 0 ≤ a0 ∧ a0 ≤ 4294967295 := by simpa [Lit.wf, IntKind.min, IntKind.max, IntKind.signed, IntKind.bits] using w0
  obtain ⟨a1, rfl, rfl, rfl, w1⟩ := open_int Try.underlying29 (hval 1 29 v1 rfl rfl) h1
  have b1 : 0 ≤ a1 ∧ a1 ≤ 4294967295 := by simpa [Lit.wf, IntKind.min, IntKind.max, IntKind.signed, IntKind.bits] using w1
  obtain ⟨a2, rfl, rfl, rfl, w2⟩ := open_int Try.underlying5 (hval 2 5 v2 rfl rfl) h2
  have b2 : 0 ≤ a2 ∧ a2 ≤ 255 := by simpa [Lit.wf, IntKind.min, IntKind.max, IntKind.signed, IntKind.bits] using w2
  clear hA0 hval0
  refine (walk a0 a1 a2 W b0 b1 b2).mono fun e W' ⟨he, bel⟩ => ?_
  subst he
  exact ⟨_, rfl, _, _, _, [], _, [], hW', trodAll_mk1 (shut_bool Try.underlying4 _), (trodAll_cons_mk (shut_int Try.underlying29 w0) (trodAll_cons_mk (shut_int Try.underlying29 w1) (trodAll_cons_mk (shut_int Try.underlying5 w2) trodAll_mk0))), rfl, bel.frame _, fun h => by cases h⟩

theorem over : Rows.serviceOldRow.holds Try.pinned (OpenSpec.ofChange Rows.serviceOldSpec) :=
  OpenClaim.holds_of_wide 7 Try.f7 rfl rfl rfl rfl rfl rfl rfl ⟨rfl, rfl, rfl, rfl, rfl⟩ rfl rfl rfl rfl rfl (by kernel_rfl) Try.func7 (by kernel_rfl)
    (of_decide_eq_true (by kernel_rfl)) (by unfold Func.isWrapper; first | (rw [if_pos (by decide +kernel)]; kernel_rfl) | (rw [if_neg (by decide +kernel)]; exact ⟨rfl, rfl⟩))
    (fun os started H enc _ => lifted os started H enc)

theorem proved : Rows.ServiceOldSaid := over
#print axioms proved
end Go.Proofs.Ytphakceboohbhaa.serviceOld
