/- For every number of steps and every view the law CoproCounts returns true. No condition. -/
import Derived.Test.YtmkfcfedadkkmaaRows
import Derived.Test.YtmkfcfedadkkmaaNew
import Derived.WalkKit
import Derived.ProofKit
import Derived.OpenShut
import Derived.ShutString
import Derived.ChangeOld
import Derived.Below
namespace Go.Proofs.Ytmkfcfedadkkmaa.coproCounts
open Go.ChangeShapes Go.WideShapes Go.ChangeAt Go.RowKit
open Go.ChangeMaps (open_string shut_string)
set_option linter.unusedVariables false      -- a walk need not use every 'w<i>' (that an integer argument fits its kind)

theorem own : ownKnob Try.prog.godebug = none := by kernel_rfl

set_option maxRecDepth 100000
def cc (j : Nat) : Cp := ⟨1, if j < 200 then j else 200, 0, fun _ => 1, decide (201 ≤ j)⟩
theorem cc_ok (j : Nat) (h : 1 ≤ j) : (cc j).Ok := ⟨(by decide : (0 : Int) ≤ 1 ∧ (1 : Int) ≤ 255), (by simp only [cc]; split <;> omega), (by decide : (0 : Int) ≤ 0 ∧ (0 : Int) ≤ 1048576), fun _ => (by decide : (1 : Int) ≤ 1 ∧ (1 : Int) ≤ 200), fun h => (by simp only [cc, decide_eq_true_eq] at h ⊢; rw [if_neg (by omega)])⟩
theorem cc_next (j : Nat) : (cc j).next = cc (j + 1) := by
  unfold Cp.next cc
  by_cases h : j < 200
  · by_cases h2 : j + 1 < 200
    · simp [h, h2, show ¬ ((j : Int) = 200) from by omega, show ¬ 200 ≤ j from by omega, show ¬ 201 ≤ j from by omega]
    · obtain rfl : j = 199 := by omega
      rfl
  · simp [h, show ¬ (j + 1 < 200) from by omega, show 200 ≤ j from by omega]
theorem cc_e (j : Nat) : (cc j).e = if (j : Int) < 200 then (j : Int) else 200 := by
  simp only [cc]
  split <;> split <;> omega
theorem next_cc (w : World) (B j : Nat) (hj : 1 ≤ j) (h : At 48 w B (cc j)) : Calls Try.prog 10 #[.pointer (some ⟨B, 0, none⟩)] w fun e w' => e = .returned (.int .i64 (if (j : Int) < 200 then 0 else 50)) ∧ At 48 w' B (cc (j + 1)) ∧ Kept (fun k => k = B) w w' := by
  have h := next_any w B (cc j) h (cc_ok j hj)
  rw [cc_next, cc_e] at h
  have e : (if (if (j : Int) < 200 then (j : Int) else 200) = 200 then (50 : Int) else 0) = if (j : Int) < 200 then 0 else 50 := by split <;> split <;> omega
  rw [e] at h
  exact h
theorem halt_lo (w : World) (B j : Nat) (h : At 48 w B (cc j)) (hj : j < 201) : Calls Try.prog 18 #[.pointer (some ⟨B, 0, none⟩)] w fun e w' => e = .returned (.bool false) ∧ w = w' := by
  have h := halted_any w B (cc j) h
  rw [show (cc j).h = false from by simp [cc]; omega] at h
  exact h
theorem halt_hi (w : World) (B j : Nat) (h : At 48 w B (cc j)) (hj : 201 ≤ j) : Calls Try.prog 18 #[.pointer (some ⟨B, 0, none⟩)] w fun e w' => e = .returned (.bool true) ∧ w = w' := by
  have h := halted_any w B (cc j) h
  rw [show (cc j).h = true from by simp [cc]; omega] at h
  exact h
theorem epoch_lo (w : World) (B j : Nat) (h : At 48 w B (cc j)) (hj : j < 200) : Calls Try.prog 12 #[.pointer (some ⟨B, 0, none⟩)] w fun e w' => e = .returned (.int .u8 j) ∧ w = w' := by
  have h := epoch_any w B (cc j) h
  rw [show (cc j).e = j from by simp [cc, hj]] at h
  exact h
theorem epoch_hi (w : World) (B j : Nat) (h : At 48 w B (cc j)) (hj : 200 ≤ j) : Calls Try.prog 12 #[.pointer (some ⟨B, 0, none⟩)] w fun e w' => e = .returned (.int .u8 200) ∧ w = w' := by
  have h := epoch_any w B (cc j) h
  rw [show (cc j).e = 200 from by simp [cc, show ¬ j < 200 from by omega]] at h
  exact h
theorem raise_lo (w : World) (B j : Nat) (x : Int) (hj : 1 ≤ j) (hj2 : j < 201) (hx : 0 ≤ x ∧ x ≤ 4294967295) (h : At 48 w B (cc j)) : Calls Try.prog 14 #[.pointer (some ⟨B, 0, none⟩), .int .u32 x] w fun e w' => e = .returned (.tuple #[]) ∧ At 48 w' B { cc j with v := min x 1048576 } ∧ Kept (fun k => k = B) w w' := by
  have h := raise_any w B (cc j) x h (cc_ok j hj) hx
  unfold Cp.raise at h
  rw [if_neg (by simp [cc]; omega), show (cc j).v = 0 from rfl, show max 0 (min x 1048576) = min x 1048576 from by omega] at h
  exact h
theorem raise_hi (w : World) (B j : Nat) (x : Int) (hj2 : 201 ≤ j) (hx : 0 ≤ x ∧ x ≤ 4294967295) (h : At 48 w B (cc j)) : Calls Try.prog 14 #[.pointer (some ⟨B, 0, none⟩), .int .u32 x] w fun e w' => e = .returned (.tuple #[]) ∧ At 48 w' B (cc j) ∧ Kept (fun k => k = B) w w' := by
  have h := raise_any w B (cc j) x h (cc_ok j (by omega)) hx
  unfold Cp.raise at h
  rw [show (cc j).h = true from by simp [cc]; omega] at h
  simpa using h
/-- not halted: behind a view and an epoch of the third -/
def dd (j : Nat) (v : Int) : Cp := { cc j with v := v }
def ee (j : Nat) (v : Int) : Cp := { cc j with v := v, p := fun k => if k = 2 then 9 else 1 }
theorem dd_ok (j : Nat) (h : 1 ≤ j) (v : Int) (hv : 0 ≤ v ∧ v ≤ 1048576) : (dd j v).Ok := ⟨(cc_ok j h).id, (cc_ok j h).e, hv, (cc_ok j h).p, (cc_ok j h).h⟩
theorem meet_lo (w : World) (B j : Nat) (v : Int) (hj : 1 ≤ j) (hj2 : j < 201) (hv : 0 ≤ v ∧ v ≤ 1048576) (h : At 48 w B (dd j v)) : Calls Try.prog 16 #[.pointer (some ⟨B, 0, none⟩), .int .u8 2, .int .u8 9] w fun e w' => e = .returned (.bool true) ∧ At 48 w' B (ee j v) ∧ Kept (fun k => k = B) w w' := by
  have hh : (dd j v).h = false := by simp [dd, cc]; omega
  have hc : (dd j v).canMeet 2 9 = true := by unfold Cp.canMeet; rw [hh]; rfl
  have h := meet_any w B (dd j v) 2 9 h (dd_ok j hj v hv) (by decide) (by decide)
  unfold Cp.meet at h
  rw [hc, if_pos rfl] at h
  exact h
theorem meet_hi (w : World) (B j : Nat) (hj2 : 201 ≤ j) (h : At 48 w B (cc j)) : Calls Try.prog 16 #[.pointer (some ⟨B, 0, none⟩), .int .u8 2, .int .u8 9] w fun e w' => e = .returned (.bool false) ∧ At 48 w' B (cc j) ∧ Kept (fun k => k = B) w w' := by
  have hh : (cc j).h = true := by simp [cc]; omega
  have hc : (cc j).canMeet 2 9 = false := by unfold Cp.canMeet; rw [hh]; rfl
  have h := meet_any w B (cc j) 2 9 h (cc_ok j (by omega)) (by decide) (by decide)
  unfold Cp.meet at h
  rw [hc, if_neg (by decide)] at h
  exact h
theorem halt_ee (w : World) (B j : Nat) (v : Int) (h : At 48 w B (ee j v)) (hj : j < 201) : Calls Try.prog 18 #[.pointer (some ⟨B, 0, none⟩)] w fun e w' => e = .returned (.bool false) ∧ w = w' := by
  have h := halted_any w B (ee j v) h
  rw [show (ee j v).h = false from by simp [ee, cc]; omega] at h
  exact h
theorem view_ee (w : World) (B j : Nat) (v : Int) (h : At 48 w B (ee j v)) : Calls Try.prog 13 #[.pointer (some ⟨B, 0, none⟩)] w fun e w' => e = .returned (.int .u32 v) ∧ w = w' := view_any w B (ee j v) h
theorem view_cc (w : World) (B j : Nat) (h : At 48 w B (cc j)) : Calls Try.prog 13 #[.pointer (some ⟨B, 0, none⟩)] w fun e w' => e = .returned (.int .u32 0) ∧ w = w' := view_any w B (cc j) h
theorem peer_ee (w : World) (B j : Nat) (v : Int) (h : At 48 w B (ee j v)) : Calls Try.prog 20 #[.pointer (some ⟨B, 0, none⟩), .int .u8 2] w fun e w' => e = .returned (.int .u8 9) ∧ w = w' := peer_any w B (ee j v) 2 h (by decide)
theorem peer_cc (w : World) (B j : Nat) (h : At 48 w B (cc j)) : Calls Try.prog 20 #[.pointer (some ⟨B, 0, none⟩), .int .u8 2] w fun e w' => e = .returned (.int .u8 1) ∧ w = w' := peer_any w B (cc j) 2 h (by decide)
set_option maxHeartbeats 1000000 in
theorem walk (a0 : Int) (a1 : Int) (w0 : (Lit.int .u8 a0).wf = true) (w1 : (Lit.int .u32 a1).wf = true) (w : World) :
    Calls Try.prog 5 #[.int .u8 a0, .int .u32 a1] w fun e w' => e = .returned (.bool true) ∧ Below w.heap.size w w' := by
  have hx : 0 ≤ a0 ∧ a0 ≤ 255 := by simpa [Lit.wf, IntKind.min, IntKind.max, IntKind.signed, IntKind.bits] using w0
  have hy : 0 ≤ a1 ∧ a1 ≤ 4294967295 := by simpa [Lit.wf, IntKind.min, IntKind.max, IntKind.signed, IntKind.bits] using w1
  clear w0 w1
  obtain ⟨n, rfl⟩ := Int.eq_ofNat_of_zero_le hx.1
  go_enter Try.func5, Try.ntmps5
  go_wp2_with fail
  refine Calls.mono (known_any w) ?_
  rintro e w1 ⟨rfl, k1⟩
  have K1 := Lib.hid k1
  obtain ⟨B, hB⟩ : ∃ B, w1.heap.size = B := ⟨_, rfl⟩
  have HB := Lib.hid hB
  have HLE := Lib.hid (show w.heap.size ≤ B by rw [← hB]; exact k1.size)
  clear k1 hB
  go_wp2_with fail
  refine Calls.mono (new_any w1 1 B HB.out) ?_
  rintro e w2 ⟨rfl, h2, k2⟩
  have H2 := Lib.hid h2
  have K2 := Lib.hid (K1.out.trans k2 (fun _ _ h => h))
  clear h2 k2 K1 HB
  go_wp2_with fail
  go_loopw [6, 7] (fun vi _ wr => ∃ (j : Nat), j ≤ n ∧ vi = .int .i64 ((j : Int) + 1) ∧ Hid (At 48 wr B (cc (j + 1))) ∧ Hid (Kept (fun _ => False) w wr)) (fun i _ _ => n + 1 - (intOf i).toNat)
  case atStart => exact ⟨0, by omega, rfl, H2, K2⟩
  case round =>
    obtain ⟨j, hj, rfl, HA, HK⟩ := hrel
    clear H2 K2
    by_cases hlt : j < n
    · have C := Lib.hid (next_cc _ B (j + 1) (by omega) HA.out)
      by_cases h2 : j + 1 < 200
      · rw [if_pos (by omega)] at C
        go_wp2_with fail
        refine Calls.mono C.out ?_
        rintro e w3 ⟨rfl, h3, k3⟩
        have K3 := Lib.hid (HK.out.up k3 HLE.out)
        have H3 := Lib.hid h3
        clear C k3 HK HA h3
        go_wp2_with fail
        refine Calls.mono (halt_lo _ B _ H3.out (by omega)) ?_
        rintro e w' ⟨rfl, rfl⟩
        go_wp2_with fail
        by_cases h3 : j + 1 + 1 < 200
        · refine Calls.mono (epoch_lo _ B _ H3.out h3) ?_
          rintro e w' ⟨rfl, rfl⟩
          have ec : (((j + 1 + 1 : Nat) : Int)) = (j : Int) + 1 + 1 := by omega
          rw [ec]
          clear ec
          go_wp2_with fail
          go_round
          case rel => exact ⟨j + 1, by omega, by go_num, H3, K3⟩
          case measure => simp [intOf]; omega
        · refine Calls.mono (epoch_hi _ B _ H3.out (by omega)) ?_
          rintro e w' ⟨rfl, rfl⟩
          obtain rfl : j = 198 := by omega
          go_wp2_with fail
          go_round
          case rel => exact ⟨199, by omega, by go_num, H3, K3⟩
          case measure => simp [intOf]; omega
      · rw [if_neg (by omega)] at C
        go_wp2_with fail
        refine Calls.mono C.out ?_
        rintro e w3 ⟨rfl, h3, k3⟩
        have K3 := Lib.hid (HK.out.up k3 HLE.out)
        have H3 := Lib.hid h3
        clear C k3 HK HA h3
        go_wp2_with fail
        refine Calls.mono (halt_hi _ B _ H3.out (by omega)) ?_
        rintro e w' ⟨rfl, rfl⟩
        go_wp2_with fail
        refine Calls.mono (epoch_hi _ B _ H3.out (by omega)) ?_
        rintro e w' ⟨rfl, rfl⟩
        go_wp2_with fail
        go_round
        case rel => exact ⟨j + 1, by omega, by go_num, H3, K3⟩
        case measure => simp [intOf]; omega
    · obtain rfl : j = n := by omega
      by_cases h2 : j + 1 < 201
      · go_wp2_with fail
        refine Calls.mono (raise_lo _ B (j + 1) a1 (by omega) h2 hy HA.out) ?_
        rintro e w3 ⟨rfl, h3, k3⟩
        have K3 := Lib.hid (HK.out.up k3 HLE.out)
        have H3 := Lib.hid h3
        clear k3 HK HA h3
        go_wp2_with fail
        refine Calls.mono (meet_lo _ B (j + 1) _ (by omega) h2 (by omega) H3.out) ?_
        rintro e w4 ⟨rfl, h4, k4⟩
        have K4 := Lib.hid (K3.out.up k4 HLE.out)
        have H4 := Lib.hid h4
        clear k4 K3 H3 h4
        go_wp2_with fail
        refine Calls.mono (halt_ee _ B (j + 1) _ H4.out h2) ?_
        rintro e w' ⟨rfl, rfl⟩
        go_wp2_with fail
        refine Calls.mono (view_ee _ B (j + 1) _ H4.out) ?_
        rintro e w' ⟨rfl, rfl⟩
        have PC := Lib.hid (peer_ee _ B (j + 1) _ H4.out)
        clear H4
        have hcs : (a1 ≤ 1048576 ∧ min a1 1048576 = a1) ∨ (1048576 < a1 ∧ min a1 1048576 = 1048576) := by omega
        generalize min a1 1048576 = y at *
        rcases hcs with ⟨q1, rfl⟩ | ⟨q1, rfl⟩
        all_goals
          go_wp2_with fail
          refine Calls.mono PC.out ?_
          rintro e w' ⟨rfl, rfl⟩
          go_wp2_with fail
          go_ret
          exact ⟨rfl, K4.out.below (Nat.le_refl _) (fun _ h => h.elim)⟩
      · go_wp2_with fail
        refine Calls.mono (raise_hi _ B (j + 1) a1 (by omega) hy HA.out) ?_
        rintro e w3 ⟨rfl, h3, k3⟩
        have K3 := Lib.hid (HK.out.up k3 HLE.out)
        have H3 := Lib.hid h3
        clear k3 HK HA h3
        go_wp2_with fail
        refine Calls.mono (meet_hi _ B (j + 1) (by omega) H3.out) ?_
        rintro e w4 ⟨rfl, h4, k4⟩
        have K4 := Lib.hid (K3.out.up k4 HLE.out)
        have H4 := Lib.hid h4
        clear k4 K3 H3 h4
        go_wp2_with fail
        refine Calls.mono (halt_hi _ B (j + 1) H4.out (by omega)) ?_
        rintro e w' ⟨rfl, rfl⟩
        go_wp2_with fail
        refine Calls.mono (view_cc _ B (j + 1) H4.out) ?_
        rintro e w' ⟨rfl, rfl⟩
        go_wp2_with fail
        refine Calls.mono (peer_cc _ B (j + 1) H4.out) ?_
        rintro e w' ⟨rfl, rfl⟩
        go_wp2_with fail
        go_ret
        exact ⟨rfl, K4.out.below (Nat.le_refl _) (fun _ h => h.elim)⟩

set_option maxRecDepth 100000 in
theorem lifted (os : Os) (started : os.Started) (H : Type) (enc : TypeId × Value → H) :
    ReturnsInHanded {} Try.checked os 5 .any (Rows.coproCountsSpec.pre6 enc Try.prog Try.f5 Rows.coproCountsRow.domain false) (Rows.coproCountsSpec.post enc Try.prog Try.f5 false true false false) := by
  refine returnsInHanded_of_change (C := Try.checked) own started (by kernel_rfl) Try.func5
    (ChangeSpec.witness6 (enc := enc) (C := Try.checked) false ⟨#[], #[.int .u8 0, .int .u32 0], []⟩ 8 (by kernel_rfl) (by kernel_rfl) (by kernel_rfl) (by kernel_rfl)) ?_
  intro W base args ds gs before hval0 hW hcnd _
  have hval : ∀ (j : Nat) t v, Try.f5.params[j]? = some t → args[j]? = some v → Value.okWide Try.prog W .any base t v := hval0
  have hW' := hW
  obtain ⟨p, q, hA0, hV, rfl, hfz, hnd⟩ := hW
  have hA : DataW.TrodAll enc Try.prog W 0 (fun _ => true) true Try.f5.params.toList args.toList ds p := hA0
  rw [Try.params5] at hA hval
  obtain ⟨v0, vs0, d0, ds0, p0, q0, hargs, rfl, rfl, h0, r0⟩ := trodAll_cons hA
  obtain ⟨v1, vs1, d1, ds1, p1, q1, rfl, rfl, rfl, h1, r1⟩ := trodAll_cons r0
  obtain ⟨rfl, rfl, rfl⟩ := trodAll_nil r1
  obtain rfl : args = #[v0, v1] := by cases args; simp_all
  obtain ⟨rfl, rfl⟩ := trodVars_none hV
  obtain ⟨a0, rfl, rfl, rfl, w0⟩ := open_int Try.underlying5 (hval 0 5 v0 rfl rfl) h0
  obtain ⟨a1, rfl, rfl, rfl, w1⟩ := open_int Try.underlying30 (hval 1 30 v1 rfl rfl) h1
  clear hA0 hval0
  simp only [List.append_nil] at hW'
  refine (walk a0 a1 w0 w1 W).mono fun e W' ⟨he, bel⟩ => ?_
  subst he
  exact ⟨_, rfl, _, _, _, [], _, [], hW', trodAll_mk1 (shut_bool Try.underlying4 _), (trodAll_cons_mk (shut_int Try.underlying5 w0) (trodAll_cons_mk (shut_int Try.underlying30 w1) trodAll_mk0)), rfl, bel.frame _, fun h => by cases h⟩

theorem over : Rows.coproCountsRow.holds Try.pinned (OpenSpec.ofChange Rows.coproCountsSpec) :=
  OpenClaim.holds_of_wide 5 Try.f5 rfl rfl rfl rfl rfl rfl rfl ⟨rfl, rfl, rfl, rfl, rfl⟩ rfl rfl rfl rfl rfl (by kernel_rfl) Try.func5 (by kernel_rfl)
    (of_decide_eq_true (by kernel_rfl)) (by unfold Func.isWrapper; first | (rw [if_pos (by decide +kernel)]; kernel_rfl) | (rw [if_neg (by decide +kernel)]; exact ⟨rfl, rfl⟩))
    (fun os started H enc _ => lifted os started H enc)

theorem proved : Rows.CoproCountsSaid :=
  over
#print axioms proved
end Go.Proofs.Ytmkfcfedadkkmaa.coproCounts
