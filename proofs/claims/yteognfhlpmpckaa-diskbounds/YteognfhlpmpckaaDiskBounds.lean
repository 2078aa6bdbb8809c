/- For every number and either answer the law DiskBounds returns true: an area takes 40040 bytes, one more is refused. No condition. -/
import Derived.Test.YteognfhlpmpckaaRows
import Derived.Test.YteognfhlpmpckaaKnown
import Derived.WalkKit
import Derived.ProofKit
import Derived.OpenShut
import Derived.ShutString
import Derived.ChangeOld
import Derived.Below
import Derived.Lib.Hide
namespace Go.Proofs.Yteognfhlpmpckaa.diskBounds
open Go.ChangeShapes Go.WideShapes Go.ChangeAt Go.RowKit
set_option maxRecDepth 100000

theorem own : ownKnob Try.prog.godebug = none := by kernel_rfl
theorem laidOut : laidOutB Try.prog = true := by kernel_rfl

set_option maxHeartbeats 4000000 in
theorem walk (a0 : Int) (a1 : Bool) (w : World) (b0 : 0 ≤ a0 ∧ a0 ≤ 255) :
    Calls Try.prog 5 #[.int .u8 a0, .bool a1] w fun e w' => e = .returned (.bool true) ∧ Below w.heap.size w w' := by
  obtain ⟨n, rfl⟩ := Int.eq_ofNat_of_zero_le b0.1
  have hn : n ≤ 255 := by omega
  clear b0
  go_enter Try.func5, Try.ntmps5
  go_wp2_with fail
  refine (known_any w).mono ?_
  rintro e w1 ⟨rfl, k1⟩
  obtain ⟨B, hB⟩ : ∃ B, w1.heap.size = B := ⟨_, rfl⟩
  have HB := Lib.hid (show w.heap.size ≤ B by rw [← hB]; exact k1.size)
  go_wp2_with fail
  refine (new_any w1).mono ?_
  rintro e w2 ⟨rfl, h2, k2⟩
  rw [hB] at h2 ⊢
  have H2 := Lib.hid h2
  have K2 := Lib.hid (k1.trans k2 (fun _ _ h => h))
  clear h2 k2 k1 hB
  go_wp2_with fail
  obtain ⟨W, hW⟩ : ∃ W, W = w2.alloc (.cells #[.int .u8 7] 5) := ⟨_, rfl⟩
  have kW : Kept (fun _ => False) w2 W := by rw [hW]; exact (Kept.refl _ w2).alloc _
  have hX : Bytes W (some ⟨w2.heap.size, 0, none⟩) [7] := bytes_row (T := 5) (by rw [hW]; exact heap_alloc_new _ _)
  rw [← hW]
  refine (write_any W B _ 1 _ 1 [7] (H2.out.kept kW (fun _ _ h => h)) hX (by decide)).mono ?_
  rintro e w3 ⟨rfl, h3, k3⟩
  rw [show Dk.new.err 1 [7] = 0 by decide]
  rw [show Dk.new.write 1 [7] = ⟨[], [7], false, 0⟩ from rfl] at h3
  have H3 := Lib.hid h3
  have K3 := Lib.hid ((K2.out.trans kW (fun _ _ h => h)).up k3 HB.out)
  clear h3 k3 hX kW hW H2 K2
  cases a1 with
  | false =>
    skip
    obtain ⟨w5, m5, b5, k5⟩ := make_any w3 (40041 + n) (by omega)
    rw [show ((40041 + n : Nat) : Int) = 40041 + (n : Int) by omega] at m5
    have H5 := Lib.hid (H3.out.kept k5 (fun _ _ h => h))
    have K5 := Lib.hid (K3.out.trans k5 (fun _ _ h => h))
    clear b5 k5 H3 K3
    go_wp2_with fail
    refine (write_long w5 B _ 1 _ _ _ H5.out (by decide) (by omega)).mono ?_
    rintro e w6 ⟨rfl, h6, k6⟩
    have H6 := Lib.hid h6
    have K6 := Lib.hid (K5.out.up k6 HB.out)
    clear h6 k6 H5 K5 m5
    go_wp2_with fail
    refine (read_any w6 B _ 1 H6.out).mono ?_
    rintro e w7 ⟨ao, c, rfl, t7, b7⟩
    rw [show ((⟨[], [7], false, 0⟩ : Dk).area 1).length = 1 from rfl]
    have H7 := Lib.hid (H6.out.below b7)
    have K7 := Lib.hid (K6.out.upB b7)
    clear t7 b7 H6 K6
    go_wp2_with fail
    refine (armed_any w7 B _ H7.out).mono ?_
    rintro e w' ⟨rfl, rfl⟩
    rw [show (⟨[], [7], false, 0⟩ : Dk).armed = false from rfl]
    go_wp2_with fail
    refine (write_none w7 B _ 2 none 0 0 H7.out (by decide)).mono ?_
    rintro e w8 ⟨rfl, h8, k8⟩
    have H8 := Lib.hid h8
    have K8 := Lib.hid (K7.out.up k8 HB.out)
    obtain ⟨w9, m9, b9, k9⟩ := make_any w8 40040 (by omega)
    have H9 := Lib.hid (H8.out.kept k9 (fun _ _ h => h))
    have K9 := Lib.hid (K8.out.trans k9 (fun _ _ h => h))
    have m9 : (Instr.makeSlice 27 (.int .i64 40040) (.int .i64 40040)).run Try.prog w8 = .ok (.slice (some ⟨w8.heap.size, 0, none⟩) 40040 40040) w9 := m9
    obtain ⟨L, hL⟩ : ∃ L : List Int, L = List.replicate 40040 0 := ⟨_, rfl⟩
    have hlen : L.length = 40040 := by rw [hL, List.length_replicate]
    rw [← hL] at b9
    have B9 := Lib.hid b9
    clear h8 k8 H7 K7 b9 k9 H8 K8 hL
    have W := Lib.hid (write_any w9 B _ 1 (some ⟨w8.heap.size, 0, none⟩) 40040 L H9.out B9.out (by omega))
    rw [hlen] at W
    have e1 : (⟨[], [7], false, 0⟩ : Dk).err 1 L = 0 := by unfold Dk.err; rw [if_pos (by decide), hlen, if_neg (by decide)]; rfl
    have e2 : ((⟨[], [7], false, 0⟩ : Dk).write 1 L).area 1 = L := by unfold Dk.write; rw [if_pos (by decide), hlen, if_neg (by decide)]; rfl
    rw [e1] at W
    generalize (⟨[], [7], false, 0⟩ : Dk).write 1 L = d9 at *
    have hl2 : (d9.area 1).length = 40040 := by rw [e2]; exact hlen
    have HL2 := Lib.hid hl2
    clear e1 e2 hlen hl2
    go_wp2_with fail
    refine W.out.mono ?_
    rintro e w10 ⟨rfl, h10, k10⟩
    have H10 := Lib.hid h10
    have K10 := Lib.hid (K9.out.up k10 HB.out)
    clear h10 k10 H9 K9 W m9 B9
    go_wp2_with fail
    refine (read_any w10 B _ 1 H10.out).mono ?_
    rintro e w11 ⟨ao, c, rfl, t11, b11⟩
    rw [HL2.out]
    have K11 := Lib.hid (K10.out.upB b11)
    clear t11 b11 H10 K10
    go_wp2_with fail
    go_ret
    exact ⟨rfl, K11.out.below (Nat.le_refl _) (fun _ h => h.elim)⟩
  | true =>
    go_wp2_with fail
    refine (arm_any _ B _ 3 H3.out (by decide)).mono ?_
    rintro e w4 ⟨rfl, h4, k4⟩
    rw [show (⟨[], [7], false, 0⟩ : Dk).arm 3 = ⟨[], [7], true, 3⟩ from rfl] at h4
    have H4 := Lib.hid h4
    have K4 := Lib.hid (K3.out.up k4 HB.out)
    clear h4 k4 H3 K3
    have H3 := H4
    have K3 := K4
    clear H4 K4
    generalize w4 = w3 at *
    obtain ⟨w5, m5, b5, k5⟩ := make_any w3 (40041 + n) (by omega)
    rw [show ((40041 + n : Nat) : Int) = 40041 + (n : Int) by omega] at m5
    have H5 := Lib.hid (H3.out.kept k5 (fun _ _ h => h))
    have K5 := Lib.hid (K3.out.trans k5 (fun _ _ h => h))
    clear b5 k5 H3 K3
    go_wp2_with fail
    refine (write_long w5 B _ 1 _ _ _ H5.out (by decide) (by omega)).mono ?_
    rintro e w6 ⟨rfl, h6, k6⟩
    have H6 := Lib.hid h6
    have K6 := Lib.hid (K5.out.up k6 HB.out)
    clear h6 k6 H5 K5 m5
    go_wp2_with fail
    refine (read_any w6 B _ 1 H6.out).mono ?_
    rintro e w7 ⟨ao, c, rfl, t7, b7⟩
    rw [show ((⟨[], [7], true, 3⟩ : Dk).area 1).length = 1 from rfl]
    have H7 := Lib.hid (H6.out.below b7)
    have K7 := Lib.hid (K6.out.upB b7)
    clear t7 b7 H6 K6
    go_wp2_with fail
    refine (armed_any w7 B _ H7.out).mono ?_
    rintro e w' ⟨rfl, rfl⟩
    rw [show (⟨[], [7], true, 3⟩ : Dk).armed = true from rfl]
    go_wp2_with fail
    refine (write_none w7 B _ 2 none 0 0 H7.out (by decide)).mono ?_
    rintro e w8 ⟨rfl, h8, k8⟩
    have H8 := Lib.hid h8
    have K8 := Lib.hid (K7.out.up k8 HB.out)
    obtain ⟨w9, m9, b9, k9⟩ := make_any w8 40040 (by omega)
    have H9 := Lib.hid (H8.out.kept k9 (fun _ _ h => h))
    have K9 := Lib.hid (K8.out.trans k9 (fun _ _ h => h))
    have m9 : (Instr.makeSlice 27 (.int .i64 40040) (.int .i64 40040)).run Try.prog w8 = .ok (.slice (some ⟨w8.heap.size, 0, none⟩) 40040 40040) w9 := m9
    obtain ⟨L, hL⟩ : ∃ L : List Int, L = List.replicate 40040 0 := ⟨_, rfl⟩
    have hlen : L.length = 40040 := by rw [hL, List.length_replicate]
    rw [← hL] at b9
    have B9 := Lib.hid b9
    clear h8 k8 H7 K7 b9 k9 H8 K8 hL
    have W := Lib.hid (write_any w9 B _ 1 (some ⟨w8.heap.size, 0, none⟩) 40040 L H9.out B9.out (by omega))
    rw [hlen] at W
    have e1 : (⟨[], [7], true, 3⟩ : Dk).err 1 L = 70 := by unfold Dk.err; rw [if_pos (by decide), hlen, if_neg (by decide)]; rfl
    have e2 : ((⟨[], [7], true, 3⟩ : Dk).write 1 L).area 1 = L.take 3 := by unfold Dk.write; rw [if_pos (by decide), hlen, if_neg (by decide)]; rfl
    rw [e1] at W
    generalize (⟨[], [7], true, 3⟩ : Dk).write 1 L = d9 at *
    have hl2 : (d9.area 1).length = 3 := by rw [e2]; rw [List.length_take, hlen]; rfl
    have HL2 := Lib.hid hl2
    clear e1 e2 hlen hl2
    go_wp2_with fail
    refine W.out.mono ?_
    rintro e w10 ⟨rfl, h10, k10⟩
    have H10 := Lib.hid h10
    have K10 := Lib.hid (K9.out.up k10 HB.out)
    clear h10 k10 H9 K9 W m9 B9
    go_wp2_with fail
    refine (read_any w10 B _ 1 H10.out).mono ?_
    rintro e w11 ⟨ao, c, rfl, t11, b11⟩
    rw [HL2.out]
    have K11 := Lib.hid (K10.out.upB b11)
    clear t11 b11 H10 K10
    go_wp2_with fail
    go_ret
    exact ⟨rfl, K11.out.below (Nat.le_refl _) (fun _ h => h.elim)⟩

theorem lifted (os : Os) (started : os.Started) (H : Type) (enc : TypeId × Value → H) :
    ReturnsInHanded {} Try.checked os 5 .any (Rows.diskBoundsSpec.pre6 enc Try.prog Try.f5 Rows.diskBoundsRow.domain false) (Rows.diskBoundsSpec.post enc Try.prog Try.f5 false true false false) := by
  refine returnsInHanded_of_change (C := Try.checked) own started (by kernel_rfl) Try.func5
    (ChangeSpec.witness6 (enc := enc) (C := Try.checked) false ⟨#[], #[.int .u8 0, .bool false], []⟩ 8 (by kernel_rfl) (by kernel_rfl) (by kernel_rfl) (by kernel_rfl)) ?_
  intro W base args ds gs before hval0 hW hcnd _
  have hval : ∀ (j : Nat) t v, Try.f5.params[j]? = some t → args[j]? = some v → Value.okWide Try.prog W .any base t v := hval0
  have hW' := hW
  obtain ⟨p, q, hA0, hV, rfl, hfz, hnd⟩ := hW
  have hA : DataW.TrodAll enc Try.prog W 0 (fun _ => true) true Try.f5.params.toList args.toList ds p := hA0
  rw [Try.params5] at hA hval
  obtain ⟨v0, vs0, d0, ds0, p0, q0, hargs, rfl, rfl, h0, r0⟩ := trodAll_cons hA
  obtain ⟨v1, vs1, d1, ds1, p1, q1, rfl, rfl, rfl, h1, r1⟩ := trodAll_cons r0
  obtain ⟨rfl, rfl, rfl⟩ := trodAll_nil r1
  obtain rfl : args = #[v0, v1] := by cases args; simp_all
  obtain ⟨rfl, rfl⟩ := trodVars_none hV
  obtain ⟨a0, rfl, rfl, rfl, w0⟩ := open_int Try.underlying5 (hval 0 5 v0 rfl rfl) h0
  have b0 : 0 ≤ a0 ∧ a0 ≤ 255 := by simpa [Lit.wf, IntKind.min, IntKind.max, IntKind.signed, IntKind.bits] using w0
  obtain ⟨a1, rfl, rfl, rfl⟩ := open_bool Try.underlying4 (hval 1 4 v1 rfl rfl) h1
  clear hA0 hval0
  refine (walk a0 a1 W b0).mono fun e W' ⟨he, bel⟩ => ?_
  subst he
  exact ⟨_, rfl, _, _, _, [], _, [], hW', trodAll_mk1 (shut_bool Try.underlying4 _), (trodAll_cons_mk (shut_int Try.underlying5 w0) (trodAll_cons_mk (shut_bool Try.underlying4 _) trodAll_mk0)), rfl, bel.frame _, fun h => by cases h⟩

theorem over : Rows.diskBoundsRow.holds Try.pinned (OpenSpec.ofChange Rows.diskBoundsSpec) :=
  OpenClaim.holds_of_wide 5 Try.f5 rfl rfl rfl rfl rfl rfl rfl ⟨rfl, rfl, rfl, rfl, rfl⟩ rfl rfl rfl rfl rfl (by kernel_rfl) Try.func5 (by kernel_rfl)
    (of_decide_eq_true (by kernel_rfl)) (by unfold Func.isWrapper; first | (rw [if_pos (by decide +kernel)]; kernel_rfl) | (rw [if_neg (by decide +kernel)]; exact ⟨rfl, rfl⟩))
    (fun os started H enc _ => lifted os started H enc)

theorem proved : Rows.DiskBoundsSaid := over
#print axioms proved
end Go.Proofs.Yteognfhlpmpckaa.diskBounds
