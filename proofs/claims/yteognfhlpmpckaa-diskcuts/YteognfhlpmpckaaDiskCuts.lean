/- For every two rows of bytes, every place at which the power cuts a write off and either area the law DiskCuts returns true. No condition. -/
import Derived.Test.YteognfhlpmpckaaRows
import Derived.Test.YteognfhlpmpckaaCut1
import Derived.WalkKit
import Derived.ProofKit
import Derived.OpenShut
import Derived.ShutString
import Derived.ChangeOld
import Derived.Below
import Derived.Deep.Cut
import Derived.Deep.RegionWith
import Derived.Lib.Hide
namespace Go.Proofs.Yteognfhlpmpckaa.diskCuts
open Go.ChangeShapes Go.WideShapes Go.ChangeAt Go.RowKit
set_option maxRecDepth 100000

theorem own : ownKnob Try.prog.godebug = none := by kernel_rfl
theorem laidOut : laidOutB Try.prog = true := by kernel_rfl

set_option maxHeartbeats 1000000 in
theorem long0 (p0 : Option Addr) (m0 c0 : Nat) (p1 : Option Addr) (m1 c1 : Nat) (n : Nat) (fl : Bool) (w : World) (h0 : 400 < m0) :
    Calls Try.prog 4 #[.slice p0 m0 c0, .slice p1 m1 c1, .int .u16 (n : Int), .bool fl] w fun e w' => e = .returned (.bool true) ∧ Below w.heap.size w w' := by
  have hm0 : decide (400 < (m0 : Int)) = true := by rw [decide_eq_true_eq]; omega
  clear h0
  go_enter Try.func4, Try.ntmps4
  go_wp2_with fail
  refine (known_any w).mono ?_
  rintro e w1 ⟨rfl, k1⟩
  have K1 := Lib.hid k1
  clear k1
  go_wp2_with fail
  go_ret
  exact ⟨rfl, K1.out.below (Nat.le_refl _) (fun _ h => h.elim)⟩

set_option maxHeartbeats 1000000 in
theorem long1 (p0 : Option Addr) (m0 c0 : Nat) (p1 : Option Addr) (m1 c1 : Nat) (n : Nat) (fl : Bool) (w : World) (h0 : m0 ≤ 400) (h1 : 400 < m1) :
    Calls Try.prog 4 #[.slice p0 m0 c0, .slice p1 m1 c1, .int .u16 (n : Int), .bool fl] w fun e w' => e = .returned (.bool true) ∧ Below w.heap.size w w' := by
  have hm0 : decide (400 < (m0 : Int)) = false := by rw [decide_eq_false_iff_not]; omega
  have hm1 : decide (400 < (m1 : Int)) = true := by rw [decide_eq_true_eq]; omega
  clear h0 h1
  go_enter Try.func4, Try.ntmps4
  go_wp2_with fail
  refine (known_any w).mono ?_
  rintro e w1 ⟨rfl, k1⟩
  have K1 := Lib.hid k1
  clear k1
  go_wp2_with fail
  go_ret
  exact ⟨rfl, K1.out.below (Nat.le_refl _) (fun _ h => h.elim)⟩

theorem walk (p0 : Option Addr) (a : List Int) (c0 : Nat) (p1 : Option Addr) (b : List Int) (c1 : Nat) (at_ : Int) (fl : Bool) (w : World) (hb0 : Bytes w p0 a) (_ : ∀ y ∈ a, isByte y) (hc0 : a.length ≤ c0) (hn0 : p0 = none → c0 = 0)
    (hb1 : Bytes w p1 b) (_ : ∀ y ∈ b, isByte y) (hc1 : b.length ≤ c1) (hn1 : p1 = none → c1 = 0) (b2 : 0 ≤ at_ ∧ at_ ≤ 65535) :
    Calls Try.prog 4 #[.slice p0 a.length c0, .slice p1 b.length c1, .int .u16 at_, .bool fl] w fun e w' => e = .returned (.bool true) ∧ Below w.heap.size w w' := by
  obtain ⟨n, rfl⟩ := Int.eq_ofNat_of_zero_le b2.1
  have hn0' : p0 = none → a = [] := fun h => List.eq_nil_of_length_eq_zero (by have := hn0 h; omega)
  have hn1' : p1 = none → b = [] := fun h => List.eq_nil_of_length_eq_zero (by have := hn1 h; omega)
  by_cases ha : a.length ≤ 400
  · by_cases hb : b.length ≤ 400
    · by_cases hq : (b.length : Int) < n
      · cases fl with
        | false => exact core0g p0 a c0 p1 b c1 n w hb0 hc0 hn0' hb1 hc1 hn1' (by omega) ha hb hq
        | true => exact core1g p0 a c0 p1 b c1 n w hb0 hc0 hn0' hb1 hc1 hn1' (by omega) ha hb hq
      · cases fl with
        | false => exact core0b p0 a c0 p1 b c1 n w hb0 hc0 hn0' hb1 hc1 hn1' (by omega) ha hb hq
        | true => exact core1b p0 a c0 p1 b c1 n w hb0 hc0 hn0' hb1 hc1 hn1' (by omega) ha hb hq
    · exact long1 p0 a.length c0 p1 b.length c1 n fl w (by omega) (by omega)
  · exact long0 p0 a.length c0 p1 b.length c1 n fl w (by omega)


theorem lifted (os : Os) (started : os.Started) (H : Type) (enc : TypeId × Value → H) :
    ReturnsInHanded {} Try.checked os 4 .any (Rows.diskCutsSpec.pre6 enc Try.prog Try.f4 Rows.diskCutsRow.domain false) (Rows.diskCutsSpec.post enc Try.prog Try.f4 false true false false) := by
  refine returnsInHanded_of_change (C := Try.checked) own started (by kernel_rfl) Try.func4
    (ChangeSpec.witness6 (enc := enc) (C := Try.checked) false ⟨#[], #[.slice none 0 0, .slice none 0 0, .int .u16 0, .bool false], []⟩ 8 (by kernel_rfl) (by kernel_rfl) (by kernel_rfl) (by kernel_rfl)) ?_
  intro W base args ds gs before hval0 hW hcnd _
  have hval : ∀ (j : Nat) t v, Try.f4.params[j]? = some t → args[j]? = some v → Value.okWide Try.prog W .any base t v := hval0
  have hW' := hW
  obtain ⟨p, q, hA0, hV, rfl, hfz, hnd⟩ := hW
  have hA : DataW.TrodAll enc Try.prog W 0 (fun _ => true) true Try.f4.params.toList args.toList ds p := hA0
  rw [Try.params4] at hA hval
  obtain ⟨v0, vs0, d0, ds0, p0, q0, hargs, rfl, rfl, h0, r0⟩ := trodAll_cons hA
  obtain ⟨v1, vs1, d1, ds1, p1, q1, rfl, rfl, rfl, h1, r1⟩ := trodAll_cons r0
  obtain ⟨v2, vs2, d2, ds2, p2, q2, rfl, rfl, rfl, h2, r2⟩ := trodAll_cons r1
  obtain ⟨v3, vs3, d3, ds3, p3, q3, rfl, rfl, rfl, h3, r3⟩ := trodAll_cons r2
  obtain ⟨rfl, rfl, rfl⟩ := trodAll_nil r3
  obtain rfl : args = #[v0, v1, v2, v3] := by cases args; simp_all
  obtain ⟨rfl, rfl⟩ := trodVars_none hV
  have k0 := h0
  have lt0 : ∀ x ∈ p0, x.block < W.heap.size := by obtain ⟨m, hm⟩ := k0; exact DataW.trod_lt m _ _ _ hm
  obtain ⟨ax0, ln0, cx0, rfl⟩ := okWide_slice Try.underlying27 (hval 0 27 v0 rfl rfl)
  obtain ⟨a0, l0, c0, hv0, hb0, hby0, hcap0, hno0⟩ : ∃ (ao : Option Addr) (l : List Int) (cap : Nat), Value.slice ax0 ln0 cx0 = .slice ao l.length cap ∧ Bytes W ao l ∧ (∀ y ∈ l, isByte y) ∧ l.length ≤ cap ∧ (ao = none → cap = 0) := by
    obtain ⟨fuel, hf⟩ := h0
    exact open_bytes (by simpa [Value.cells] using hf)
  injection hv0 with hv0a hv0b hv0c
  subst hv0a hv0b hv0c
  have k1 := h1
  have lt1 : ∀ x ∈ p1, x.block < W.heap.size := by obtain ⟨m, hm⟩ := k1; exact DataW.trod_lt m _ _ _ hm
  obtain ⟨ax1, ln1, cx1, rfl⟩ := okWide_slice Try.underlying27 (hval 1 27 v1 rfl rfl)
  obtain ⟨a1, l1, c1, hv1, hb1, hby1, hcap1, hno1⟩ : ∃ (ao : Option Addr) (l : List Int) (cap : Nat), Value.slice ax1 ln1 cx1 = .slice ao l.length cap ∧ Bytes W ao l ∧ (∀ y ∈ l, isByte y) ∧ l.length ≤ cap ∧ (ao = none → cap = 0) := by
    obtain ⟨fuel, hf⟩ := h1
    exact open_bytes (by simpa [Value.cells] using hf)
  injection hv1 with hv1a hv1b hv1c
  subst hv1a hv1b hv1c
  obtain ⟨a2, rfl, rfl, rfl, w2⟩ := open_int Try.underlying35 (hval 2 35 v2 rfl rfl) h2
  have b2 : 0 ≤ a2 ∧ a2 ≤ 65535 := by simpa [Lit.wf, IntKind.min, IntKind.max, IntKind.signed, IntKind.bits] using w2
  obtain ⟨a3, rfl, rfl, rfl⟩ := open_bool Try.underlying4 (hval 3 4 v3 rfl rfl) h3
  clear hA0 hval0
  refine (walk ax0 l0 cx0 ax1 l1 cx1 a2 a3 W hb0 hby0 hcap0 hno0 hb1 hby1 hcap1 hno1 b2).mono fun e W' ⟨he, bel⟩ => ?_
  subst he
  exact ⟨_, rfl, _, _, _, [], _, [], hW', trodAll_mk1 (shut_bool Try.underlying4 _), (trodAll_cons_mk (Below.trod laidOut (by kernel_rfl) (of_decide_eq_true (by kernel_rfl)) k0 bel lt0) (trodAll_cons_mk (Below.trod laidOut (by kernel_rfl) (of_decide_eq_true (by kernel_rfl)) k1 bel lt1) (trodAll_cons_mk (shut_int Try.underlying35 w2) (trodAll_cons_mk (shut_bool Try.underlying4 _) trodAll_mk0)))), rfl, bel.frame _, fun h => by cases h⟩

theorem over : Rows.diskCutsRow.holds Try.pinned (OpenSpec.ofChange Rows.diskCutsSpec) :=
  OpenClaim.holds_of_wide 4 Try.f4 rfl rfl rfl rfl rfl rfl rfl ⟨rfl, rfl, rfl, rfl, rfl⟩ rfl rfl rfl rfl rfl (by kernel_rfl) Try.func4 (by kernel_rfl)
    (of_decide_eq_true (by kernel_rfl)) (by unfold Func.isWrapper; first | (rw [if_pos (by decide +kernel)]; kernel_rfl) | (rw [if_neg (by decide +kernel)]; exact ⟨rfl, rfl⟩))
    (fun os started H enc _ => lifted os started H enc)

theorem proved : Rows.DiskCutsSaid := over
#print axioms proved
end Go.Proofs.Yteognfhlpmpckaa.diskCuts
