/- For every list of views the law CoproViews returns true. No condition. -/
import Derived.Test.YtmkfcfedadkkmaaRows
import Derived.Test.YtmkfcfedadkkmaaNew
import Derived.WalkKit
import Derived.ProofKit
import Derived.OpenShut
import Derived.ShutString
import Derived.ChangeOld
import Derived.Below
namespace Go.Proofs.Ytmkfcfedadkkmaa.coproViews
open Go.ChangeShapes Go.WideShapes Go.ChangeAt Go.RowKit
open Go.ChangeMaps (open_string shut_string)
set_option linter.unusedVariables false

theorem own : ownKnob Try.prog.godebug = none := by kernel_rfl
theorem laidOut : laidOutB Try.prog = true := by kernel_rfl

/-- WHAT THE WALK IS TOLD OF A SLICE OF INTEGERS THAT CAME IN: it is nil; or it leads to a row of 'cap' cells, the numbers 'zs' (the first 'len' are its elements, the rest its spare room), each fitting its kind. -/
def IsRow (k : IntKind) (w : World) (a : Option Addr) (len cap : Nat) (zs : List Int) : Prop :=
  (a = none ∧ len = 0 ∧ cap = 0 ∧ zs = []) ∨
  ∃ x, a = some x ∧ len ≤ cap ∧ cap ≤ maxLen ∧ zs.length = cap ∧ (∀ i, i < zs.length → w.cell? (x.add i) = some (.int k (zs.getD i 0))) ∧ ∀ n ∈ zs, (Lit.int k n).wf = true

theorem row_nums {w : World} {a : Option Addr} {len cap : Nat} {zs : List Int} (h : IsRow .u32 w a len cap zs) :
    ∃ l : List Int, l.length = len ∧ ∀ i, i < l.length → ∃ ad, a = some ad ∧ w.cell? (ad.add i) = some (.int .u32 (l.getD i 0)) ∧ 0 ≤ l.getD i 0 ∧ l.getD i 0 ≤ 4294967295 := by
  rcases h with ⟨rfl, rfl, rfl, rfl⟩ | ⟨x, rfl, hl, hm, hz, hc, hw⟩
  · exact ⟨[], rfl, fun i hi => by simp at hi⟩
  · refine ⟨zs.take len, by simp; omega, fun i hi => ?_⟩
    simp only [List.length_take] at hi
    have e : (zs.take len).getD i 0 = zs.getD i 0 := by simp [List.getD_eq_getElem?_getD, show i < len from by omega]
    have hb := hw (zs.getD i 0) (by rw [List.getD_eq_getElem?_getD, List.getElem?_eq_getElem (by omega)]; exact List.getElem_mem _)
    refine ⟨x, rfl, ?_, ?_⟩
    · rw [hc i (by omega), e]
    · rw [e]; simpa [Lit.wf, IntKind.min, IntKind.max, IntKind.signed, IntKind.bits] using hb

theorem cell_stay {w w' : World} (h : Kept (fun _ => False) w w') {a : Addr} {v : Value} (hc : w.cell? a = some v) : w'.cell? a = some v := by
  have hb : a.block < w.heap.size := by
    rcases Nat.lt_or_ge a.block w.heap.size with h' | h'
    · exact h'
    · simp [World.cell?, Array.getElem?_eq_none h'] at hc
  rw [← hc]
  exact World.cell?_of_block (h.block _ hb (fun h => h))

def vc (v : Int) : Cp := ⟨3, 1, v, fun _ => 1, false⟩
theorem vc_ok (v : Int) (h : 0 ≤ v ∧ v ≤ 1048576) : (vc v).Ok := ⟨(by decide : (0 : Int) ≤ 3 ∧ (3 : Int) ≤ 255), (by decide : (1 : Int) ≤ 1 ∧ (1 : Int) ≤ 200), h, fun _ => (by decide : (1 : Int) ≤ 1 ∧ (1 : Int) ≤ 200), fun h => by cases h⟩
theorem vc_raise (v x : Int) : (vc v).raise x = vc (max v (min x 1048576)) := rfl

theorem view_vc (w : World) (B : Nat) (v : Int) (h : At 48 w B (vc v)) : Calls Try.prog 13 #[.pointer (some ⟨B, 0, none⟩)] w fun e w' => e = .returned (.int .u32 v) ∧ w = w' := view_any w B (vc v) h
theorem epoch_vc (w : World) (B : Nat) (v : Int) (h : At 48 w B (vc v)) : Calls Try.prog 12 #[.pointer (some ⟨B, 0, none⟩)] w fun e w' => e = .returned (.int .u8 1) ∧ w = w' := epoch_any w B (vc v) h
theorem id_vc (w : World) (B : Nat) (v : Int) (h : At 48 w B (vc v)) : Calls Try.prog 19 #[.pointer (some ⟨B, 0, none⟩)] w fun e w' => e = .returned (.int .u8 3) ∧ w = w' := id_any w B (vc v) h
theorem most_of (v x : Int) (hv : v ≤ 1048576) : (x ≤ 1048576 ∧ v < x ∧ max v (min x 1048576) = x) ∨ (x ≤ 1048576 ∧ x ≤ v ∧ max v (min x 1048576) = v) ∨ (1048576 < x ∧ v = 1048576 ∧ max v (min x 1048576) = 1048576) ∨ (1048576 < x ∧ v < 1048576 ∧ max v (min x 1048576) = 1048576) := by omega
set_option maxHeartbeats 1000000 in
theorem walk (a0 : Option Addr) (len0 cap0 : Nat) (z0 : List Int) (w : World) (w0 : IsRow .u32 w a0 len0 cap0 z0) :
    Calls Try.prog 4 #[.slice a0 len0 cap0] w fun e w' => e = .returned (.bool true) ∧ Below w.heap.size w w' := by
  obtain ⟨l, hl, hc⟩ := row_nums w0
  clear w0
  subst hl
  have HC := Lib.hid hc
  clear hc
  generalize hm : l.length = m at *
  have HM := Lib.hid hm
  clear hm
  by_cases h60 : 60 < m
  · go_enter Try.func4, Try.ntmps4
    go_wp2_with fail
    refine Calls.mono (known_any w) ?_
    rintro e w1 ⟨rfl, k1⟩
    have K1 := Lib.hid k1
    clear k1
    go_wp2_with fail
    go_ret
    exact ⟨rfl, K1.out.below (Nat.le_refl _) (fun _ h => h.elim)⟩
  · go_enter Try.func4, Try.ntmps4
    go_wp2_with fail
    refine Calls.mono (known_any w) ?_
    rintro e w1 ⟨rfl, k1⟩
    have K1 := Lib.hid k1
    obtain ⟨B, hB⟩ : ∃ B, w1.heap.size = B := ⟨_, rfl⟩
    have HB := Lib.hid hB
    have HLE := Lib.hid (show w.heap.size ≤ B by rw [← hB]; exact k1.size)
    clear k1 hB
    go_wp2_with fail
    refine Calls.mono (new_any w1 3 B HB.out) ?_
    rintro e w2 ⟨rfl, h2, k2⟩
    have H2 := Lib.hid h2
    have K2 := Lib.hid (K1.out.trans k2 (fun _ _ h => h))
    clear h2 k2 K1 HB
    go_wp2_with fail
    go_loopw [4, 5] (fun vv vi wr => ∃ (j : Nat) (v : Int), j ≤ m ∧ vi = .int .i64 j ∧ vv = .int .u32 v ∧ (0 ≤ v ∧ v ≤ 1048576) ∧ Hid (At 48 wr B (vc v)) ∧ Hid (Kept (fun _ => False) w wr)) (fun _ i _ => m - (intOf i).toNat)
    case atStart => exact ⟨0, 0, by omega, rfl, rfl, by decide, H2, K2⟩
    case round =>
      obtain ⟨j, v, hj, rfl, rfl, hv, HA, HK⟩ := hrel
      clear H2 K2
      by_cases hlt : j < m
      · obtain ⟨ad, rfl, hc0, hx⟩ := HC.out j hlt
        generalize l.getD j 0 = x at *
        have hcj := cell_stay HK.out hc0
        have C := Lib.hid (raise_any _ B (vc v) x HA.out (vc_ok v hv) hx)
        rw [vc_raise] at C
        have HC0 := Lib.hid hc0
        clear hc0
        go_wp2_with fail
        refine Calls.mono C.out ?_
        rintro e w3 ⟨rfl, h3, k3⟩
        have K3 := Lib.hid (HK.out.up k3 HLE.out)
        have hc3 := cell_stay K3.out HC0.out
        clear C k3 hcj HC0 HK HA
        have hcs := most_of v x hv.2
        generalize max v (min x 1048576) = y at *
        have H3 := Lib.hid h3
        clear h3
        rcases hcs with ⟨q1, q2, rfl⟩ | ⟨q1, q2, rfl⟩ | ⟨q1, rfl, rfl⟩ | ⟨q1, q2, rfl⟩
        all_goals
          go_wp2_with fail
          refine Calls.mono (view_vc _ B _ H3.out) ?_
          rintro e w' ⟨rfl, rfl⟩
          go_wp2_with fail
          refine Calls.mono (epoch_vc _ B _ H3.out) ?_
          rintro e w' ⟨rfl, rfl⟩
          go_wp2_with fail
          go_round
          case rel => exact ⟨j + 1, _, by omega, by go_num, rfl, by omega, H3, K3⟩
          case measure => simp [intOf]; omega
      · obtain rfl : j = m := by omega
        go_wp2_with fail
        refine Calls.mono (id_vc _ B v HA.out) ?_
        rintro e w' ⟨rfl, rfl⟩
        go_wp2_with fail
        go_ret
        exact ⟨rfl, HK.out.below (Nat.le_refl _) (fun _ h => h.elim)⟩

set_option maxRecDepth 100000 in
theorem lifted (os : Os) (started : os.Started) (H : Type) (enc : TypeId × Value → H) :
    ReturnsInHanded {} Try.checked os 4 .any (Rows.coproViewsSpec.pre6 enc Try.prog Try.f4 Rows.coproViewsRow.domain false) (Rows.coproViewsSpec.post enc Try.prog Try.f4 false true false false) := by
  refine returnsInHanded_of_change (C := Try.checked) own started (by kernel_rfl) Try.func4
    (ChangeSpec.witness6 (enc := enc) (C := Try.checked) false ⟨#[], #[.slice none 0 0], []⟩ 8 (by kernel_rfl) (by kernel_rfl) (by kernel_rfl) (by kernel_rfl)) ?_
  intro W base args ds gs before hval0 hW hcnd _
  have hval : ∀ (j : Nat) t v, Try.f4.params[j]? = some t → args[j]? = some v → Value.okWide Try.prog W .any base t v := hval0
  have hW' := hW
  obtain ⟨p, q, hA0, hV, rfl, hfz, hnd⟩ := hW
  have hA : DataW.TrodAll enc Try.prog W 0 (fun _ => true) true Try.f4.params.toList args.toList ds p := hA0
  rw [Try.params4] at hA hval
  obtain ⟨v0, vs0, d0, ds0, p0, q0, hargs, rfl, rfl, h0, r0⟩ := trodAll_cons hA
  obtain ⟨rfl, rfl, rfl⟩ := trodAll_nil r0
  obtain rfl : args = #[v0] := by cases args; simp_all
  obtain ⟨rfl, rfl⟩ := trodVars_none hV
  obtain ⟨a0, len0, cap0, rfl⟩ := okWide_slice Try.underlying42 (hval 0 42 v0 rfl rfl)
  have k0 := h0
  have lt0 : ∀ x ∈ p0, x.block < W.heap.size := by obtain ⟨m, hm⟩ := k0; exact DataW.trod_lt m _ _ _ hm
  obtain ⟨z0, w0⟩ : ∃ zs, IsRow .u32 W a0 len0 cap0 zs := by
    obtain ⟨fuel, hf⟩ := h0
    rcases open_ints Try.underlying42 Try.underlying30 (by kernel_rfl) hf with ⟨hcs, _⟩ | ⟨x, l, c, zs, hcs, _, hl, hm, hz, _, hcell, hwz⟩
    · simp [Value.cells] at hcs
      obtain ⟨rfl, rfl, rfl⟩ := hcs
      exact ⟨[], .inl ⟨rfl, rfl, rfl, rfl⟩⟩
    · simp [Value.cells] at hcs
      obtain ⟨rfl, rfl, rfl⟩ := hcs
      exact ⟨zs, .inr ⟨_, rfl, hl, hm, by simpa using hz, hcell, hwz⟩⟩
  clear hA0 hval0
  refine (walk a0 len0 cap0 z0 W w0).mono fun e W' ⟨he, bel⟩ => ?_
  subst he
  exact ⟨_, rfl, _, _, _, [], _, [], hW', trodAll_mk1 (shut_bool Try.underlying4 _), (trodAll_cons_mk (Below.trod laidOut (by kernel_rfl) (of_decide_eq_true (by kernel_rfl)) k0 bel lt0) trodAll_mk0), rfl, bel.frame _, fun h => by cases h⟩

theorem over : Rows.coproViewsRow.holds Try.pinned (OpenSpec.ofChange Rows.coproViewsSpec) :=
  OpenClaim.holds_of_wide 4 Try.f4 rfl rfl rfl rfl rfl rfl rfl ⟨rfl, rfl, rfl, rfl, rfl⟩ rfl rfl rfl rfl rfl (by kernel_rfl) Try.func4 (by kernel_rfl)
    (of_decide_eq_true (by kernel_rfl)) (by unfold Func.isWrapper; first | (rw [if_pos (by decide +kernel)]; kernel_rfl) | (rw [if_neg (by decide +kernel)]; exact ⟨rfl, rfl⟩))
    (fun os started H enc _ => lifted os started H enc)

theorem proved : Rows.CoproViewsSaid := over
#print axioms proved
end Go.Proofs.Ytmkfcfedadkkmaa.coproViews
