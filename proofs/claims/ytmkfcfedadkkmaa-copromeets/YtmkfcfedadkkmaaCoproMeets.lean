/- For every list of epochs the law CoproMeets returns true. No condition. -/
import Derived.Test.YtmkfcfedadkkmaaRows
import Derived.Test.YtmkfcfedadkkmaaNew
import Derived.WalkKit
import Derived.ProofKit
import Derived.OpenShut
import Derived.ShutString
import Derived.ChangeOld
import Derived.Below
namespace Go.Proofs.Ytmkfcfedadkkmaa.coproMeets
open Go.ChangeShapes Go.WideShapes Go.ChangeAt Go.RowKit
open Go.ChangeMaps (open_string shut_string)
set_option linter.unusedVariables false

theorem own : ownKnob Try.prog.godebug = none := by kernel_rfl
theorem laidOut : laidOutB Try.prog = true := by kernel_rfl

/-- WHAT THE WALK IS TOLD OF A SLICE OF INTEGERS THAT CAME IN: it is nil; or it leads to a row of 'cap' cells, the numbers 'zs' (the first 'len' are its elements, the rest its spare room), each fitting its kind. -/
def IsRow (k : IntKind) (w : World) (a : Option Addr) (len cap : Nat) (zs : List Int) : Prop :=
  (a = none ∧ len = 0 ∧ cap = 0 ∧ zs = []) ∨
  ∃ x, a = some x ∧ len ≤ cap ∧ cap ≤ maxLen ∧ zs.length = cap ∧ (∀ i, i < zs.length → w.cell? (x.add i) = some (.int k (zs.getD i 0))) ∧ ∀ n ∈ zs, (Lit.int k n).wf = true

theorem row_nums {w : World} {a : Option Addr} {len cap : Nat} {zs : List Int} (h : IsRow .u8 w a len cap zs) :
    ∃ l : List Int, l.length = len ∧ ∀ i, i < l.length → ∃ ad, a = some ad ∧ w.cell? (ad.add i) = some (.int .u8 (l.getD i 0)) ∧ 0 ≤ l.getD i 0 ∧ l.getD i 0 ≤ 255 := by
  rcases h with ⟨rfl, rfl, rfl, rfl⟩ | ⟨x, rfl, hl, hm, hz, hc, hw⟩
  · exact ⟨[], rfl, fun i hi => by simp at hi⟩
  · refine ⟨zs.take len, by simp; omega, fun i hi => ?_⟩
    simp only [List.length_take] at hi
    have e : (zs.take len).getD i 0 = zs.getD i 0 := by simp [List.getD_eq_getElem?_getD, show i < len from by omega]
    have hb := hw (zs.getD i 0) (by rw [List.getD_eq_getElem?_getD, List.getElem?_eq_getElem (by omega)]; exact List.getElem_mem _)
    refine ⟨x, rfl, ?_, ?_⟩
    · rw [hc i (by omega), e]
    · rw [e]; simpa [Lit.wf, IntKind.min, IntKind.max, IntKind.signed, IntKind.bits] using hb

theorem cell_stay {w w' : World} (h : Kept (fun _ => False) w w') {a : Addr} {v : Value} (hc : w.cell? a = some v) : w'.cell? a = some v := by
  have hb : a.block < w.heap.size := by
    rcases Nat.lt_or_ge a.block w.heap.size with h' | h'
    · exact h'
    · simp [World.cell?, Array.getElem?_eq_none h'] at hc
  rw [← hc]
  exact World.cell?_of_block (h.block _ hb (fun h => h))

def mc (v : Int) : Cp := ⟨0, 1, 0, fun j => if j = 3 then v else 1, false⟩
theorem mc_ok (v : Int) (h : 1 ≤ v ∧ v ≤ 200) : (mc v).Ok := ⟨(by decide : (0 : Int) ≤ 0 ∧ (0 : Int) ≤ 255), (by decide : (1 : Int) ≤ 1 ∧ (1 : Int) ≤ 200), (by decide : (0 : Int) ≤ 0 ∧ (0 : Int) ≤ 1048576), fun j => (by simp only [mc]; split <;> omega), fun h => by cases h⟩
theorem peer3 (w : World) (B : Nat) (v : Int) (h : At 48 w B (mc v)) : Calls Try.prog 20 #[.pointer (some ⟨B, 0, none⟩), .int .u8 3] w fun e w' => e = .returned (.int .u8 v) ∧ w = w' := peer_any w B (mc v) 3 h (by decide)
theorem peer1 (w : World) (B : Nat) (v : Int) (h : At 48 w B (mc v)) : Calls Try.prog 20 #[.pointer (some ⟨B, 0, none⟩), .int .u8 1] w fun e w' => e = .returned (.int .u8 1) ∧ w = w' := peer_any w B (mc v) 1 h (by decide)
theorem can_mc (v x : Int) : (mc v).canMeet 3 x = (decide (v < x) && decide (x ≤ 200)) := by simp [Cp.canMeet, mc]
theorem mc_cells (v x : Int) : ({ mc v with p := fun j => if j = (3 : Int).toNat then x else (mc v).p j } : Cp).cells = (mc x).cells := rfl
theorem meet_up (w : World) (B : Nat) (v x : Int) (h : At 48 w B (mc v)) (hv : 1 ≤ v ∧ v ≤ 200) (h1 : v < x) (h2 : x ≤ 200) : Calls Try.prog 16 #[.pointer (some ⟨B, 0, none⟩), .int .u8 3, .int .u8 x] w fun e w' => e = .returned (.bool true) ∧ At 48 w' B (mc x) ∧ Kept (fun k => k = B) w w' := by
  have hc : (mc v).canMeet 3 x = true := by rw [can_mc]; simp [h1, h2]
  have h := meet_any w B (mc v) 3 x h (mc_ok v hv) (by decide) (by omega)
  unfold Cp.meet at h
  rw [hc, if_pos rfl] at h
  exact h
theorem meet_not (w : World) (B : Nat) (v x : Int) (h : At 48 w B (mc v)) (hv : 1 ≤ v ∧ v ≤ 200) (hx : 0 ≤ x ∧ x ≤ 255) (h1 : x ≤ v ∨ 200 < x) : Calls Try.prog 16 #[.pointer (some ⟨B, 0, none⟩), .int .u8 3, .int .u8 x] w fun e w' => e = .returned (.bool false) ∧ At 48 w' B (mc v) ∧ Kept (fun k => k = B) w w' := by
  have hc : (mc v).canMeet 3 x = false := by rw [can_mc]; rcases h1 with h | h <;> simp <;> omega
  have h := meet_any w B (mc v) 3 x h (mc_ok v hv) (by decide) hx
  unfold Cp.meet at h
  rw [hc, if_neg (by decide)] at h
  exact h
set_option maxHeartbeats 1000000 in
theorem walk (a0 : Option Addr) (len0 cap0 : Nat) (z0 : List Int) (w : World) (w0 : IsRow .u8 w a0 len0 cap0 z0) :
    Calls Try.prog 6 #[.slice a0 len0 cap0] w fun e w' => e = .returned (.bool true) ∧ Below w.heap.size w w' := by
  obtain ⟨l, hl, hc⟩ := row_nums w0
  clear w0
  subst hl
  have HC := Lib.hid hc
  clear hc
  generalize hm : l.length = m at *
  have HM := Lib.hid hm
  clear hm
  by_cases h60 : 60 < m
  · go_enter Try.func6, Try.ntmps6
    go_wp2_with fail
    refine Calls.mono (known_any w) ?_
    rintro e w1 ⟨rfl, k1⟩
    have K1 := Lib.hid k1
    clear k1
    go_wp2_with fail
    go_ret
    exact ⟨rfl, K1.out.below (Nat.le_refl _) (fun _ h => h.elim)⟩
  · go_enter Try.func6, Try.ntmps6
    go_wp2_with fail
    refine Calls.mono (known_any w) ?_
    rintro e w1 ⟨rfl, k1⟩
    have K1 := Lib.hid k1
    obtain ⟨B, hB⟩ : ∃ B, w1.heap.size = B := ⟨_, rfl⟩
    have HB := Lib.hid hB
    have HLE := Lib.hid (show w.heap.size ≤ B by rw [← hB]; exact k1.size)
    clear k1 hB
    go_wp2_with fail
    refine Calls.mono (new_any w1 0 B HB.out) ?_
    rintro e w2 ⟨rfl, h2, k2⟩
    have H2 := Lib.hid h2
    have K2 := Lib.hid (K1.out.trans k2 (fun _ _ h => h))
    clear h2 k2 K1 HB
    go_wp2_with fail
    go_loopw [4, 5, 6] (fun vv vi _ wr => ∃ (j : Nat) (v : Int), j ≤ m ∧ vi = .int .i64 j ∧ vv = .int .u8 v ∧ (1 ≤ v ∧ v ≤ 200) ∧ Hid (At 48 wr B (mc v)) ∧ Hid (Kept (fun _ => False) w wr)) (fun _ i _ _ => m - (intOf i).toNat)
    case atStart => exact ⟨0, 1, by omega, rfl, rfl, by decide, H2, K2⟩
    case round =>
      obtain ⟨j, v, hj, rfl, rfl, hv, HA, HK⟩ := hrel
      clear H2 K2
      by_cases hlt : j < m
      · obtain ⟨ad, rfl, hc0, hx⟩ := HC.out j hlt
        generalize l.getD j 0 = x at *
        have hcj := cell_stay HK.out hc0
        have HC0 := Lib.hid hc0
        clear hc0
        by_cases hup : v < x ∧ x ≤ 200
        · obtain ⟨q1, q2⟩ := hup
          have C := Lib.hid (meet_up _ B v x HA.out hv q1 q2)
          go_wp2_with fail
          refine Calls.mono C.out ?_
          rintro e w3 ⟨rfl, h3, k3⟩
          have K3 := Lib.hid (HK.out.up k3 HLE.out)
          have hc3 := cell_stay K3.out HC0.out
          have H3 := Lib.hid h3
          clear C k3 hcj HC0 HK HA h3
          go_wp2_with fail
          refine Calls.mono (peer3 _ B _ H3.out) ?_
          rintro e w' ⟨rfl, rfl⟩
          go_wp2_with fail
          refine Calls.mono (peer1 _ B _ H3.out) ?_
          rintro e w' ⟨rfl, rfl⟩
          go_wp2_with fail
          go_round
          case rel => exact ⟨j + 1, _, by omega, by go_num, rfl, by omega, H3, K3⟩
          case measure => simp [intOf]; omega
        · have hno : x ≤ v ∨ (v < x ∧ 200 < x) := by omega
          have C := Lib.hid (meet_not _ B v x HA.out hv hx (by omega))
          clear hup
          rcases hno with q1 | ⟨q1, q2⟩
          all_goals
            go_wp2_with fail
            refine Calls.mono C.out ?_
            rintro e w3 ⟨rfl, h3, k3⟩
            have K3 := Lib.hid (HK.out.up k3 HLE.out)
            have hc3 := cell_stay K3.out HC0.out
            have H3 := Lib.hid h3
            clear C k3 hcj HC0 HK HA h3
            go_wp2_with fail
            refine Calls.mono (peer3 _ B _ H3.out) ?_
            rintro e w' ⟨rfl, rfl⟩
            go_wp2_with fail
            refine Calls.mono (peer1 _ B _ H3.out) ?_
            rintro e w' ⟨rfl, rfl⟩
            go_wp2_with fail
            go_round
            case rel => exact ⟨j + 1, _, by omega, by go_num, rfl, by omega, H3, K3⟩
            case measure => simp [intOf]; omega
      · obtain rfl : j = m := by omega
        go_wp2_with fail
        go_ret
        exact ⟨rfl, HK.out.below (Nat.le_refl _) (fun _ h => h.elim)⟩

set_option maxRecDepth 100000 in
theorem lifted (os : Os) (started : os.Started) (H : Type) (enc : TypeId × Value → H) :
    ReturnsInHanded {} Try.checked os 6 .any (Rows.coproMeetsSpec.pre6 enc Try.prog Try.f6 Rows.coproMeetsRow.domain false) (Rows.coproMeetsSpec.post enc Try.prog Try.f6 false true false false) := by
  refine returnsInHanded_of_change (C := Try.checked) own started (by kernel_rfl) Try.func6
    (ChangeSpec.witness6 (enc := enc) (C := Try.checked) false ⟨#[], #[.slice none 0 0], []⟩ 8 (by kernel_rfl) (by kernel_rfl) (by kernel_rfl) (by kernel_rfl)) ?_
  intro W base args ds gs before hval0 hW hcnd _
  have hval : ∀ (j : Nat) t v, Try.f6.params[j]? = some t → args[j]? = some v → Value.okWide Try.prog W .any base t v := hval0
  have hW' := hW
  obtain ⟨p, q, hA0, hV, rfl, hfz, hnd⟩ := hW
  have hA : DataW.TrodAll enc Try.prog W 0 (fun _ => true) true Try.f6.params.toList args.toList ds p := hA0
  rw [Try.params6] at hA hval
  obtain ⟨v0, vs0, d0, ds0, p0, q0, hargs, rfl, rfl, h0, r0⟩ := trodAll_cons hA
  obtain ⟨rfl, rfl, rfl⟩ := trodAll_nil r0
  obtain rfl : args = #[v0] := by cases args; simp_all
  obtain ⟨rfl, rfl⟩ := trodVars_none hV
  obtain ⟨a0, len0, cap0, rfl⟩ := okWide_slice Try.underlying45 (hval 0 45 v0 rfl rfl)
  have k0 := h0
  have lt0 : ∀ x ∈ p0, x.block < W.heap.size := by obtain ⟨m, hm⟩ := k0; exact DataW.trod_lt m _ _ _ hm
  obtain ⟨z0, w0⟩ : ∃ zs, IsRow .u8 W a0 len0 cap0 zs := by
    obtain ⟨fuel, hf⟩ := h0
    rcases open_ints Try.underlying45 Try.underlying5 (by kernel_rfl) hf with ⟨hcs, _⟩ | ⟨x, l, c, zs, hcs, _, hl, hm, hz, _, hcell, hwz⟩
    · simp [Value.cells] at hcs
      obtain ⟨rfl, rfl, rfl⟩ := hcs
      exact ⟨[], .inl ⟨rfl, rfl, rfl, rfl⟩⟩
    · simp [Value.cells] at hcs
      obtain ⟨rfl, rfl, rfl⟩ := hcs
      exact ⟨zs, .inr ⟨_, rfl, hl, hm, by simpa using hz, hcell, hwz⟩⟩
  clear hA0 hval0
  refine (walk a0 len0 cap0 z0 W w0).mono fun e W' ⟨he, bel⟩ => ?_
  subst he
  exact ⟨_, rfl, _, _, _, [], _, [], hW', trodAll_mk1 (shut_bool Try.underlying4 _), (trodAll_cons_mk (Below.trod laidOut (by kernel_rfl) (of_decide_eq_true (by kernel_rfl)) k0 bel lt0) trodAll_mk0), rfl, bel.frame _, fun h => by cases h⟩

theorem over : Rows.coproMeetsRow.holds Try.pinned (OpenSpec.ofChange Rows.coproMeetsSpec) :=
  OpenClaim.holds_of_wide 6 Try.f6 rfl rfl rfl rfl rfl rfl rfl ⟨rfl, rfl, rfl, rfl, rfl⟩ rfl rfl rfl rfl rfl (by kernel_rfl) Try.func6 (by kernel_rfl)
    (of_decide_eq_true (by kernel_rfl)) (by unfold Func.isWrapper; first | (rw [if_pos (by decide +kernel)]; kernel_rfl) | (rw [if_neg (by decide +kernel)]; exact ⟨rfl, rfl⟩))
    (fun os started H enc _ => lifted os started H enc)

theorem proved : Rows.CoproMeetsSaid := over
#print axioms proved
end Go.Proofs.Ytmkfcfedadkkmaa.coproMeets
