/- A sum of a page hangs on its number and on each of its bytes, for every input (MerkleLeaf). -/
import Derived.Test.YtfbcjigekmgbnaaRows
import Derived.Test.YtfbcjigekmgbnaaAppg
import Derived.Test.YtfbcjigekmgbnaaOpen
import Derived.WalkKit
import Derived.ProofKit
import Derived.OpenShut
import Derived.ShutString
import Derived.ChangeOld
import Derived.Below
import Derived.Deep.AppendLies
namespace Go.Proofs.Ytfbcjigekmgbnaa.merkleLeaf
open Go.ChangeShapes Go.WideShapes Go.ChangeAt Go.RowKit
set_option maxRecDepth 100000

theorem own : ownKnob Try.prog.godebug = none := by kernel_rfl
theorem laidOut : laidOutB Try.prog = true := by kernel_rfl

theorem xor_other (x y : Int) (hx : isByte x) (hy : 0 ≤ y ∧ y ≤ 255) (h0 : ¬ y = 0) : isByte (bits .xor .u8 x y) ∧ bits .xor .u8 x y ≠ x := by
  obtain ⟨x, rfl⟩ := Int.eq_ofNat_of_zero_le hx.1
  obtain ⟨y, rfl⟩ := Int.eq_ofNat_of_zero_le hy.1
  have hx' := hx.2
  rw [u8_xor_nat x y (by omega) (by omega)]
  have hlt : x ^^^ y < 256 := Nat.xor_lt_two_pow (n := 8) (by omega) (by omega)
  refine ⟨⟨by omega, by omega⟩, fun h => h0 ?_⟩
  have h1 : x ^^^ y = x := by omega
  have h2 := congrArg (x ^^^ ·) h1
  simp only [← Nat.xor_assoc, Nat.xor_self, Nat.zero_xor] at h2
  omega
theorem leaf_other (p q : Int) (l : List Int) (hl : ∀ x ∈ l, isByte x) (h : p % 256 ≠ q % 256) : leafI p l ≠ leafI q l := by
  have hb : ∀ z : Int, isByte (z % 256) := fun z => ⟨by omega, by omega⟩
  have := sum_changed ([q % 256] ++ l) 0 (p % 256) (fun x hx => by
    rcases List.mem_append.1 hx with e | e
    · rw [List.mem_singleton.1 e]; exact hb q
    · exact hl x e) (by simp) (hb p) (by simpa using h)
  simpa [leafI] using this
theorem leaf_set (p : Int) (l : List Int) (i : Nat) (y : Int) (hl : ∀ x ∈ l, isByte x) (hi : i < l.length) (hy : isByte y) (hne : y ≠ l[i]) : leafI p (l.set i y) ≠ leafI p l := by
  have := sum_changed ([p % 256] ++ l) (i + 1) y (fun x hx => by
    rcases List.mem_append.1 hx with e | e
    · rw [List.mem_singleton.1 e]; exact ⟨by omega, by omega⟩
    · exact hl x e) (by simp; omega) hy (by simpa using hne)
  simpa [leafI] using this

theorem row_at {w w' : World} {ao : Option Addr} {n c m : Nat} {l : List Int} (ho : w'.ownsRow 0 5 1 (.slice ao n c) n (vals ([] ++ l))) (hg : (Value.slice ao (0 + n) c).ownBlock = (Value.slice none 0 0).ownBlock ∨ (Value.slice ao (0 + n) c).ownBlock = some w.heap.size) (hm : m < n) (_ : 0 < n) :
    ∃ g x, ao = some ⟨g, 0, none⟩ ∧ x = l.getD m 0 ∧ w'.cell? ⟨g, m, none⟩ = some (.int .u8 x) ∧ w'.frozen? ⟨g, m, none⟩ = false ∧ w.heap.size ≤ g ∧
      ∀ y, Bytes (w'.setCell ⟨g, m, none⟩ (.int .u8 y)) (some ⟨g, 0, none⟩) (l.set m y) ∧ Kept (fun i => i = g) w' (w'.setCell ⟨g, m, none⟩ (.int .u8 y)) := by
  obtain ⟨g, c2, e, hbg, hlt2⟩ := ho.form (by omega)
  injection e with e1 e2 e3
  subst e1 e3
  have hl : l.length = n := by have := ho.1; simpa [vals] using this
  refine ⟨g, _, rfl, rfl, ?_, ho.frozenAt m, ?_, fun y => ⟨?_, (Kept.refl _ _).setCell _ _ (fun _ => rfl)⟩⟩
  · rw [ho.cellAt m (by omega)]; simp [vals, List.getElem?_eq_getElem (show m < l.length by omega), List.getD_eq_getElem?_getD]
  · rcases hg with e | e
    · simp [Value.ownBlock] at e
    · simp [Value.ownBlock] at e; omega
  · have h := (ho.stored m (.int .u8 y)).1
    have e : (vals ([] ++ l)).set m (.int .u8 y) = vals (l.set m y) := by simp [vals, List.map_set]
    rw [e] at h
    exact own_bytes h

set_option maxHeartbeats 3200000 in
theorem core (p : Nat) (ao : Option Addr) (l : List Int) (cap : Nat) (at_ by_ : Nat) (w : World) (hb : Bytes w ao l) (hby : ∀ x ∈ l, isByte x) (hno : ao = none → l = [] ∧ cap = 0) (hl : l.length ≤ 200) (hp : p ≤ 255) (ha : at_ ≤ 255) (hx : by_ ≤ 255) :
    Calls Try.prog 7 #[.int .u8 p, .slice ao l.length cap, .int .u8 at_, .int .u8 by_] w fun e w' => e = .returned (.bool true) ∧ Below w.heap.size w w' := by
  have KN := Lib.hid (known_any w)
  have HI := Lib.hid (And.intro hb (And.intro hby hno))
  obtain ⟨k, hk⟩ : ∃ k, k = p % 8 := ⟨_, rfl⟩
  have hk8 : k < 8 := by omega
  have ek : ((p : Int) % 8) = (k : Int) := by omega
  obtain ⟨j, hj⟩ : ∃ j, j = (k + 1) % 8 := ⟨_, rfl⟩
  have ej : (((k : Int) + 1) % 8) = (j : Int) := by omega
  obtain ⟨n, hn⟩ : ∃ n, n = l.length := ⟨_, rfl⟩
  have hn200 : ¬ (200 : Int) < n := by omega
  rw [← hn]
  have HN := Lib.hid hn
  have HK := Lib.hid (And.intro hk (And.intro hj (And.intro hp (And.intro ha hx))))
  clear hb hby hno hn hl hj hp ha hx hk
  go_enter Try.func7, Try.ntmps7
  go_wp2_with fail
  refine KN.out.mono ?_
  rintro e w1 ⟨rfl, b1⟩
  have L1 := leaf_any w1 k ao cap l (bytes_kept HI.out.1 (Kept.ofBelow (S := fun _ => False) b1) (fun _ _ _ h => h)) HI.out.2.2 (by have := HN.out; omega)
  rw [← HN.out] at L1
  replace L1 := Lib.hid L1
  have B1 := Lib.hid b1
  clear b1 KN
  go_wp2_with fail
  refine L1.out.mono ?_
  rintro e w2 ⟨rfl, b2⟩
  have k2 := B1.out.trans (b2.mono B1.out.size)
  have L2 := leaf_any w2 j ao cap l (bytes_kept HI.out.1 (Kept.ofBelow (S := fun _ => False) k2) (fun _ _ _ h => h)) HI.out.2.2 (by have := HN.out; omega)
  rw [← HN.out] at L2
  replace L2 := Lib.hid L2
  have K2 := Lib.hid k2
  have hne : ((leafI k l) == (leafI j l)) = false := by
    have := leaf_other k j l HI.out.2.1 (by have := HK.out; omega)
    simpa using this
  clear b2 k2 L1 B1
  generalize hv : leafI k l = v at *
  replace hv := Lib.hid hv
  go_wp2_with fail
  refine L2.out.mono ?_
  rintro e w3 ⟨rfl, b3⟩
  have k3 := K2.out.trans (b3.mono K2.out.size)
  have OL := Lib.hid (own_lit w3 [(k : Int)] 1 rfl (by unfold maxLen; omega))
  have HB := Lib.hid (bytes_kept HI.out.1 ((Kept.ofBelow (S := fun _ => False) k3).alloc (.cells (vals [(k : Int)]).toArray 5)) (fun _ _ _ h => h))
  have K3 := Lib.hid k3
  clear b3 k3 L2 K2
  generalize leafI j l = v2 at *
  go_wp2_with (at_builtin
               refine wpList_appg _ rfl (.tmp 34) (.tmp 35) rfl (.slice (some ⟨w3.heap.size, 0, none⟩) 1 1) 1 [(k : Int)] rfl OL.out ao n cap l rfl HN.out.symm HB.out (fun e => by obtain ⟨h1, h2⟩ := HI.out.2.2 e; refine ⟨?_, h2⟩; have := HN.out; rw [h1] at this; simpa using this) (by omega) ?_
               intro ao' cap' w4 ho' hk' hg'
               have hb' := own_bytes ho'
               have hl' : ([(k : Int)] ++ l).length = 1 + n := by rw [HN.out]; simp; omega
               have S := refSum_any ao' ([(k : Int)] ++ l) cap' w4 hb' (by rw [hl']; unfold maxLen; omega)
               have ev : sumI ([(k : Int)] ++ l) = v := by rw [← hv.out]; unfold leafI; rw [show (k : Int) % 256 = k by omega]
               rw [hl', ev] at S
               replace S := Lib.hid S
               have hk := (K3.out.alloc K3.out.size (.cells (vals [(k : Int)]).toArray 5)).trans (hk'.below (by have := K3.out.size; simp; omega) (fun k e => by have := K3.out.size; simp [Value.ownBlock] at e; omega))
               have K4 := Lib.hid hk
               clear ho' hk' hg' hb' hl' hk ev)
  refine S.out.mono ?_
  rintro e w5 ⟨rfl, rfl⟩
  clear S OL HB K3
  by_cases h0 : n = 0
  · have h0' : (n : Int) = 0 := by omega
    go_wp2_with fail
    go_ret
    exact ⟨rfl, K4.out⟩
  have h0' : ¬ (n : Int) = 0 := by omega
  by_cases hy0 : by_ = 0
  · have hy0' : (by_ : Int) = 0 := by omega
    go_wp2_with fail
    go_ret
    exact ⟨rfl, K4.out⟩
  have hy0' : ¬ (by_ : Int) = 0 := by omega
  have hb1 : ((n : Int) == 0) = false := by simpa using h0
  have hb2 : ((by_ : Int) == 0) = false := by simpa using hy0
  obtain ⟨m, hm⟩ : ∃ m, m = at_ % n := ⟨_, rfl⟩
  have hmn : m < n := by rw [hm]; exact Nat.mod_lt _ (by omega)
  have hmn' : (m : Int) < n := by omega
  have em : ((at_ : Int) % (n : Int)) = (m : Int) := by rw [hm]; simp
  have em2 : ((at_ : Int).tmod (n : Int)) = (m : Int) := by rw [← em]; exact Int.tmod_eq_emod_of_nonneg (by omega)
  have hw64 : wrap64 (at_ : Int) = at_ := by have := HK.out; simp [wrap64]; omega
  have HB4 := Lib.hid (bytes_kept HI.out.1 (Kept.ofBelow (S := fun _ => False) K4.out) (fun _ _ _ h => h))
  have NO := Lib.hid (nul_own w4)
  clear hm
  go_wp2_with (at_builtin
               refine wpList_app _ rfl (.const (.slice none 0 0)) (.tmp 47) rfl (.slice none 0 0) 0 [] rfl NO.out ao n cap l rfl HN.out.symm HB4.out (fun e => by obtain ⟨h1, h2⟩ := HI.out.2.2 e; refine ⟨?_, h2⟩; have := HN.out; rw [h1] at this; simpa using this) (by omega) ?_
               intro ao2 cap2 w6 ho' hk' hg'
               rw [Nat.zero_add] at ho'
               obtain ⟨g, y, rfl, hy, hc1, hf1, hgw, hst⟩ := row_at ho' hg' hmn (by omega)
               have k6 := K4.out.trans (hk'.below K4.out.size (fun k e => by simp [Value.ownBlock] at e))
               have H6 := Lib.hid (And.intro hst (And.intro hgw k6))
               replace hy := Lib.hid hy
               clear ho' hk' hg' hgw k6 hst)
  clear HB4 NO
  go_wp2_with fail
  have hml : m < l.length := by have := HN.out; omega
  have hget : y = l[m]'hml := by rw [hy.out]; simp [List.getD_eq_getElem?_getD, List.getElem?_eq_getElem hml]
  have hxo := xor_other y by_ (by rw [hget]; exact HI.out.2.1 _ (List.getElem_mem hml)) (by have := HK.out; omega) hy0'
  generalize bits .xor .u8 y (by_ : Int) = z at *
  obtain ⟨hb6, hk6⟩ := H6.out.1 z
  have k7 := H6.out.2.2.trans (hk6.below H6.out.2.2.size (fun k e => by have := K4.out.size; have := H6.out.2.1; omega))
  have hl7 : (l.set m z).length = n := by rw [List.length_set]; exact HN.out.symm
  have L7 := leaf_any _ k (some ⟨g, 0, none⟩) cap2 (l.set m z) hb6 (fun e => by cases e) (by omega)
  rw [hl7] at L7
  have hne7 : (leafI k (l.set m z) != v) = true := by
    rw [← hv.out]
    simpa using leaf_set k l m z HI.out.2.1 hml hxo.1 (by rw [← hget]; exact hxo.2)
  replace L7 := Lib.hid L7
  replace k7 := Lib.hid k7
  generalize leafI k (l.set m z) = v7 at *
  clear hb6 hk6 hl7 hxo hget hml H6
  refine L7.out.mono ?_
  rintro e w8 ⟨rfl, b8⟩
  clear L7
  go_wp2_with fail
  go_ret
  exact ⟨rfl, k7.out.trans (b8.mono k7.out.size)⟩

theorem long0 (p : Int) (ao : Option Addr) (n cap : Nat) (at_ by_ : Int) (w : World) (hl : ¬ n ≤ 200) :
    Calls Try.prog 7 #[.int .u8 p, .slice ao n cap, .int .u8 at_, .int .u8 by_] w fun e w' => e = .returned (.bool true) ∧ Below w.heap.size w w' := by
  have KN := Lib.hid (known_any w)
  have h1 : (200 : Int) < n := by omega
  clear hl
  go_enter Try.func7, Try.ntmps7
  go_wp2_with fail
  refine KN.out.mono ?_
  rintro e w1 ⟨rfl, b1⟩
  have B1 := Lib.hid b1
  clear b1 KN
  go_wp2_with fail
  go_ret
  exact ⟨rfl, B1.out⟩

theorem walk (p : Int) (ao : Option Addr) (l : List Int) (cap : Nat) (at_ by_ : Int) (w : World) (hp : 0 ≤ p ∧ p ≤ 255) (hb : Bytes w ao l) (hby : ∀ x ∈ l, isByte x) (_ : l.length ≤ cap) (hno : ao = none → cap = 0) (ha : 0 ≤ at_ ∧ at_ ≤ 255) (hx : 0 ≤ by_ ∧ by_ ≤ 255) :
    Calls Try.prog 7 #[.int .u8 p, .slice ao l.length cap, .int .u8 at_, .int .u8 by_] w fun e w' => e = .returned (.bool true) ∧ Below w.heap.size w w' := by
  by_cases hl : l.length ≤ 200
  · obtain ⟨p, rfl⟩ := Int.eq_ofNat_of_zero_le hp.1
    obtain ⟨at_, rfl⟩ := Int.eq_ofNat_of_zero_le ha.1
    obtain ⟨by_, rfl⟩ := Int.eq_ofNat_of_zero_le hx.1
    exact core p ao l cap at_ by_ w hb hby (fun e => ⟨List.eq_nil_of_length_eq_zero (by have := hno e; omega), hno e⟩) hl (by omega) (by omega) (by omega)
  · exact long0 p ao l.length cap at_ by_ w hl


theorem lifted (os : Os) (started : os.Started) (H : Type) (enc : TypeId × Value → H) :
    ReturnsInHanded {} Try.checked os 7 .any (Rows.merkleLeafSpec.pre6 enc Try.prog Try.f7 Rows.merkleLeafRow.domain false) (Rows.merkleLeafSpec.post enc Try.prog Try.f7 false true false false) := by
  refine returnsInHanded_of_change (C := Try.checked) own started (by kernel_rfl) Try.func7
    (ChangeSpec.witness6 (enc := enc) (C := Try.checked) false ⟨#[], #[.int .u8 0, .slice none 0 0, .int .u8 0, .int .u8 0], []⟩ 8 (by kernel_rfl) (by kernel_rfl) (by kernel_rfl) (by kernel_rfl)) ?_
  intro W base args ds gs before hval0 hW hcnd _
  have hval : ∀ (j : Nat) t v, Try.f7.params[j]? = some t → args[j]? = some v → Value.okWide Try.prog W .any base t v := hval0
  have hW' := hW
  obtain ⟨p, q, hA0, hV, rfl, hfz, hnd⟩ := hW
  have hA : DataW.TrodAll enc Try.prog W 0 (fun _ => true) true Try.f7.params.toList args.toList ds p := hA0
  rw [Try.params7] at hA hval
  obtain ⟨v0, vs0, d0, ds0, p0, q0, hargs, rfl, rfl, h0, r0⟩ := trodAll_cons hA
  obtain ⟨v1, vs1, d1, ds1, p1, q1, rfl, rfl, rfl, h1, r1⟩ := trodAll_cons r0
  obtain ⟨v2, vs2, d2, ds2, p2, q2, rfl, rfl, rfl, h2, r2⟩ := trodAll_cons r1
  obtain ⟨v3, vs3, d3, ds3, p3, q3, rfl, rfl, rfl, h3, r3⟩ := trodAll_cons r2
  obtain ⟨rfl, rfl, rfl⟩ := trodAll_nil r3
  obtain rfl : args = #[v0, v1, v2, v3] := by cases args; simp_all
  obtain ⟨rfl, rfl⟩ := trodVars_none hV
  obtain ⟨a0, rfl, rfl, rfl, w0⟩ := open_int Try.underlying5 (hval 0 5 v0 rfl rfl) h0
  have b0 : 0 ≤ a0 ∧ a0 ≤ 255 := by simpa [Lit.wf, IntKind.min, IntKind.max, IntKind.signed, IntKind.bits] using w0
  have k1 := h1
  have lt1 : ∀ x ∈ p1, x.block < W.heap.size := by obtain ⟨m, hm⟩ := k1; exact DataW.trod_lt m _ _ _ hm
  obtain ⟨ax1, ln1, cx1, rfl⟩ := okWide_slice Try.underlying22 (hval 1 22 v1 rfl rfl)
  obtain ⟨a1, l1, c1, hv1, hb1, hby1, hcap1, hno1⟩ : ∃ (ao : Option Addr) (l : List Int) (cap : Nat), Value.slice ax1 ln1 cx1 = .slice ao l.length cap ∧ Bytes W ao l ∧ (∀ y ∈ l, isByte y) ∧ l.length ≤ cap ∧ (ao = none → cap = 0) := by
    obtain ⟨fuel, hf⟩ := h1
    exact open_bytes (by simpa [Value.cells] using hf)
  injection hv1 with hv1a hv1b hv1c
  subst hv1a hv1b hv1c
  obtain ⟨a2, rfl, rfl, rfl, w2⟩ := open_int Try.underlying5 (hval 2 5 v2 rfl rfl) h2
  have b2 : 0 ≤ a2 ∧ a2 ≤ 255 := by simpa [Lit.wf, IntKind.min, IntKind.max, IntKind.signed, IntKind.bits] using w2
  obtain ⟨a3, rfl, rfl, rfl, w3⟩ := open_int Try.underlying5 (hval 3 5 v3 rfl rfl) h3
  have b3 : 0 ≤ a3 ∧ a3 ≤ 255 := by simpa [Lit.wf, IntKind.min, IntKind.max, IntKind.signed, IntKind.bits] using w3
  clear hA0 hval0
  refine (walk a0 ax1 l1 cx1 a2 a3 W b0 hb1 hby1 hcap1 hno1 b2 b3).mono fun e W' ⟨he, bel⟩ => ?_
  subst he
  exact ⟨_, rfl, _, _, _, [], _, [], hW', trodAll_mk1 (shut_bool Try.underlying4 _), (trodAll_cons_mk (shut_int Try.underlying5 w0) (trodAll_cons_mk (Below.trod laidOut (by kernel_rfl) (of_decide_eq_true (by kernel_rfl)) k1 bel lt1) (trodAll_cons_mk (shut_int Try.underlying5 w2) (trodAll_cons_mk (shut_int Try.underlying5 w3) trodAll_mk0)))), rfl, bel.frame _, fun h => by cases h⟩

theorem over : Rows.merkleLeafRow.holds Try.pinned (OpenSpec.ofChange Rows.merkleLeafSpec) :=
  OpenClaim.holds_of_wide 7 Try.f7 rfl rfl rfl rfl rfl rfl rfl ⟨rfl, rfl, rfl, rfl, rfl⟩ rfl rfl rfl rfl rfl (by kernel_rfl) Try.func7 (by kernel_rfl)
    (of_decide_eq_true (by kernel_rfl)) (by unfold Func.isWrapper; first | (rw [if_pos (by decide +kernel)]; kernel_rfl) | (rw [if_neg (by decide +kernel)]; exact ⟨rfl, rfl⟩))
    (fun os started H enc _ => lifted os started H enc)

theorem proved : Rows.MerkleLeafSaid := over
#print axioms proved
end Go.Proofs.Ytfbcjigekmgbnaa.merkleLeaf
