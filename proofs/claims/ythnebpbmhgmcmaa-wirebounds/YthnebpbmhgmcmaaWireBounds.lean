/- For every row of bytes and every number at most 255 WireBounds returns true and leaves its arguments as they were: no condition. -/
import Derived.Test.YthnebpbmhgmcmaaRows
import Derived.Test.YthnebpbmhgmcmaaOwn
import Derived.WalkKit
import Derived.ProofKit
import Derived.OpenShut
import Derived.ShutString
import Derived.ChangeOld
import Derived.Below
namespace Go.Proofs.Ythnebpbmhgmcmaa.wireBounds
open Go.ChangeShapes Go.WideShapes Go.ChangeAt Go.RowKit
open Go.ChangeMaps (open_string shut_string)
set_option linter.unusedVariables false

theorem own : ownKnob Try.prog.godebug = none := by kernel_rfl
theorem laidOut : laidOutB Try.prog = true := by kernel_rfl

/-- WHAT THE WALK IS TOLD OF A SLICE OF INTEGERS THAT CAME IN: it is nil; or it leads to a row of 'cap' cells, the numbers 'zs' (the first 'len' are its elements, the rest its spare room), each fitting its kind. -/
def IsRow (k : IntKind) (w : World) (a : Option Addr) (len cap : Nat) (zs : List Int) : Prop :=
  (a = none ∧ len = 0 ∧ cap = 0 ∧ zs = []) ∨
  ∃ x, a = some x ∧ len ≤ cap ∧ cap ≤ maxLen ∧ zs.length = cap ∧ (∀ i, i < zs.length → w.cell? (x.add i) = some (.int k (zs.getD i 0))) ∧ ∀ n ∈ zs, (Lit.int k n).wf = true

theorem row_bytes {w : World} {a : Option Addr} {len cap : Nat} {zs : List Int} (h : IsRow .u8 w a len cap zs) :
    ∃ l : List Int, l.length = len ∧ (∀ x ∈ l, isByte x) ∧ Bytes w a l ∧ l.length ≤ cap ∧ (a = none → cap = 0) := by
  rcases h with ⟨rfl, rfl, rfl, rfl⟩ | ⟨x, rfl, hl, hm, hz, hc, hw⟩
  · exact ⟨[], rfl, fun x hx => by simp at hx, fun i hi => by simp at hi, Nat.le_refl _, fun _ => rfl⟩
  · refine ⟨zs.take len, by simp; omega, fun y hy => ?_, fun i hi => ?_, by simp; omega, fun e => by cases e⟩
    · have := hw y (List.mem_of_mem_take hy)
      simpa [isByte, Lit.wf, IntKind.min, IntKind.max, IntKind.signed, IntKind.bits] using this
    · simp only [List.length_take] at hi
      refine ⟨x, rfl, ?_⟩
      rw [hc i (by omega)]
      simp [List.getD_eq_getElem?_getD, show i < len from by omega]

theorem lenBytes_length (l : List Int) : (lenBytes l).length = l.length + 2 := by simp [lenBytes]

theorem lenBytes_byte (l : List Int) (h : ∀ x ∈ l, isByte x) : ∀ x ∈ lenBytes l, isByte x := by
  intro x hx
  simp only [lenBytes, List.cons_append, List.nil_append, List.mem_cons] at hx
  rcases hx with rfl | rfl | hx
  · exact isByte_mod _
  · exact isByte_mod _
  · exact h x hx

theorem lenBytes_rd (l : List Int) (h : l.length ≤ 60000) : rd16 (lenBytes l) = (l.length : Int) := by
  simp only [rd16, lenBytes, List.cons_append, List.nil_append, List.getD_cons_zero, List.getD_cons_succ]
  omega

set_option maxHeartbeats 1000000 in
theorem core (a0 : Option Addr) (l : List Int) (cap : Nat) (a1 : Int) (w : World) (hb : Bytes w a0 l) (hl : ∀ x ∈ l, isByte x) (hcap : l.length ≤ cap) (hnone : a0 = none → cap = 0) (h3 : l.length ≤ 300) (h1 : 0 ≤ a1 ∧ a1 ≤ 255) :
    Calls Try.prog 7 #[.slice a0 l.length cap, .int .u8 a1] w fun e w' => e = .returned (.bool true) ∧ Below w.heap.size w w' := by
  have hn0 : a0 = none → l = [] := fun e => List.eq_nil_of_length_eq_zero (by have := hnone e; omega)
  have HB := Lib.hid hb
  have HL := Lib.hid hl
  have HC := Lib.hid hcap
  have HN := Lib.hid hnone
  have HN0 := Lib.hid hn0
  clear hb hl hcap hnone hn0
  generalize hm : l.length = m at *
  have HM := Lib.hid hm
  clear hm
  go_enter Try.func7, Try.ntmps7
  go_wp2_with fail
  refine (known_any w).mono ?_
  rintro e w1 ⟨rfl, k1⟩
  have K1 := Lib.hid k1
  clear k1
  go_wp2_with fail
  refine (new_own w.heap.size w w1 K1.out K1.out.size).mono ?_
  rintro e w2 ⟨B, rfl, o2⟩
  have C2 := bytes_own w.heap.size w w2 B [] a0 cap l o2 rfl HB.out (by rw [HM.out]; exact HC.out) HN.out (by simp) (by rw [HM.out]; omega)
  rw [HM.out] at C2
  have D2 := Lib.hid C2
  clear C2 o2
  go_wp2_with fail
  refine D2.out.mono ?_
  rintro e w3 ⟨rfl, o3⟩
  rw [List.nil_append] at o3
  have C3 := all_own w.heap.size w w3 B (lenBytes l) o3 (by rw [lenBytes_length, HM.out]; omega)
  rw [lenBytes_length, HM.out] at C3
  have D3 := Lib.hid C3
  clear C3 o3
  go_wp2_with fail
  refine D3.out.mono ?_
  rintro e w4 ⟨ao, c, rfl, n4, o4⟩
  have C4 := open_own w.heap.size w w4 ao c (lenBytes l) o4.bel o4.lt (own_bytes n4.1) n4.none (by rw [lenBytes_length, HM.out]; omega) (lenBytes_byte l HL.out)
  rw [lenBytes_length, HM.out] at C4
  have D4 := Lib.hid C4
  clear C4 o4 n4
  go_wp2_with fail
  refine D4.out.mono ?_
  rintro e w5 ⟨R, rfl, r5⟩
  have hl2 : 2 ≤ (lenBytes l).length := by rw [lenBytes_length]; omega
  have hl3 : (lenBytes l).length ≤ 1000000 := by rw [lenBytes_length, HM.out]; omega
  have hrd : rd16 (lenBytes l) = (m : Int) := by rw [lenBytes_rd l (by rw [HM.out]; omega), HM.out]
  by_cases hlong : a1 < (m : Int)
  · have D5 := Lib.hid (rb_long w5 R (lenBytes l) a1 r5.1 hl2 hl3 m hrd hlong)
    have R5 := Lib.hid r5
    clear r5 hl2 hl3 hrd
    go_wp2_with fail
    refine D5.out.mono ?_
    rintro e w6 ⟨rfl, n, rfl⟩
    have C6 := left_any (w5.drewN n) R (lenBytes l) (R5.out.drewN n).1
    rw [lenBytes_length, HM.out] at C6
    have D6 := Lib.hid C6
    have R6 := Lib.hid (R5.out.drewN n)
    clear C6
    go_wp2_with fail
    refine D6.out.mono ?_
    rintro e w7 ⟨rfl, rfl⟩
    go_wp2_with fail
    go_ret
    exact ⟨rfl, R6.out.2.1⟩
  · have D5 := Lib.hid (rb_any w5 R (lenBytes l) a1 r5.1 hl2 hl3 m hrd (by omega) (by rw [lenBytes_length, HM.out]; omega))
    have R5 := Lib.hid r5
    have e1 : ((lenBytes l).drop 2).take m = l := by
      rw [show (lenBytes l).drop 2 = l from rfl, ← HM.out, List.take_length]
    have e2 : (lenBytes l).drop (2 + m) = [] := by
      rw [← List.drop_drop, show (lenBytes l).drop 2 = l from rfl, ← HM.out, List.drop_length]
    rw [e1, e2] at D5
    clear r5 hl2 hl3 hrd e1 e2
    have hlong' : a1 ≥ (m : Int) := by omega
    clear hlong
    go_wp2_with fail
    refine D5.out.mono ?_
    rintro e w6 ⟨ao6, c6, rfl, n6, r6, k6⟩
    have r6' := R5.out.step r6 k6
    have hs1 := str_new n6
    have hs2 := str_bytes (c := cap) (bytes_below HB.out r6'.2.1 (Nat.le_refl _)) HN0.out
    rw [HM.out] at hs1 hs2
    have D6 := Lib.hid (left_any w6 R [] r6)
    have R6 := Lib.hid r6'
    clear n6 r6 k6 r6'
    go_wp2_with fail
    refine D6.out.mono ?_
    rintro e w7 ⟨rfl, rfl⟩
    go_wp2_with fail
    go_ret
    exact ⟨rfl, R6.out.2.1⟩
set_option maxHeartbeats 1000000 in
theorem walk (a0 : Option Addr) (len0 cap0 : Nat) (z0 : List Int) (a1 : Int) (w : World) (w0 : IsRow .u8 w a0 len0 cap0 z0) (w1 : (Lit.int .u8 a1).wf = true) :
    Calls Try.prog 7 #[.slice a0 len0 cap0, .int .u8 a1] w fun e w' => e = .returned (.bool true) ∧ Below w.heap.size w w' := by
  have x1 : 0 ≤ a1 ∧ a1 ≤ 255 := by simpa [Lit.wf, IntKind.min, IntKind.max, IntKind.signed, IntKind.bits] using w1
  obtain ⟨l, hl0, hl, hb, hc, hn⟩ := row_bytes w0
  clear w0 w1
  subst hl0
  by_cases h3 : l.length ≤ 300
  · exact core a0 l cap0 a1 w hb hl hc hn h3 x1
  · have h3' : 300 < l.length := by omega
    clear hb hl hc hn
    go_enter Try.func7, Try.ntmps7
    go_wp2_with fail
    refine (known_any w).mono ?_
    rintro e w1 ⟨rfl, k1⟩
    have K1 := Lib.hid k1
    clear k1
    go_wp2_with fail
    go_ret
    exact ⟨rfl, K1.out⟩

set_option maxRecDepth 100000 in
theorem lifted (os : Os) (started : os.Started) (H : Type) (enc : TypeId × Value → H) :
    ReturnsInHanded {} Try.checked os 7 .any (Rows.wireBoundsSpec.pre6 enc Try.prog Try.f7 Rows.wireBoundsRow.domain false) (Rows.wireBoundsSpec.post enc Try.prog Try.f7 false true false false) := by
  refine returnsInHanded_of_change (C := Try.checked) own started (by kernel_rfl) Try.func7
    (ChangeSpec.witness6 (enc := enc) (C := Try.checked) false ⟨#[], #[.slice none 0 0, .int .u8 0], []⟩ 8 (by kernel_rfl) (by kernel_rfl) (by kernel_rfl) (by kernel_rfl)) ?_
  intro W base args ds gs before hval0 hW hcnd _
  have hval : ∀ (j : Nat) t v, Try.f7.params[j]? = some t → args[j]? = some v → Value.okWide Try.prog W .any base t v := hval0
  have hW' := hW
  obtain ⟨p, q, hA0, hV, rfl, hfz, hnd⟩ := hW
  have hA : DataW.TrodAll enc Try.prog W 0 (fun _ => true) true Try.f7.params.toList args.toList ds p := hA0
  rw [Try.params7] at hA hval
  obtain ⟨v0, vs0, d0, ds0, p0, q0, hargs, rfl, rfl, h0, r0⟩ := trodAll_cons hA
  obtain ⟨v1, vs1, d1, ds1, p1, q1, rfl, rfl, rfl, h1, r1⟩ := trodAll_cons r0
  obtain ⟨rfl, rfl, rfl⟩ := trodAll_nil r1
  obtain rfl : args = #[v0, v1] := by cases args; simp_all
  obtain ⟨rfl, rfl⟩ := trodVars_none hV
  obtain ⟨a0, len0, cap0, rfl⟩ := okWide_slice Try.underlying26 (hval 0 26 v0 rfl rfl)
  have k0 := h0
  have lt0 : ∀ x ∈ p0, x.block < W.heap.size := by obtain ⟨m, hm⟩ := k0; exact DataW.trod_lt m _ _ _ hm
  obtain ⟨z0, w0⟩ : ∃ zs, IsRow .u8 W a0 len0 cap0 zs := by
    obtain ⟨fuel, hf⟩ := h0
    rcases open_ints Try.underlying26 Try.underlying5 (by kernel_rfl) hf with ⟨hcs, _⟩ | ⟨x, l, c, zs, hcs, _, hl, hm, hz, _, hcell, hwz⟩
    · simp [Value.cells] at hcs
      obtain ⟨rfl, rfl, rfl⟩ := hcs
      exact ⟨[], .inl ⟨rfl, rfl, rfl, rfl⟩⟩
    · simp [Value.cells] at hcs
      obtain ⟨rfl, rfl, rfl⟩ := hcs
      exact ⟨zs, .inr ⟨_, rfl, hl, hm, by simpa using hz, hcell, hwz⟩⟩
  obtain ⟨a1, rfl, rfl, rfl, w1⟩ := open_int Try.underlying5 (hval 1 5 v1 rfl rfl) h1
  clear hA0 hval0
  refine (walk a0 len0 cap0 z0 a1 W w0 w1).mono fun e W' ⟨he, bel⟩ => ?_
  subst he
  exact ⟨_, rfl, _, _, _, [], _, [], hW', trodAll_mk1 (shut_bool Try.underlying4 _), (trodAll_cons_mk (Below.trod laidOut (by kernel_rfl) (of_decide_eq_true (by kernel_rfl)) k0 bel lt0) (trodAll_cons_mk (shut_int Try.underlying5 w1) trodAll_mk0)), rfl, bel.frame _, fun h => by cases h⟩

theorem over : Rows.wireBoundsRow.holds Try.pinned (OpenSpec.ofChange Rows.wireBoundsSpec) :=
  OpenClaim.holds_of_wide 7 Try.f7 rfl rfl rfl rfl rfl rfl rfl ⟨rfl, rfl, rfl, rfl, rfl⟩ rfl rfl rfl rfl rfl (by kernel_rfl) Try.func7 (by kernel_rfl)
    (of_decide_eq_true (by kernel_rfl)) (by unfold Func.isWrapper; first | (rw [if_pos (by decide +kernel)]; kernel_rfl) | (rw [if_neg (by decide +kernel)]; exact ⟨rfl, rfl⟩))
    (fun os started H enc _ => lifted os started H enc)

theorem proved : Rows.WireBoundsSaid := over
#print axioms proved
end Go.Proofs.Ythnebpbmhgmcmaa.wireBounds
