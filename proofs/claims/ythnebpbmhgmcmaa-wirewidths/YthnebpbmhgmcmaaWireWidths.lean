/- For every number of each width and every row of bytes WireWidths returns true and leaves its arguments as they were: no condition. -/
import Derived.Test.YthnebpbmhgmcmaaRows
import Derived.Test.YthnebpbmhgmcmaaOwn
import Derived.WalkKit
import Derived.ProofKit
import Derived.OpenShut
import Derived.ShutString
import Derived.ChangeOld
import Derived.Below
namespace Go.Proofs.Ythnebpbmhgmcmaa.wireWidths
open Go.ChangeShapes Go.WideShapes Go.ChangeAt Go.RowKit
open Go.ChangeMaps (open_string shut_string)
set_option linter.unusedVariables false

theorem own : ownKnob Try.prog.godebug = none := by kernel_rfl
theorem laidOut : laidOutB Try.prog = true := by kernel_rfl

/-- WHAT THE WALK IS TOLD OF A SLICE OF INTEGERS THAT CAME IN: it is nil; or it leads to a row of 'cap' cells, the numbers 'zs' (the first 'len' are its elements, the rest its spare room), each fitting its kind. -/
def IsRow (k : IntKind) (w : World) (a : Option Addr) (len cap : Nat) (zs : List Int) : Prop :=
  (a = none ∧ len = 0 ∧ cap = 0 ∧ zs = []) ∨
  ∃ x, a = some x ∧ len ≤ cap ∧ cap ≤ maxLen ∧ zs.length = cap ∧ (∀ i, i < zs.length → w.cell? (x.add i) = some (.int k (zs.getD i 0))) ∧ ∀ n ∈ zs, (Lit.int k n).wf = true

theorem row_bytes {w : World} {a : Option Addr} {len cap : Nat} {zs : List Int} (h : IsRow .u8 w a len cap zs) :
    ∃ l : List Int, l.length = len ∧ (∀ x ∈ l, isByte x) ∧ Bytes w a l ∧ l.length ≤ cap ∧ (a = none → cap = 0) := by
  rcases h with ⟨rfl, rfl, rfl, rfl⟩ | ⟨x, rfl, hl, hm, hz, hc, hw⟩
  · exact ⟨[], rfl, fun x hx => by simp at hx, fun i hi => by simp at hi, Nat.le_refl _, fun _ => rfl⟩
  · refine ⟨zs.take len, by simp; omega, fun y hy => ?_, fun i hi => ?_, by simp; omega, fun e => by cases e⟩
    · have := hw y (List.mem_of_mem_take hy)
      simpa [isByte, Lit.wf, IntKind.min, IntKind.max, IntKind.signed, IntKind.bits] using this
    · simp only [List.length_take] at hi
      refine ⟨x, rfl, ?_⟩
      rw [hc i (by omega)]
      simp [List.getD_eq_getElem?_getD, show i < len from by omega]

theorem lenBytes_length (l : List Int) : (lenBytes l).length = l.length + 2 := by simp [lenBytes]

theorem lenBytes_byte (l : List Int) (h : ∀ x ∈ l, isByte x) : ∀ x ∈ lenBytes l, isByte x := by
  intro x hx
  simp only [lenBytes, List.cons_append, List.nil_append, List.mem_cons] at hx
  rcases hx with rfl | rfl | hx
  · exact isByte_mod _
  · exact isByte_mod _
  · exact h x hx

theorem lenBytes_rd (l : List Int) (h : l.length ≤ 60000) : rd16 (lenBytes l) = (l.length : Int) := by
  simp only [rd16, lenBytes, List.cons_append, List.nil_append, List.getD_cons_zero, List.getD_cons_succ]
  omega

set_option maxHeartbeats 1000000 in
theorem core (a0 a1 a2 a3 : Int) (a4 : Option Addr) (l : List Int) (cap : Nat) (w : World) (hb : Bytes w a4 l) (hcap : l.length ≤ cap) (hnone : a4 = none → cap = 0) (h3 : l.length ≤ 300) :
    Calls Try.prog 5 #[.int .u8 a0, .int .u16 a1, .int .u32 a2, .int .u64 a3, .slice a4 l.length cap] w fun e w' => e = .returned (.bool true) ∧ Below w.heap.size w w' := by
  have HB := Lib.hid hb
  have HC := Lib.hid hcap
  have HN := Lib.hid hnone
  clear hb hcap hnone
  generalize hm : l.length = m at *
  have HM := Lib.hid hm
  clear hm
  go_enter Try.func5, Try.ntmps5
  go_wp2_with fail
  refine (known_any w).mono ?_
  rintro e w1 ⟨rfl, k1⟩
  have K1 := Lib.hid k1
  clear k1
  go_wp2_with fail
  refine (new_own w.heap.size w w1 K1.out K1.out.size).mono ?_
  rintro e w2 ⟨B, rfl, o2⟩
  have U3 := Lib.hid (u8_own w.heap.size w w2 B [] a0 o2 (by simp))
  clear o2
  go_wp2_with fail
  refine U3.out.mono ?_
  rintro e w3 ⟨rfl, o3⟩
  rw [List.nil_append] at o3
  have C4 := all_own w.heap.size w w3 B ([a0]) o3 (by simp)
  rw [show ([a0]).length = 1 from rfl] at C4
  have D4 := Lib.hid C4
  clear C4 o3
  go_wp2_with fail
  refine D4.out.mono ?_
  rintro e w4 ⟨ao4, c4, rfl, -, o4⟩
  have U5 := Lib.hid (u16_own w.heap.size w w4 B ([a0]) a1 o4 (by simp))
  clear o4
  go_wp2_with fail
  refine U5.out.mono ?_
  rintro e w5 ⟨rfl, o5⟩
  have C6 := all_own w.heap.size w w5 B ([a0] ++ [a1 / 256 % 256, a1 % 256]) o5 (by simp)
  rw [show ([a0] ++ [a1 / 256 % 256, a1 % 256]).length = 3 from rfl] at C6
  have D6 := Lib.hid C6
  clear C6 o5
  go_wp2_with fail
  refine D6.out.mono ?_
  rintro e w6 ⟨ao6, c6, rfl, -, o6⟩
  have U7 := Lib.hid (u32_own w.heap.size w w6 B ([a0] ++ [a1 / 256 % 256, a1 % 256]) a2 o6 (by simp))
  clear o6
  go_wp2_with fail
  refine U7.out.mono ?_
  rintro e w7 ⟨rfl, o7⟩
  have C8 := all_own w.heap.size w w7 B ([a0] ++ [a1 / 256 % 256, a1 % 256] ++ [a2 / 16777216 % 256, a2 / 65536 % 256, a2 / 256 % 256, a2 % 256]) o7 (by simp)
  rw [show ([a0] ++ [a1 / 256 % 256, a1 % 256] ++ [a2 / 16777216 % 256, a2 / 65536 % 256, a2 / 256 % 256, a2 % 256]).length = 7 from rfl] at C8
  have D8 := Lib.hid C8
  clear C8 o7
  go_wp2_with fail
  refine D8.out.mono ?_
  rintro e w8 ⟨ao8, c8, rfl, -, o8⟩
  have U9 := Lib.hid (u64_own w.heap.size w w8 B ([a0] ++ [a1 / 256 % 256, a1 % 256] ++ [a2 / 16777216 % 256, a2 / 65536 % 256, a2 / 256 % 256, a2 % 256]) a3 o8 (by simp))
  clear o8
  go_wp2_with fail
  refine U9.out.mono ?_
  rintro e w9 ⟨rfl, o9⟩
  have C10 := all_own w.heap.size w w9 B ([a0] ++ [a1 / 256 % 256, a1 % 256] ++ [a2 / 16777216 % 256, a2 / 65536 % 256, a2 / 256 % 256, a2 % 256] ++ be8 a3) o9 (by simp [be8])
  rw [show ([a0] ++ [a1 / 256 % 256, a1 % 256] ++ [a2 / 16777216 % 256, a2 / 65536 % 256, a2 / 256 % 256, a2 % 256] ++ be8 a3).length = 15 from rfl] at C10
  have D10 := Lib.hid C10
  clear C10 o9
  go_wp2_with fail
  refine D10.out.mono ?_
  rintro e w10 ⟨ao10, c10, rfl, -, o10⟩
  have E11 := bytes_own w.heap.size w w10 B ([a0] ++ [a1 / 256 % 256, a1 % 256] ++ [a2 / 16777216 % 256, a2 / 65536 % 256, a2 / 256 % 256, a2 % 256] ++ be8 a3) a4 cap l o10 rfl HB.out (by rw [HM.out]; exact HC.out) HN.out (by simp [be8]) (by rw [HM.out]; omega)
  rw [HM.out] at E11
  have D11 := Lib.hid E11
  clear E11 o10
  go_wp2_with fail
  refine D11.out.mono ?_
  rintro e w11 ⟨rfl, o11⟩
  have hT : (([a0] ++ [a1 / 256 % 256, a1 % 256] ++ [a2 / 16777216 % 256, a2 / 65536 % 256, a2 / 256 % 256, a2 % 256] ++ be8 a3) ++ lenBytes l).length = m + 17 := by rw [List.length_append, lenBytes_length, HM.out]; simp [be8]; omega
  have C12 := all_own w.heap.size w w11 B (([a0] ++ [a1 / 256 % 256, a1 % 256] ++ [a2 / 16777216 % 256, a2 / 65536 % 256, a2 / 256 % 256, a2 % 256] ++ be8 a3) ++ lenBytes l) o11 (by rw [hT]; omega)
  rw [hT] at C12
  have D12 := Lib.hid C12
  have HT := Lib.hid hT
  clear C12 o11 hT
  go_wp2_with fail
  refine D12.out.mono ?_
  rintro e w12 ⟨ao, c, rfl, n12, o12⟩
  have ho := n12.1
  rw [HT.out] at ho
  have hform : ∃ g, ao = some ⟨g, 0, none⟩ := by
    rcases ho.2 with ⟨_, h0⟩ | ⟨g, c3, cur, hv, _⟩
    · omega
    · injection hv with hv; exact ⟨g, hv⟩
  obtain ⟨g, rfl⟩ := hform
  have q0 : w12.cell? ⟨g, 0, none⟩ = some (.int .u8 a0) := ho.cellAt 0 (by omega)
  have q1 : w12.cell? ⟨g, 1, none⟩ = some (.int .u8 (a1 / 256 % 256)) := ho.cellAt 1 (by omega)
  have q2 : w12.cell? ⟨g, 2, none⟩ = some (.int .u8 (a1 % 256)) := ho.cellAt 2 (by omega)
  have q6 : w12.cell? ⟨g, 6, none⟩ = some (.int .u8 (a2 % 256)) := ho.cellAt 6 (by omega)
  have q7 : w12.cell? ⟨g, 7, none⟩ = some (.int .u8 (a3 / 72057594037927936 % 256)) := ho.cellAt 7 (by omega)
  have q14 : w12.cell? ⟨g, 14, none⟩ = some (.int .u8 (a3 % 256)) := ho.cellAt 14 (by omega)
  have R12 := Lib.hid o12.bel
  clear ho o12 n12
  go_wp2_with fail
  go_ret
  exact ⟨rfl, R12.out⟩
set_option maxHeartbeats 1000000 in
theorem walk (a0 : Int) (a1 : Int) (a2 : Int) (a3 : Int) (a4 : Option Addr) (len4 cap4 : Nat) (z4 : List Int) (w : World) (w0 : (Lit.int .u8 a0).wf = true) (w1 : (Lit.int .u16 a1).wf = true) (w2 : (Lit.int .u32 a2).wf = true) (w3 : (Lit.int .u64 a3).wf = true) (w4 : IsRow .u8 w a4 len4 cap4 z4) :
    Calls Try.prog 5 #[.int .u8 a0, .int .u16 a1, .int .u32 a2, .int .u64 a3, .slice a4 len4 cap4] w fun e w' => e = .returned (.bool true) ∧ Below w.heap.size w w' := by
  obtain ⟨l, hl0, -, hb, hc, hn⟩ := row_bytes w4
  clear w0 w1 w2 w3 w4
  subst hl0
  by_cases h3 : l.length ≤ 300
  · exact core a0 a1 a2 a3 a4 l cap4 w hb hc hn h3
  · have h3' : 300 < l.length := by omega
    clear hb hc hn
    go_enter Try.func5, Try.ntmps5
    go_wp2_with fail
    refine (known_any w).mono ?_
    rintro e w1 ⟨rfl, k1⟩
    have K1 := Lib.hid k1
    clear k1
    go_wp2_with fail
    go_ret
    exact ⟨rfl, K1.out⟩

set_option maxRecDepth 100000 in
theorem lifted (os : Os) (started : os.Started) (H : Type) (enc : TypeId × Value → H) :
    ReturnsInHanded {} Try.checked os 5 .any (Rows.wireWidthsSpec.pre6 enc Try.prog Try.f5 Rows.wireWidthsRow.domain false) (Rows.wireWidthsSpec.post enc Try.prog Try.f5 false true false false) := by
  refine returnsInHanded_of_change (C := Try.checked) own started (by kernel_rfl) Try.func5
    (ChangeSpec.witness6 (enc := enc) (C := Try.checked) false ⟨#[], #[.int .u8 0, .int .u16 0, .int .u32 0, .int .u64 0, .slice none 0 0], []⟩ 8 (by kernel_rfl) (by kernel_rfl) (by kernel_rfl) (by kernel_rfl)) ?_
  intro W base args ds gs before hval0 hW hcnd _
  have hval : ∀ (j : Nat) t v, Try.f5.params[j]? = some t → args[j]? = some v → Value.okWide Try.prog W .any base t v := hval0
  have hW' := hW
  obtain ⟨p, q, hA0, hV, rfl, hfz, hnd⟩ := hW
  have hA : DataW.TrodAll enc Try.prog W 0 (fun _ => true) true Try.f5.params.toList args.toList ds p := hA0
  rw [Try.params5] at hA hval
  obtain ⟨v0, vs0, d0, ds0, p0, q0, hargs, rfl, rfl, h0, r0⟩ := trodAll_cons hA
  obtain ⟨v1, vs1, d1, ds1, p1, q1, rfl, rfl, rfl, h1, r1⟩ := trodAll_cons r0
  obtain ⟨v2, vs2, d2, ds2, p2, q2, rfl, rfl, rfl, h2, r2⟩ := trodAll_cons r1
  obtain ⟨v3, vs3, d3, ds3, p3, q3, rfl, rfl, rfl, h3, r3⟩ := trodAll_cons r2
  obtain ⟨v4, vs4, d4, ds4, p4, q4, rfl, rfl, rfl, h4, r4⟩ := trodAll_cons r3
  obtain ⟨rfl, rfl, rfl⟩ := trodAll_nil r4
  obtain rfl : args = #[v0, v1, v2, v3, v4] := by cases args; simp_all
  obtain ⟨rfl, rfl⟩ := trodVars_none hV
  obtain ⟨a0, rfl, rfl, rfl, w0⟩ := open_int Try.underlying5 (hval 0 5 v0 rfl rfl) h0
  obtain ⟨a1, rfl, rfl, rfl, w1⟩ := open_int Try.underlying33 (hval 1 33 v1 rfl rfl) h1
  obtain ⟨a2, rfl, rfl, rfl, w2⟩ := open_int Try.underlying35 (hval 2 35 v2 rfl rfl) h2
  obtain ⟨a3, rfl, rfl, rfl, w3⟩ := open_int Try.underlying27 (hval 3 27 v3 rfl rfl) h3
  obtain ⟨a4, len4, cap4, rfl⟩ := okWide_slice Try.underlying26 (hval 4 26 v4 rfl rfl)
  have k4 := h4
  have lt4 : ∀ x ∈ p4, x.block < W.heap.size := by obtain ⟨m, hm⟩ := k4; exact DataW.trod_lt m _ _ _ hm
  obtain ⟨z4, w4⟩ : ∃ zs, IsRow .u8 W a4 len4 cap4 zs := by
    obtain ⟨fuel, hf⟩ := h4
    rcases open_ints Try.underlying26 Try.underlying5 (by kernel_rfl) hf with ⟨hcs, _⟩ | ⟨x, l, c, zs, hcs, _, hl, hm, hz, _, hcell, hwz⟩
    · simp [Value.cells] at hcs
      obtain ⟨rfl, rfl, rfl⟩ := hcs
      exact ⟨[], .inl ⟨rfl, rfl, rfl, rfl⟩⟩
    · simp [Value.cells] at hcs
      obtain ⟨rfl, rfl, rfl⟩ := hcs
      exact ⟨zs, .inr ⟨_, rfl, hl, hm, by simpa using hz, hcell, hwz⟩⟩
  clear hA0 hval0
  refine (walk a0 a1 a2 a3 a4 len4 cap4 z4 W w0 w1 w2 w3 w4).mono fun e W' ⟨he, bel⟩ => ?_
  subst he
  exact ⟨_, rfl, _, _, _, [], _, [], hW', trodAll_mk1 (shut_bool Try.underlying4 _), (trodAll_cons_mk (shut_int Try.underlying5 w0) (trodAll_cons_mk (shut_int Try.underlying33 w1) (trodAll_cons_mk (shut_int Try.underlying35 w2) (trodAll_cons_mk (shut_int Try.underlying27 w3) (trodAll_cons_mk (Below.trod laidOut (by kernel_rfl) (of_decide_eq_true (by kernel_rfl)) k4 bel lt4) trodAll_mk0))))), rfl, bel.frame _, fun h => by cases h⟩

theorem over : Rows.wireWidthsRow.holds Try.pinned (OpenSpec.ofChange Rows.wireWidthsSpec) :=
  OpenClaim.holds_of_wide 5 Try.f5 rfl rfl rfl rfl rfl rfl rfl ⟨rfl, rfl, rfl, rfl, rfl⟩ rfl rfl rfl rfl rfl (by kernel_rfl) Try.func5 (by kernel_rfl)
    (of_decide_eq_true (by kernel_rfl)) (by unfold Func.isWrapper; first | (rw [if_pos (by decide +kernel)]; kernel_rfl) | (rw [if_neg (by decide +kernel)]; exact ⟨rfl, rfl⟩))
    (fun os started H enc _ => lifted os started H enc)

theorem proved : Rows.WireWidthsSaid := over
#print axioms proved
end Go.Proofs.Ythnebpbmhgmcmaa.wireWidths
