/- For every number, row of bytes and place to cut WireCuts returns true and leaves its arguments as they were: no condition. -/
import Derived.Test.YthnebpbmhgmcmaaRows
import Derived.Test.YthnebpbmhgmcmaaOwn
import Derived.WalkKit
import Derived.ProofKit
import Derived.OpenShut
import Derived.ShutString
import Derived.ChangeOld
import Derived.Below
namespace Go.Proofs.Ythnebpbmhgmcmaa.wireCuts
open Go.ChangeShapes Go.WideShapes Go.ChangeAt Go.RowKit
open Go.ChangeMaps (open_string shut_string)
set_option linter.unusedVariables false

theorem own : ownKnob Try.prog.godebug = none := by kernel_rfl
theorem laidOut : laidOutB Try.prog = true := by kernel_rfl

/-- WHAT THE WALK IS TOLD OF A SLICE OF INTEGERS THAT CAME IN: it is nil; or it leads to a row of 'cap' cells, the numbers 'zs' (the first 'len' are its elements, the rest its spare room), each fitting its kind. -/
def IsRow (k : IntKind) (w : World) (a : Option Addr) (len cap : Nat) (zs : List Int) : Prop :=
  (a = none ∧ len = 0 ∧ cap = 0 ∧ zs = []) ∨
  ∃ x, a = some x ∧ len ≤ cap ∧ cap ≤ maxLen ∧ zs.length = cap ∧ (∀ i, i < zs.length → w.cell? (x.add i) = some (.int k (zs.getD i 0))) ∧ ∀ n ∈ zs, (Lit.int k n).wf = true

theorem row_bytes {w : World} {a : Option Addr} {len cap : Nat} {zs : List Int} (h : IsRow .u8 w a len cap zs) :
    ∃ l : List Int, l.length = len ∧ (∀ x ∈ l, isByte x) ∧ Bytes w a l ∧ l.length ≤ cap ∧ (a = none → cap = 0) := by
  rcases h with ⟨rfl, rfl, rfl, rfl⟩ | ⟨x, rfl, hl, hm, hz, hc, hw⟩
  · exact ⟨[], rfl, fun x hx => by simp at hx, fun i hi => by simp at hi, Nat.le_refl _, fun _ => rfl⟩
  · refine ⟨zs.take len, by simp; omega, fun y hy => ?_, fun i hi => ?_, by simp; omega, fun e => by cases e⟩
    · have := hw y (List.mem_of_mem_take hy)
      simpa [isByte, Lit.wf, IntKind.min, IntKind.max, IntKind.signed, IntKind.bits] using this
    · simp only [List.length_take] at hi
      refine ⟨x, rfl, ?_⟩
      rw [hc i (by omega)]
      simp [List.getD_eq_getElem?_getD, show i < len from by omega]

theorem lenBytes_length (l : List Int) : (lenBytes l).length = l.length + 2 := by simp [lenBytes]

theorem lenBytes_byte (l : List Int) (h : ∀ x ∈ l, isByte x) : ∀ x ∈ lenBytes l, isByte x := by
  intro x hx
  simp only [lenBytes, List.cons_append, List.nil_append, List.mem_cons] at hx
  rcases hx with rfl | rfl | hx
  · exact isByte_mod _
  · exact isByte_mod _
  · exact h x hx

theorem lenBytes_rd (l : List Int) (h : l.length ≤ 60000) : rd16 (lenBytes l) = (l.length : Int) := by
  simp only [rd16, lenBytes, List.cons_append, List.nil_append, List.getD_cons_zero, List.getD_cons_succ]
  omega

def be4 (c : Int) : List Int := [c / 16777216 % 256, c / 65536 % 256, c / 256 % 256, c % 256]

theorem all_byte (c : Int) (l : List Int) (h : ∀ x ∈ l, isByte x) : ∀ x ∈ be4 c ++ lenBytes l, isByte x := by
  intro x hx
  rcases List.mem_append.1 hx with hx | hx
  · simp only [be4, List.mem_cons, List.not_mem_nil, or_false] at hx
    rcases hx with rfl | rfl | rfl | rfl <;> exact isByte_mod _
  · exact lenBytes_byte l h x hx

theorem bytes_take {w : World} {ao : Option Addr} {l : List Int} (h : Bytes w ao l) (k : Nat) : Bytes w ao (l.take k) := by
  intro i hi
  simp only [List.length_take] at hi
  obtain ⟨ad, e, hc⟩ := h i (by omega)
  exact ⟨ad, e, by rw [hc, getD_take l k i (by omega)]⟩

theorem rd_four (c : Int) (r : List Int) (h : 0 ≤ c ∧ c ≤ 4294967295) : rd32 (be4 c ++ r) = c := by
  simp only [rd32, be4, List.cons_append, List.nil_append, List.getD_cons_zero, List.getD_cons_succ]
  omega

theorem rd_two (l : List Int) (h : l.length ≤ 60000) (j : Nat) : rd16 ((lenBytes l).take (j + 2)) = (l.length : Int) := by
  rw [← lenBytes_rd l h]
  rfl

set_option maxHeartbeats 1000000 in
theorem core (a0 : Int) (a1 : Option Addr) (l : List Int) (cap : Nat) (a2 : Int) (w : World) (hb : Bytes w a1 l) (hl : ∀ x ∈ l, isByte x) (hcap : l.length ≤ cap) (hnone : a1 = none → cap = 0) (h3 : l.length ≤ 300) (h0 : 0 ≤ a0 ∧ a0 ≤ 4294967295) (h2 : 0 ≤ a2 ∧ a2 ≤ 65535) :
    Calls Try.prog 6 #[.int .u32 a0, .slice a1 l.length cap, .int .u16 a2] w fun e w' => e = .returned (.bool true) ∧ Below w.heap.size w w' := by
  have HB := Lib.hid hb
  have HL := Lib.hid hl
  have HC := Lib.hid hcap
  have HN := Lib.hid hnone
  clear hb hl hcap hnone
  generalize hm : l.length = m at *
  have HM := Lib.hid hm
  clear hm
  have hT : (be4 a0 ++ lenBytes l).length = m + 6 := by rw [List.length_append, lenBytes_length, HM.out]; simp [be4]; omega
  have HT := Lib.hid hT
  clear hT
  obtain ⟨k, hk, ek⟩ : ∃ k : Nat, k < m + 6 ∧ a2 % ((m : Int) + 6) = (k : Int) :=
    ⟨(a2 % ((m : Int) + 6)).toNat, by have := Int.emod_lt_of_pos a2 (b := (m : Int) + 6) (by omega); have := Int.emod_nonneg a2 (b := (m : Int) + 6) (by omega); omega, by have := Int.emod_nonneg a2 (b := (m : Int) + 6) (by omega); omega⟩
  go_enter Try.func6, Try.ntmps6
  go_wp2_with fail
  refine (known_any w).mono ?_
  rintro e w1 ⟨rfl, k1⟩
  have K1 := Lib.hid k1
  clear k1
  go_wp2_with fail
  refine (new_own w.heap.size w w1 K1.out K1.out.size).mono ?_
  rintro e w2 ⟨B, rfl, o2⟩
  have U2 := Lib.hid (u32_own w.heap.size w w2 B [] a0 o2 (by simp))
  clear o2
  go_wp2_with fail
  refine U2.out.mono ?_
  rintro e w2 ⟨rfl, o2⟩
  have C2 := bytes_own w.heap.size w w2 B (be4 a0) a1 cap l o2 rfl HB.out (by rw [HM.out]; exact HC.out) HN.out (by simp [be4]) (by rw [HM.out]; omega)
  rw [HM.out] at C2
  have D2 := Lib.hid C2
  clear C2 o2
  go_wp2_with fail
  refine D2.out.mono ?_
  rintro e w3 ⟨rfl, o3⟩
  have C3 := all_own w.heap.size w w3 B (be4 a0 ++ lenBytes l) o3 (by rw [HT.out]; omega)
  rw [HT.out] at C3
  have D3 := Lib.hid C3
  clear C3 o3
  go_wp2_with fail
  refine D3.out.mono ?_
  rintro e w4 ⟨ao, c, rfl, n4, o4⟩
  have hcm : m + 6 ≤ c := by
    have ho := n4.1
    rw [HT.out] at ho
    rcases ho.2 with ⟨_, h0⟩ | ⟨g, c3, cur, hv, _, _, h1, _⟩
    · omega
    · injection hv with _ _ hv; omega
  have hao : ∃ ad, ao = some ad := by
    cases ao with
    | none => have := (n4.none rfl).1; rw [this] at HT; have := HT.out; simp at this
    | some ad => exact ⟨ad, rfl⟩
  obtain ⟨ad, rfl⟩ := hao
  have hkl : ((be4 a0 ++ lenBytes l).take k).length = k := by rw [List.length_take, HT.out]; omega
  have C4 := open_own w.heap.size w w4 (some ad) c ((be4 a0 ++ lenBytes l).take k) o4.bel o4.lt (bytes_take (own_bytes n4.1) k) (fun e => by cases e) (by rw [hkl]; omega) (fun x hx => all_byte a0 l HL.out x (List.mem_of_mem_take hx))
  rw [hkl] at C4
  have D4 := Lib.hid C4
  have HK := Lib.hid hkl
  clear C4 o4 n4 hkl
  go_wp2_with fail
  refine D4.out.mono ?_
  rintro e w5 ⟨R, rfl, r5⟩
  by_cases h4 : k < 4
  · have D5 := Lib.hid (r32_short w5 R _ r5.1 (by rw [HK.out]; exact h4))
    have D6' := left_any w5 R _ r5.1
    rw [HK.out] at D6'
    have D6 := Lib.hid D6'
    have R5 := Lib.hid r5
    clear r5 D6'
    go_wp2_with fail
    refine D5.out.mono ?_
    rintro e w6 ⟨rfl, rfl⟩
    go_wp2_with fail
    refine D6.out.mono ?_
    rintro e w7 ⟨rfl, rfl⟩
    go_wp2_with fail
    go_ret
    exact ⟨rfl, R5.out.2.1⟩
  · obtain ⟨j, rfl⟩ : ∃ j, k = j + 4 := ⟨k - 4, by omega⟩
    have e1 : (be4 a0 ++ lenBytes l).take (j + 4) = be4 a0 ++ (lenBytes l).take j := rfl
    rw [e1] at r5
    have hjl : ((lenBytes l).take j).length = j := by rw [List.length_take, lenBytes_length, HM.out]; omega
    have D5' := r32_any w5 R _ r5.1 (by simp [be4]) (by rw [List.length_append, hjl]; simp [be4]; omega)
    rw [rd_four a0 _ h0, show (be4 a0 ++ (lenBytes l).take j).drop 4 = (lenBytes l).take j from rfl] at D5'
    have D5 := Lib.hid D5'
    have HJ := Lib.hid hjl
    have R5 := Lib.hid r5
    clear r5 D5' hjl e1
    go_wp2_with fail
    refine D5.out.mono ?_
    rintro e w6 ⟨rfl, r6, k6⟩
    have r6' := R5.out.step r6 k6
    have hB : Calls Try.prog 22 #[.pointer (some ⟨R, 0, none⟩), .int .i64 300] w6 fun e w' => e = .returned (.tuple #[.slice none 0 0, .int .i64 20]) ∧ Lft w.heap.size w w' R ((lenBytes l).take j) := by
      by_cases hj2 : j < 2
      · refine (rb_short w6 R _ 300 r6 (by rw [HJ.out]; exact hj2)).mono ?_
        rintro e w' ⟨rfl, rfl⟩
        exact ⟨rfl, r6'⟩
      · obtain ⟨i, rfl⟩ : ∃ i, j = i + 2 := ⟨j - 2, by omega⟩
        refine (rb_cut w6 R _ 300 r6 (by rw [HJ.out]; omega) (by rw [HJ.out]; omega) m (by rw [rd_two l (by rw [HM.out]; omega), HM.out]) (by omega) (by rw [HJ.out]; omega)).mono ?_
        rintro e w' ⟨rfl, n, rfl⟩
        exact ⟨rfl, r6'.drewN n⟩
    have D6 := Lib.hid hB
    clear hB r6 k6 r6'
    go_wp2_with fail
    refine D6.out.mono ?_
    rintro e w7 ⟨rfl, r7⟩
    have D7' := left_any w7 R _ r7.1
    rw [HJ.out] at D7'
    have D7 := Lib.hid D7'
    have R7 := Lib.hid r7
    clear r7 D7'
    go_wp2_with fail
    refine D7.out.mono ?_
    rintro e w8 ⟨rfl, rfl⟩
    go_wp2_with fail
    go_ret
    exact ⟨rfl, R7.out.2.1⟩
set_option maxHeartbeats 1000000 in
theorem walk (a0 : Int) (a1 : Option Addr) (len1 cap1 : Nat) (z1 : List Int) (a2 : Int) (w : World) (w0 : (Lit.int .u32 a0).wf = true) (w1 : IsRow .u8 w a1 len1 cap1 z1) (w2 : (Lit.int .u16 a2).wf = true) :
    Calls Try.prog 6 #[.int .u32 a0, .slice a1 len1 cap1, .int .u16 a2] w fun e w' => e = .returned (.bool true) ∧ Below w.heap.size w w' := by
  have x0 : 0 ≤ a0 ∧ a0 ≤ 4294967295 := by simpa [Lit.wf, IntKind.min, IntKind.max, IntKind.signed, IntKind.bits] using w0
  have x2 : 0 ≤ a2 ∧ a2 ≤ 65535 := by simpa [Lit.wf, IntKind.min, IntKind.max, IntKind.signed, IntKind.bits] using w2
  obtain ⟨l, hl0, hl, hb, hc, hn⟩ := row_bytes w1
  clear w0 w1 w2
  subst hl0
  by_cases h3 : l.length ≤ 300
  · exact core a0 a1 l cap1 a2 w hb hl hc hn h3 x0 x2
  · have h3' : 300 < l.length := by omega
    clear hb hl hc hn
    go_enter Try.func6, Try.ntmps6
    go_wp2_with fail
    refine (known_any w).mono ?_
    rintro e w1 ⟨rfl, k1⟩
    have K1 := Lib.hid k1
    clear k1
    go_wp2_with fail
    go_ret
    exact ⟨rfl, K1.out⟩

set_option maxRecDepth 100000 in
theorem lifted (os : Os) (started : os.Started) (H : Type) (enc : TypeId × Value → H) :
    ReturnsInHanded {} Try.checked os 6 .any (Rows.wireCutsSpec.pre6 enc Try.prog Try.f6 Rows.wireCutsRow.domain false) (Rows.wireCutsSpec.post enc Try.prog Try.f6 false true false false) := by
  refine returnsInHanded_of_change (C := Try.checked) own started (by kernel_rfl) Try.func6
    (ChangeSpec.witness6 (enc := enc) (C := Try.checked) false ⟨#[], #[.int .u32 0, .slice none 0 0, .int .u16 0], []⟩ 8 (by kernel_rfl) (by kernel_rfl) (by kernel_rfl) (by kernel_rfl)) ?_
  intro W base args ds gs before hval0 hW hcnd _
  have hval : ∀ (j : Nat) t v, Try.f6.params[j]? = some t → args[j]? = some v → Value.okWide Try.prog W .any base t v := hval0
  have hW' := hW
  obtain ⟨p, q, hA0, hV, rfl, hfz, hnd⟩ := hW
  have hA : DataW.TrodAll enc Try.prog W 0 (fun _ => true) true Try.f6.params.toList args.toList ds p := hA0
  rw [Try.params6] at hA hval
  obtain ⟨v0, vs0, d0, ds0, p0, q0, hargs, rfl, rfl, h0, r0⟩ := trodAll_cons hA
  obtain ⟨v1, vs1, d1, ds1, p1, q1, rfl, rfl, rfl, h1, r1⟩ := trodAll_cons r0
  obtain ⟨v2, vs2, d2, ds2, p2, q2, rfl, rfl, rfl, h2, r2⟩ := trodAll_cons r1
  obtain ⟨rfl, rfl, rfl⟩ := trodAll_nil r2
  obtain rfl : args = #[v0, v1, v2] := by cases args; simp_all
  obtain ⟨rfl, rfl⟩ := trodVars_none hV
  obtain ⟨a0, rfl, rfl, rfl, w0⟩ := open_int Try.underlying35 (hval 0 35 v0 rfl rfl) h0
  obtain ⟨a1, len1, cap1, rfl⟩ := okWide_slice Try.underlying26 (hval 1 26 v1 rfl rfl)
  have k1 := h1
  have lt1 : ∀ x ∈ p1, x.block < W.heap.size := by obtain ⟨m, hm⟩ := k1; exact DataW.trod_lt m _ _ _ hm
  obtain ⟨z1, w1⟩ : ∃ zs, IsRow .u8 W a1 len1 cap1 zs := by
    obtain ⟨fuel, hf⟩ := h1
    rcases open_ints Try.underlying26 Try.underlying5 (by kernel_rfl) hf with ⟨hcs, _⟩ | ⟨x, l, c, zs, hcs, _, hl, hm, hz, _, hcell, hwz⟩
    · simp [Value.cells] at hcs
      obtain ⟨rfl, rfl, rfl⟩ := hcs
      exact ⟨[], .inl ⟨rfl, rfl, rfl, rfl⟩⟩
    · simp [Value.cells] at hcs
      obtain ⟨rfl, rfl, rfl⟩ := hcs
      exact ⟨zs, .inr ⟨_, rfl, hl, hm, by simpa using hz, hcell, hwz⟩⟩
  obtain ⟨a2, rfl, rfl, rfl, w2⟩ := open_int Try.underlying33 (hval 2 33 v2 rfl rfl) h2
  clear hA0 hval0
  refine (walk a0 a1 len1 cap1 z1 a2 W w0 w1 w2).mono fun e W' ⟨he, bel⟩ => ?_
  subst he
  exact ⟨_, rfl, _, _, _, [], _, [], hW', trodAll_mk1 (shut_bool Try.underlying4 _), (trodAll_cons_mk (shut_int Try.underlying35 w0) (trodAll_cons_mk (Below.trod laidOut (by kernel_rfl) (of_decide_eq_true (by kernel_rfl)) k1 bel lt1) (trodAll_cons_mk (shut_int Try.underlying33 w2) trodAll_mk0))), rfl, bel.frame _, fun h => by cases h⟩

theorem over : Rows.wireCutsRow.holds Try.pinned (OpenSpec.ofChange Rows.wireCutsSpec) :=
  OpenClaim.holds_of_wide 6 Try.f6 rfl rfl rfl rfl rfl rfl rfl ⟨rfl, rfl, rfl, rfl, rfl⟩ rfl rfl rfl rfl rfl (by kernel_rfl) Try.func6 (by kernel_rfl)
    (of_decide_eq_true (by kernel_rfl)) (by unfold Func.isWrapper; first | (rw [if_pos (by decide +kernel)]; kernel_rfl) | (rw [if_neg (by decide +kernel)]; exact ⟨rfl, rfl⟩))
    (fun os started H enc _ => lifted os started H enc)

theorem proved : Rows.WireCutsSaid := over
#print axioms proved
end Go.Proofs.Ythnebpbmhgmcmaa.wireCuts
