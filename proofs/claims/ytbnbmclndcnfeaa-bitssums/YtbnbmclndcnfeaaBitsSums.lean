/- For every row of bytes and every two bytes the law BitsSums returns true: the sum of up to 300 bytes goes on from the sum of those ahead, and one byte changed is another sum. No condition. -/
import Derived.Test.YtbnbmclndcnfeaaRows
import Derived.Test.YtbnbmclndcnfeaaCalls
import Derived.Test.YtbnbmclndcnfeaaSums
import Derived.Laws.OwnMore
import Derived.OwnWalk
import Derived.WalkSpells
import Derived.Deep.AppendLies
import Derived.WalkKit
import Derived.ProofKit
import Derived.OpenShut
import Derived.ShutString
import Derived.ChangeOld
import Derived.Below
namespace Go.Proofs.Ytbnbmclndcnfeaa.bitsSums
open Go.ChangeShapes Go.WideShapes Go.ChangeAt Go.RowKit
open Go.ChangeMaps (open_string shut_string)
set_option linter.unusedVariables false

theorem own : ownKnob Try.prog.godebug = none := by kernel_rfl
theorem laidOut : laidOutB Try.prog = true := by kernel_rfl

/-- WHAT THE WALK IS TOLD OF A SLICE OF INTEGERS THAT CAME IN: it is nil; or it leads to a row of 'cap' cells, the numbers 'zs' (the first 'len' are its elements, the rest its spare room), each fitting its kind. -/
def IsRow (k : IntKind) (w : World) (a : Option Addr) (len cap : Nat) (zs : List Int) : Prop :=
  (a = none ∧ len = 0 ∧ cap = 0 ∧ zs = []) ∨
  ∃ x, a = some x ∧ len ≤ cap ∧ cap ≤ maxLen ∧ zs.length = cap ∧ (∀ i, i < zs.length → w.cell? (x.add i) = some (.int k (zs.getD i 0))) ∧ ∀ n ∈ zs, (Lit.int k n).wf = true

theorem byte_info : (Try.prog.info? 5).map (fun i => (i.zero, i.size, i.bytes)) = some (some (.int .u8 0), 1, 1) := by kernel_rfl

theorem row_bytes {w : World} {a : Option Addr} {len cap : Nat} {zs : List Int} (h : IsRow .u8 w a len cap zs) :
    ∃ l : List Int, l.length = len ∧ (∀ x ∈ l, isByte x) ∧ Bytes w a l := by
  rcases h with ⟨rfl, rfl, rfl, rfl⟩ | ⟨x, rfl, hl, hm, hz, hc, hw⟩
  · exact ⟨[], rfl, fun x hx => by simp at hx, fun i hi => by simp at hi⟩
  · refine ⟨zs.take len, by simp; omega, fun y hy => ?_, fun i hi => ?_⟩
    · have := hw y (List.mem_of_mem_take hy)
      simpa [isByte, Lit.wf, IntKind.min, IntKind.max, IntKind.signed, IntKind.bits] using this
    · simp only [List.length_take] at hi
      refine ⟨x, rfl, ?_⟩
      rw [hc i (by omega)]
      simp [List.getD_eq_getElem?_getD, show i < len from by omega]

theorem xor_other (x y : Int) (hx : isByte x) (hy : 0 ≤ y ∧ y ≤ 255) (h0 : ¬ y = 0) : isByte (bits .xor .u8 x y) ∧ bits .xor .u8 x y ≠ x := by
  obtain ⟨x, rfl⟩ := Int.eq_ofNat_of_zero_le hx.1
  obtain ⟨y, rfl⟩ := Int.eq_ofNat_of_zero_le hy.1
  have hx' := hx.2
  rw [u8_xor_nat x y (by omega) (by omega)]
  have hlt : x ^^^ y < 256 := Nat.xor_lt_two_pow (n := 8) (by omega) (by omega)
  refine ⟨⟨by omega, by omega⟩, fun h => h0 ?_⟩
  have h1 : x ^^^ y = x := by omega
  have h2 := congrArg (x ^^^ ·) h1
  simp only [← Nat.xor_assoc, Nat.xor_self, Nat.zero_xor] at h2
  omega

set_option maxHeartbeats 1000000 in
theorem core (a0 : Option Addr) (l : List Int) (cap : Nat) (a1 a2 : Int) (w : World) (hb : Bytes w a0 l) (hl : ∀ x ∈ l, isByte x) (h3 : l.length ≤ 300) (h1 : 0 ≤ a1 ∧ a1 ≤ 255) (h2 : 0 ≤ a2 ∧ a2 ≤ 255) :
    Calls Try.prog 7 #[.slice a0 l.length cap, .int .u8 a1, .int .u8 a2] w fun e w' => e = .returned (.bool true) ∧ Below w.heap.size w w' := by
  obtain ⟨i0, hi0, hz0, hz1, hz2⟩ := info_parts byte_info
  have H := Lib.hid hb
  have HL := Lib.hid hl
  have Hi := Lib.hid hi0
  have Hz0 := Lib.hid hz0
  have Hz1 := Lib.hid hz1
  have Hz2 := Lib.hid hz2
  clear hb hl hi0 hz0 hz1 hz2
  go_enter Try.func7, Try.ntmps7
  go_wp2_with (go_at_call 9; refine (known_any _).mono ?_; rintro e w' ⟨rfl, rfl⟩)
  go_loop [7, 8] (fun s i => ∃ k : Nat, k ≤ l.length ∧ i = .int .i64 k ∧ s = .int .u64 (sumI (l.take k))) (fun _ i => l.length - (intOf i).toNat)
  case atStart => exact ⟨0, Nat.zero_le _, rfl, rfl⟩
  case round =>
    obtain ⟨k, hk, rfl, rfl⟩ := hrel
    by_cases hlt : k < l.length
    · have HS := Lib.hid (sumI_next l k hlt)
      obtain ⟨ad, rfl, hc⟩ := H.out k hlt
      go_wp2
      go_round
      case rel => exact ⟨k + 1, by omega, by go_num, by rw [HS.out, stepI]⟩
      case measure => simp [intOf]; omega
    · rw [List.take_of_length_le (by omega : l.length ≤ k)]
      have hs := Lib.hid (sum_range l HL.out)
      by_cases h0 : l.length = 0
      · have h0' : ((l.length : Int) == 0) = true := by simp [h0]
        have H0 := Lib.hid h0
        clear h0
        go_wp2_with (go_at_call 15; refine (sum_any _ l _ _ H.out (by unfold maxLen; omega)).mono ?_; rintro e w' ⟨rfl, rfl⟩)
        go_ret
        exact ⟨rfl, Below.refl _ _⟩
      · have h0' : ((l.length : Int) == 0) = false := beq_eq_false_iff_ne.2 (by omega)
        have hpos : 0 < l.length := by omega
        clear h0
        by_cases hz : a2 = 0
        · have hz' : (a2 == 0) = true := by simp [hz]
          clear hz
          go_wp2_with (go_at_call 15; refine (sum_any _ l _ _ H.out (by unfold maxLen; omega)).mono ?_; rintro e w' ⟨rfl, rfl⟩)
          go_ret
          exact ⟨rfl, Below.refl _ _⟩
        · have hz' : (a2 == 0) = false := by simp [hz]
          obtain ⟨ad, rfl, hc⟩ := H.out 0 hpos
          clear hc
          obtain ⟨j, hj, ej⟩ : ∃ j : Nat, j < l.length ∧ a1 % (l.length : Int) = (j : Int) :=
            ⟨(a1 % (l.length : Int)).toNat, by have := Int.emod_lt_of_pos a1 (b := l.length) (by omega); have := Int.emod_nonneg a1 (b := l.length) (by omega); omega, by have := Int.emod_nonneg a1 (b := l.length) (by omega); omega⟩
          go_wp2_with fail
          refine (sum_any _ l _ _ H.out (by unfold maxLen; omega)).mono ?_
          rintro e w' ⟨rfl, rfl⟩
          go_wp2_with (first
            | (at_builtin
               refine wpList_append_own _ rfl (.const (.slice none 0 0)) (.tmp 40) _ rfl w.heap.size 5 i0 _ 1 1 Try.underlying25 Hi.out Hz0.out Hz1.out Hz2.out rfl (by omega) (.slice none 0 0) 0 [] rfl
                 ⟨by simp, .inl ⟨rfl, rfl⟩⟩ ad l.length cap (vals l) rfl (by simp [vals]) (by
                   intro j u hu
                   obtain ⟨hj, rfl⟩ := List.getElem?_eq_some_iff.1 hu
                   simp only [vals, List.length_map] at hj
                   obtain ⟨ad', e1, e2⟩ := H.out j hj
                   injection e1 with e1; subst e1
                   rw [e2]; simp [vals, List.getElem?_eq_getElem hj]) (vals_one l) (by simp only [maxLen]; omega) (by omega) (Nat.le_refl _) ?_
               intro v1 w1 hown1 hg1 hat1
               rw [Nat.zero_add, List.nil_append] at hown1
               obtain ⟨g, c1, rfl, hbg, hlt1⟩ := hown1.form hpos
               have hc1 : w1.cell? ⟨g, j, none⟩ = some (.int .u8 l[j]) := by rw [hown1.cellAt j (by omega)]; simp [vals, List.getElem?_eq_getElem hj]
               have hf1 := hown1.frozenAt j
               have HO := Lib.hid hown1
               have HG := Lib.hid hg1
               clear hown1 hg1 hat1))
          have hy := xor_other l[j] a2 (HL.out _ (List.getElem_mem hj)) h2 hz
          have hne := sum_changed l j _ HL.out hj hy.1 hy.2
          have hn2 : (sumI (l.set j (bits BinOp.xor IntKind.u8 l[j] a2)) != sumI l) = true := by simpa using hne
          have hst := (HO.out.stored j (.int .u8 (bits BinOp.xor IntKind.u8 l[j] a2))).1
          rw [vals_set] at hst
          have hsum := sum_any (some ⟨g, 0, none⟩) (l.set j (bits BinOp.xor IntKind.u8 l[j] a2)) c1 _ (bytes_own hst) (by rw [List.length_set]; unfold maxLen; omega)
          rw [List.length_set] at hsum
          have HB := Lib.hid (((Below.refl w.heap.size w).grown HG.out (Nat.le_refl _) (by simp [Value.ownBlock])).setCell (p := ⟨g, j, none⟩) hbg (.int .u8 (bits BinOp.xor IntKind.u8 l[j] a2)))
          clear hst hne hy
          refine hsum.mono ?_
          clear hsum
          rintro e w' ⟨rfl, rfl⟩
          go_wp2
          go_ret
          exact ⟨rfl, HB.out⟩
set_option maxHeartbeats 1000000 in
theorem walk (a0 : Option Addr) (len0 cap0 : Nat) (z0 : List Int) (a1 : Int) (a2 : Int) (w : World) (w0 : IsRow .u8 w a0 len0 cap0 z0) (w1 : (Lit.int .u8 a1).wf = true) (w2 : (Lit.int .u8 a2).wf = true) :
    Calls Try.prog 7 #[.slice a0 len0 cap0, .int .u8 a1, .int .u8 a2] w fun e w' => e = .returned (.bool true) ∧ Below w.heap.size w w' := by
  have x1 : 0 ≤ a1 ∧ a1 ≤ 255 := by simpa [Lit.wf, IntKind.min, IntKind.max, IntKind.signed, IntKind.bits] using w1
  have x2 : 0 ≤ a2 ∧ a2 ≤ 255 := by simpa [Lit.wf, IntKind.min, IntKind.max, IntKind.signed, IntKind.bits] using w2
  obtain ⟨l, hl0, hl, hb⟩ := row_bytes w0
  clear w0 w1 w2
  subst hl0
  by_cases h3 : l.length ≤ 300
  · exact core a0 l cap0 a1 a2 w hb hl h3 x1 x2
  · have h3' : 300 < l.length := by omega
    clear hb hl
    go_enter Try.func7, Try.ntmps7
    go_wp2_with (go_at_call 9; refine (known_any _).mono ?_; rintro e w' ⟨rfl, rfl⟩)
    go_ret
    exact ⟨rfl, Below.refl _ _⟩

set_option maxRecDepth 100000 in
theorem lifted (os : Os) (started : os.Started) (H : Type) (enc : TypeId × Value → H) :
    ReturnsInHanded {} Try.checked os 7 .any (Rows.bitsSumsSpec.pre6 enc Try.prog Try.f7 Rows.bitsSumsRow.domain false) (Rows.bitsSumsSpec.post enc Try.prog Try.f7 false true false false) := by
  refine returnsInHanded_of_change (C := Try.checked) own started (by kernel_rfl) Try.func7
    (ChangeSpec.witness6 (enc := enc) (C := Try.checked) false ⟨#[], #[.slice none 0 0, .int .u8 0, .int .u8 0], []⟩ 8 (by kernel_rfl) (by kernel_rfl) (by kernel_rfl) (by kernel_rfl)) ?_
  intro W base args ds gs before hval0 hW hcnd _
  have hval : ∀ (j : Nat) t v, Try.f7.params[j]? = some t → args[j]? = some v → Value.okWide Try.prog W .any base t v := hval0
  have hW' := hW
  obtain ⟨p, q, hA0, hV, rfl, hfz, hnd⟩ := hW
  have hA : DataW.TrodAll enc Try.prog W 0 (fun _ => true) true Try.f7.params.toList args.toList ds p := hA0
  rw [Try.params7] at hA hval
  obtain ⟨v0, vs0, d0, ds0, p0, q0, hargs, rfl, rfl, h0, r0⟩ := trodAll_cons hA
  obtain ⟨v1, vs1, d1, ds1, p1, q1, rfl, rfl, rfl, h1, r1⟩ := trodAll_cons r0
  obtain ⟨v2, vs2, d2, ds2, p2, q2, rfl, rfl, rfl, h2, r2⟩ := trodAll_cons r1
  obtain ⟨rfl, rfl, rfl⟩ := trodAll_nil r2
  obtain rfl : args = #[v0, v1, v2] := by cases args; simp_all
  obtain ⟨rfl, rfl⟩ := trodVars_none hV
  obtain ⟨a0, len0, cap0, rfl⟩ := okWide_slice Try.underlying25 (hval 0 25 v0 rfl rfl)
  have k0 := h0
  have lt0 : ∀ x ∈ p0, x.block < W.heap.size := by obtain ⟨m, hm⟩ := k0; exact DataW.trod_lt m _ _ _ hm
  obtain ⟨z0, w0⟩ : ∃ zs, IsRow .u8 W a0 len0 cap0 zs := by
    obtain ⟨fuel, hf⟩ := h0
    rcases open_ints Try.underlying25 Try.underlying5 (by kernel_rfl) hf with ⟨hcs, _⟩ | ⟨x, l, c, zs, hcs, _, hl, hm, hz, _, hcell, hwz⟩
    · simp [Value.cells] at hcs
      obtain ⟨rfl, rfl, rfl⟩ := hcs
      exact ⟨[], .inl ⟨rfl, rfl, rfl, rfl⟩⟩
    · simp [Value.cells] at hcs
      obtain ⟨rfl, rfl, rfl⟩ := hcs
      exact ⟨zs, .inr ⟨_, rfl, hl, hm, by simpa using hz, hcell, hwz⟩⟩
  obtain ⟨a1, rfl, rfl, rfl, w1⟩ := open_int Try.underlying5 (hval 1 5 v1 rfl rfl) h1
  obtain ⟨a2, rfl, rfl, rfl, w2⟩ := open_int Try.underlying5 (hval 2 5 v2 rfl rfl) h2
  clear hA0 hval0
  refine (walk a0 len0 cap0 z0 a1 a2 W w0 w1 w2).mono fun e W' ⟨he, bel⟩ => ?_
  subst he
  exact ⟨_, rfl, _, _, _, [], _, [], hW', trodAll_mk1 (shut_bool Try.underlying4 _), (trodAll_cons_mk (Below.trod laidOut (by kernel_rfl) (of_decide_eq_true (by kernel_rfl)) k0 bel lt0) (trodAll_cons_mk (shut_int Try.underlying5 w1) (trodAll_cons_mk (shut_int Try.underlying5 w2) trodAll_mk0))), rfl, bel.frame _, fun h => by cases h⟩

theorem over : Rows.bitsSumsRow.holds Try.pinned (OpenSpec.ofChange Rows.bitsSumsSpec) :=
  OpenClaim.holds_of_wide 7 Try.f7 rfl rfl rfl rfl rfl rfl rfl ⟨rfl, rfl, rfl, rfl, rfl⟩ rfl rfl rfl rfl rfl (by kernel_rfl) Try.func7 (by kernel_rfl)
    (of_decide_eq_true (by kernel_rfl)) (by unfold Func.isWrapper; first | (rw [if_pos (by decide +kernel)]; kernel_rfl) | (rw [if_neg (by decide +kernel)]; exact ⟨rfl, rfl⟩))
    (fun os started H enc _ => lifted os started H enc)

theorem proved : Rows.BitsSumsSaid := over
#print axioms proved
end Go.Proofs.Ytbnbmclndcnfeaa.bitsSums
