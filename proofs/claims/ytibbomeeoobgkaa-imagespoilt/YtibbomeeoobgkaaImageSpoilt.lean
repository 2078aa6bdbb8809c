/- For every two rows of bytes, every place and every byte the law ImageSpoilt returns true. No condition. -/
import Derived.Test.YtibbomeeoobgkaaRows
import Derived.Test.YtibbomeeoobgkaaSpo
import Derived.Test.YtibbomeeoobgkaaOpen
import Derived.WalkKit
import Derived.ProofKit
import Derived.OpenShut
import Derived.ShutString
import Derived.ChangeOld
import Derived.Below
namespace Go.Proofs.Ytibbomeeoobgkaa.imageSpoilt
open Go.ChangeShapes Go.WideShapes Go.ChangeAt Go.RowKit
set_option maxRecDepth 100000

theorem own : ownKnob Try.prog.godebug = none := by kernel_rfl
theorem laidOut : laidOutB Try.prog = true := by kernel_rfl

set_option maxHeartbeats 1000000 in
theorem long0 (p1 : Option Addr) (m1 c1 : Nat) (p2 : Option Addr) (m2 c2 : Nat) (at_ by_ : Int) (w : World) (h1 : 200 < m1) :
    Calls Try.prog 7 #[.slice p1 m1 c1, .slice p2 m2 c2, .int .u16 at_, .int .u8 by_] w fun e w' => e = .returned (.bool true) ∧ Below w.heap.size w w' := by
  have d1 : decide (200 < (m1 : Int)) = true := by rw [decide_eq_true_eq]; omega
  clear h1
  go_enter Try.func7, Try.ntmps7
  go_wp2_with fail
  refine (known_any w).mono ?_
  rintro e w1 ⟨rfl, k1⟩
  have K1 := Lib.hid k1
  clear k1
  go_wp2_with fail
  go_ret
  exact ⟨rfl, K1.out.below (Nat.le_refl _) (fun _ h => h.elim)⟩

set_option maxHeartbeats 1000000 in
theorem long1 (p1 : Option Addr) (m1 c1 : Nat) (p2 : Option Addr) (m2 c2 : Nat) (at_ by_ : Int) (w : World) (h1 : m1 ≤ 200) (h2 : 200 < m2) :
    Calls Try.prog 7 #[.slice p1 m1 c1, .slice p2 m2 c2, .int .u16 at_, .int .u8 by_] w fun e w' => e = .returned (.bool true) ∧ Below w.heap.size w w' := by
  have d1 : decide (200 < (m1 : Int)) = false := by rw [decide_eq_false_iff_not]; omega
  have d2 : decide (200 < (m2 : Int)) = true := by rw [decide_eq_true_eq]; omega
  clear h1 h2
  go_enter Try.func7, Try.ntmps7
  go_wp2_with fail
  refine (known_any w).mono ?_
  rintro e w1 ⟨rfl, k1⟩
  have K1 := Lib.hid k1
  clear k1
  go_wp2_with fail
  go_ret
  exact ⟨rfl, K1.out.below (Nat.le_refl _) (fun _ h => h.elim)⟩

set_option maxHeartbeats 1000000 in
theorem long2 (p1 : Option Addr) (m1 c1 : Nat) (p2 : Option Addr) (m2 c2 : Nat) (at_ by_ : Int) (w : World) (h1 : m1 ≤ 200) (h2 : m2 ≤ 200) (h3 : by_ = 0) :
    Calls Try.prog 7 #[.slice p1 m1 c1, .slice p2 m2 c2, .int .u16 at_, .int .u8 by_] w fun e w' => e = .returned (.bool true) ∧ Below w.heap.size w w' := by
  subst h3
  have d1 : decide (200 < (m1 : Int)) = false := by rw [decide_eq_false_iff_not]; omega
  have d2 : decide (200 < (m2 : Int)) = false := by rw [decide_eq_false_iff_not]; omega
  clear h1 h2
  go_enter Try.func7, Try.ntmps7
  go_wp2_with fail
  refine (known_any w).mono ?_
  rintro e w1 ⟨rfl, k1⟩
  have K1 := Lib.hid k1
  clear k1
  go_wp2_with fail
  go_ret
  exact ⟨rfl, K1.out.below (Nat.le_refl _) (fun _ h => h.elim)⟩

set_option maxHeartbeats 8000000 in
theorem core (p1 : Option Addr) (a : List Int) (c1 : Nat) (p2 : Option Addr) (b : List Int) (c2 : Nat) (n : Nat) (by_ : Int) (w : World) (hb1 : Bytes w p1 a) (hy1 : ∀ y ∈ a, isByte y) (hn1 : p1 = none → a = [])
    (hb2 : Bytes w p2 b) (hy2 : ∀ y ∈ b, isByte y) (h1 : a.length ≤ 200) (h2 : b.length ≤ 200) (hat : n ≤ 65535) (hby : 0 ≤ by_ ∧ by_ ≤ 255) (h0 : ¬ by_ = 0) :
    Calls Try.prog 7 #[.slice p1 a.length c1, .slice p2 b.length c2, .int .u16 (n : Int), .int .u8 by_] w fun e w' => e = .returned (.bool true) ∧ Below w.heap.size w w' := by
  have d1 : decide (200 < (a.length : Int)) = false := by rw [decide_eq_false_iff_not]; omega
  have d2 : decide (200 < (b.length : Int)) = false := by rw [decide_eq_false_iff_not]; omega
  have d3 : (by_ == 0) = false := beq_eq_false_iff_ne.2 h0
  have B1 := Lib.hid hb1
  have B2 := Lib.hid hb2
  have Y1 := Lib.hid hy1
  have Y2 := Lib.hid hy2
  have N1 := Lib.hid hn1
  have BY := Lib.hid hby
  have BN := Lib.hid h0
  have Q1 := Lib.hid (s1_is a (by omega))
  have Q2 := Lib.hid (s2_is a b hy1 (by omega) (by omega))
  have FL := Lib.hid (frameI_len 2 b)
  have hlt1 := h1
  have hlt2 := h2
  have sv1 := fun w' (k : Kept (fun _ => False) w w') (h : ∃ B, B < w'.heap.size) => True
  clear sv1
  have SA := Lib.hid (fun w' (k : Kept (fun _ => False) w w') => str_bytes (c := c1) (bytes_kept hb1 k (fun _ _ _ h => h)) hn1)
  have SV1 := Lib.hid (fun w' B (h : At w' B Dk.new) (k : Kept (fun _ => False) w w') => save_any w' B Dk.new p1 c1 a h new_by (bytes_kept hb1 k (fun _ _ _ h => h)) (by omega) hy1 (by rw [new_image]; decide))
  have SV2 := Lib.hid (fun w' B (h : At w' B (s1 a)) (k : Kept (fun _ => False) w w') => save_any w' B (s1 a) p2 c2 b h (s1_by hy1) (bytes_kept hb2 k (fun _ _ _ h => h)) (by omega) hy2 (by rw [Q1.out.2.2.1]; show (1 : Int) < 4294967295; decide))
  have HY2 := Lib.hid (s2_by hy1 hy2)
  generalize hm1 : a.length = m1 at *
  generalize hm2 : b.length = m2 at *
  have M2 := Lib.hid hm2
  have M1 := Lib.hid hm1
  clear hb1 hb2 hy1 hy2 hn1 hby h0 hm1 hm2 h1 h2
  go_enter Try.func7, Try.ntmps7
  go_wp2_with fail
  refine (known_any w).mono ?_
  rintro e w1 ⟨rfl, k1⟩
  have K1 := Lib.hid k1
  clear k1
  go_wp2_with fail
  refine (dnew_any w1).mono ?_
  rintro e w2 ⟨rfl, g2, k2⟩
  obtain ⟨B, hB⟩ : ∃ B, w1.heap.size = B := ⟨_, rfl⟩
  rw [hB] at g2 ⊢
  have HB := Lib.hid (show w.heap.size ≤ B by rw [← hB]; exact K1.out.size)
  have G2 := Lib.hid g2
  have K2 := Lib.hid (K1.out.trans k2 (fun _ _ h => h))
  clear hB g2 k2 K1
  go_wp2_with fail
  have S := SV1.out w2 B G2.out K2.out
  rw [Q1.out.1] at S
  refine S.mono ?_
  clear S
  rintro e w3 ⟨rfl, g3, k3⟩
  have G3 := Lib.hid (show At w3 B (s1 a) from g3)
  have K3 := Lib.hid (K2.out.up k3 HB.out)
  clear g3 k3 G2 K2
  go_wp2_with fail
  have S := SV2.out w3 B G3.out K3.out
  rw [Q2.out.1] at S
  refine S.mono ?_
  clear S
  rintro e w4 ⟨rfl, g4, k4⟩
  have G4 := Lib.hid (show At w4 B (s2 a b) from g4)
  have K4 := Lib.hid (K3.out.up k4 HB.out)
  clear g4 k4 G3 K3 SV1 SV2
  go_wp2_with fail
  have R := read1_any w4 B (s2 a b) G4.out
  rw [show (s2 a b).a1 = frameI 2 b by rw [Q2.out.2.2], FL.out] at R
  refine R.mono ?_
  clear R
  rintro e w5 ⟨rfl, r5, b5⟩
  obtain ⟨g, hg⟩ : ∃ g, w4.heap.size = g := ⟨_, rfl⟩
  rw [hg] at r5 b5 ⊢
  obtain ⟨k, hk⟩ : ∃ k : Nat, (n : Int) % (16 + (m2 : Int)) = (k : Int) ∧ k < 16 + m2 := ⟨n % (16 + m2), by push_cast; rfl, Nat.mod_lt _ (by omega)⟩
  have hkl : k < (frameI 2 b).length := by rw [FL.out]; exact hk.2
  obtain ⟨y, hy⟩ : ∃ y, (frameI 2 b)[k]? = some y := ⟨_, List.getElem?_eq_getElem hkl⟩
  have y0 : w5.cell? ⟨g, k, none⟩ = some (.int .u8 y) := by
    simp [World.cell?, r5, vals, hy]
  have f0 : w5.frozen? ⟨g, k, none⟩ = false := by simp [World.frozen?, r5]
  have hk1 := hk.1
  have hk2 := hk.2
  have R5 := Lib.hid r5
  have B5 := Lib.hid b5
  have HG := Lib.hid hg
  have HKL := Lib.hid hkl
  have YY := Lib.hid hy
  clear r5 b5 hg hk hkl hy
  obtain ⟨z, hz⟩ : ∃ z, bits .xor .u8 y by_ = z := ⟨_, rfl⟩
  have hyb : isByte y := by
    obtain ⟨q, hq⟩ := List.getElem?_eq_some_iff.1 YY.out
    rw [← hq]
    exact frameI_is Y2.out _ (List.getElem_mem q)
  have hx := xor_other y by_ hyb BY.out BN.out
  rw [hz] at hx
  have hF : isFr ((frameI 2 b).set k z) = false := by
    obtain ⟨q, hq⟩ := List.getElem?_eq_some_iff.1 YY.out
    exact turned_none 2 b k z Y2.out (by rw [M2.out]; omega) q hx.1 (by rw [hq]; exact hx.2)
  have hxs : ∀ v ∈ (frameI 2 b).set k z, isByte v := by
    intro v hv
    rcases List.mem_or_eq_of_mem_set hv with hv | rfl
    · exact frameI_is Y2.out _ hv
    · exact hx.1
  obtain ⟨X, hX⟩ : ∃ X, (frameI 2 b).set k z = X := ⟨_, rfl⟩
  have hXl : X.length = 16 + m2 := by rw [← hX, List.length_set, FL.out]
  obtain ⟨q1, q2⟩ := row_set (k := k) z R5.out
  obtain ⟨w6, hw6⟩ : ∃ w6, w5.setCell ⟨g, k, none⟩ (.int .u8 z) = w6 := ⟨_, rfl⟩
  rw [hX] at q1 hF hxs
  rw [hw6] at q1 q2
  have k56 : Kept (fun _ => False) w4 w6 := ((Kept.ofBelow (S := fun i => i = g) (HG.out.symm ▸ B5.out)).trans q2 (fun _ _ h => h)).mono (fun i hi e => by have := HG.out; omega)
  have G6 := Lib.hid (G4.out.kept k56 (fun _ _ h => h))
  have K6 := Lib.hid (K4.out.trans k56 (fun _ _ h => h))
  have XB := Lib.hid (bytes_row q1)
  have XF := Lib.hid hF
  have XS := Lib.hid hxs
  have XL := Lib.hid hXl
  clear hyb hx hF hxs hX hXl q1 q2 k56 R5 B5 G4 K4
  go_wp2_with fail
  clear hz hw6 y0 f0
  have P := parse_any w6 (some ⟨g, 0, none⟩) (16 + m2) X XB.out (by rw [XL.out]; omega) (by rw [XL.out]; exact Nat.le_refl _) XS.out
  unfold parT parB at P
  rw [XF.out, if_neg (by simp), if_neg (by simp), XL.out] at P
  refine P.mono ?_
  clear P
  rintro e w7 ⟨ao7, c7, rfl, _, b7⟩
  have G7 := Lib.hid (G6.out.below b7)
  have K7 := Lib.hid (K6.out.upB b7)
  have XB7 := Lib.hid (bytes_belowS XB.out b7)
  clear b7 G6 K6 XB
  go_wp2_with fail
  have W := write_any w7 B (s2 a b) 1 (some ⟨g, 0, none⟩) (16 + m2) X G7.out XB7.out (by rw [XL.out]; exact Nat.le_refl _)
  have e1 : (s2 a b).err 1 X = 0 := by
    rw [Q2.out.2.2]
    unfold Dk.err
    rw [if_pos (by decide), if_neg (by rw [XL.out]; omega)]
    rfl
  have e2 : (s2 a b).write 1 X = ⟨frameI 1 a, X, false, 0⟩ := by
    rw [Q2.out.2.2]
    unfold Dk.write
    rw [if_pos (by decide), if_neg (by rw [XL.out]; omega)]
    rfl
  rw [XL.out, e1, e2] at W
  refine W.mono ?_
  clear W
  rintro e w8 ⟨rfl, g8, k8⟩
  have G8 := Lib.hid g8
  have K8 := Lib.hid (K7.out.up k8 HB.out)
  have BY8 := Lib.hid (show (⟨frameI 1 a, X, false, 0⟩ : Dk).By from ⟨frameI_is Y1.out, XS.out⟩)
  have IM := Lib.hid (spoilt_image a X XF.out)
  clear g8 k8 G7 K7 XB7 e1 e2
  go_wp2_with fail
  have L := load_any w8 B _ G8.out BY8.out
  rw [IM.out] at L
  refine L.mono ?_
  clear L
  rintro e w9 ⟨ao9, c9, rfl, t9, b9⟩
  rw [if_pos rfl]
  have G9 := Lib.hid (G8.out.below b9)
  have K9 := Lib.hid (K8.out.upB b9)
  have hs9 := str_bytes (c := c9) t9.bytes (fun h => (t9.none h).1)
  have hsa := SA.out w9 K9.out
  simp only [M1.out] at hs9 ⊢
  clear t9 b9 G8 K8
  go_wp2_with fail
  have TT := turn_any w9 B _ G9.out BY8.out
  rw [IM.out] at TT
  refine TT.mono ?_
  clear TT
  rintro e w10 ⟨rfl, b10⟩
  have K10 := Lib.hid (K9.out.upB b10)
  clear b10 G9 K9 hs9 hsa
  obtain ⟨w11, mk, _, b11⟩ := make_row w10 40001 (by decide)
  have mk : (Instr.makeSlice 23 (.int .i64 40001) (.int .i64 40001)).run Try.prog w10 = .ok (.slice (some ⟨w10.heap.size, 0, none⟩) 40001 40001) w11 := mk
  have K11 := Lib.hid (K10.out.upB b11)
  clear b11 K10
  go_wp2_with fail
  refine (save_long w11 B _ _ _ (by decide)).mono ?_
  rintro e w' ⟨rfl, rfl⟩
  clear mk
  go_wp2_with fail
  go_ret
  exact ⟨rfl, K11.out.below (Nat.le_refl _) (fun _ h => h.elim)⟩

theorem walk (p1 : Option Addr) (a : List Int) (c1 : Nat) (p2 : Option Addr) (b : List Int) (c2 : Nat) (at_ by_ : Int) (w : World) (hb1 : Bytes w p1 a) (hy1 : ∀ y ∈ a, isByte y) (hc1 : a.length ≤ c1) (hn1 : p1 = none → c1 = 0)
    (hb2 : Bytes w p2 b) (hy2 : ∀ y ∈ b, isByte y) (_ : b.length ≤ c2) (_ : p2 = none → c2 = 0) (h3 : 0 ≤ at_ ∧ at_ ≤ 65535) (h4 : 0 ≤ by_ ∧ by_ ≤ 255) :
    Calls Try.prog 7 #[.slice p1 a.length c1, .slice p2 b.length c2, .int .u16 at_, .int .u8 by_] w fun e w' => e = .returned (.bool true) ∧ Below w.heap.size w w' := by
  obtain ⟨n, rfl⟩ := Int.eq_ofNat_of_zero_le h3.1
  by_cases h1 : a.length ≤ 200
  · by_cases h2 : b.length ≤ 200
    · by_cases h0 : by_ = 0
      · exact long2 p1 a.length c1 p2 b.length c2 n by_ w h1 h2 h0
      · exact core p1 a c1 p2 b c2 n by_ w hb1 hy1 (fun h => List.eq_nil_of_length_eq_zero (by have := hn1 h; omega)) hb2 hy2 h1 h2 (by omega) h4 h0
    · exact long1 p1 a.length c1 p2 b.length c2 n by_ w h1 (by omega)
  · exact long0 p1 a.length c1 p2 b.length c2 n by_ w (by omega)


theorem lifted (os : Os) (started : os.Started) (H : Type) (enc : TypeId × Value → H) :
    ReturnsInHanded {} Try.checked os 7 .any (Rows.imageSpoiltSpec.pre6 enc Try.prog Try.f7 Rows.imageSpoiltRow.domain false) (Rows.imageSpoiltSpec.post enc Try.prog Try.f7 false true false false) := by
  refine returnsInHanded_of_change (C := Try.checked) own started (by kernel_rfl) Try.func7
    (ChangeSpec.witness6 (enc := enc) (C := Try.checked) false ⟨#[], #[.slice none 0 0, .slice none 0 0, .int .u16 0, .int .u8 0], []⟩ 8 (by kernel_rfl) (by kernel_rfl) (by kernel_rfl) (by kernel_rfl)) ?_
  intro W base args ds gs before hval0 hW hcnd _
  have hval : ∀ (j : Nat) t v, Try.f7.params[j]? = some t → args[j]? = some v → Value.okWide Try.prog W .any base t v := hval0
  have hW' := hW
  obtain ⟨p, q, hA0, hV, rfl, hfz, hnd⟩ := hW
  have hA : DataW.TrodAll enc Try.prog W 0 (fun _ => true) true Try.f7.params.toList args.toList ds p := hA0
  rw [Try.params7] at hA hval
  obtain ⟨v0, vs0, d0, ds0, p0, q0, hargs, rfl, rfl, h0, r0⟩ := trodAll_cons hA
  obtain ⟨v1, vs1, d1, ds1, p1, q1, rfl, rfl, rfl, h1, r1⟩ := trodAll_cons r0
  obtain ⟨v2, vs2, d2, ds2, p2, q2, rfl, rfl, rfl, h2, r2⟩ := trodAll_cons r1
  obtain ⟨v3, vs3, d3, ds3, p3, q3, rfl, rfl, rfl, h3, r3⟩ := trodAll_cons r2
  obtain ⟨rfl, rfl, rfl⟩ := trodAll_nil r3
  obtain rfl : args = #[v0, v1, v2, v3] := by cases args; simp_all
  obtain ⟨rfl, rfl⟩ := trodVars_none hV
  have k0 := h0
  have lt0 : ∀ x ∈ p0, x.block < W.heap.size := by obtain ⟨m, hm⟩ := k0; exact DataW.trod_lt m _ _ _ hm
  obtain ⟨ax0, ln0, cx0, rfl⟩ := okWide_slice Try.underlying23 (hval 0 23 v0 rfl rfl)
  obtain ⟨a0, l0, c0, hv0, hb0, hby0, hcap0, hno0⟩ : ∃ (ao : Option Addr) (l : List Int) (cap : Nat), Value.slice ax0 ln0 cx0 = .slice ao l.length cap ∧ Bytes W ao l ∧ (∀ y ∈ l, isByte y) ∧ l.length ≤ cap ∧ (ao = none → cap = 0) := by
    obtain ⟨fuel, hf⟩ := h0
    exact open_bytes (by simpa [Value.cells] using hf)
  injection hv0 with hv0a hv0b hv0c
  subst hv0a hv0b hv0c
  have k1 := h1
  have lt1 : ∀ x ∈ p1, x.block < W.heap.size := by obtain ⟨m, hm⟩ := k1; exact DataW.trod_lt m _ _ _ hm
  obtain ⟨ax1, ln1, cx1, rfl⟩ := okWide_slice Try.underlying23 (hval 1 23 v1 rfl rfl)
  obtain ⟨a1, l1, c1, hv1, hb1, hby1, hcap1, hno1⟩ : ∃ (ao : Option Addr) (l : List Int) (cap : Nat), Value.slice ax1 ln1 cx1 = .slice ao l.length cap ∧ Bytes W ao l ∧ (∀ y ∈ l, isByte y) ∧ l.length ≤ cap ∧ (ao = none → cap = 0) := by
    obtain ⟨fuel, hf⟩ := h1
    exact open_bytes (by simpa [Value.cells] using hf)
  injection hv1 with hv1a hv1b hv1c
  subst hv1a hv1b hv1c
  obtain ⟨a2, rfl, rfl, rfl, w2⟩ := open_int Try.underlying45 (hval 2 45 v2 rfl rfl) h2
  have b2 : 0 ≤ a2 ∧ a2 ≤ 65535 := by simpa [Lit.wf, IntKind.min, IntKind.max, IntKind.signed, IntKind.bits] using w2
  obtain ⟨a3, rfl, rfl, rfl, w3⟩ := open_int Try.underlying5 (hval 3 5 v3 rfl rfl) h3
  have b3 : 0 ≤ a3 ∧ a3 ≤ 255 := by simpa [Lit.wf, IntKind.min, IntKind.max, IntKind.signed, IntKind.bits] using w3
  clear hA0 hval0
  refine (walk ax0 l0 cx0 ax1 l1 cx1 a2 a3 W hb0 hby0 hcap0 hno0 hb1 hby1 hcap1 hno1 b2 b3).mono fun e W' ⟨he, bel⟩ => ?_
  subst he
  exact ⟨_, rfl, _, _, _, [], _, [], hW', trodAll_mk1 (shut_bool Try.underlying4 _), (trodAll_cons_mk (Below.trod laidOut (by kernel_rfl) (of_decide_eq_true (by kernel_rfl)) k0 bel lt0) (trodAll_cons_mk (Below.trod laidOut (by kernel_rfl) (of_decide_eq_true (by kernel_rfl)) k1 bel lt1) (trodAll_cons_mk (shut_int Try.underlying45 w2) (trodAll_cons_mk (shut_int Try.underlying5 w3) trodAll_mk0)))), rfl, bel.frame _, fun h => by cases h⟩

theorem over : Rows.imageSpoiltRow.holds Try.pinned (OpenSpec.ofChange Rows.imageSpoiltSpec) :=
  OpenClaim.holds_of_wide 7 Try.f7 rfl rfl rfl rfl rfl rfl rfl ⟨rfl, rfl, rfl, rfl, rfl⟩ rfl rfl rfl rfl rfl (by kernel_rfl) Try.func7 (by kernel_rfl)
    (of_decide_eq_true (by kernel_rfl)) (by unfold Func.isWrapper; first | (rw [if_pos (by decide +kernel)]; kernel_rfl) | (rw [if_neg (by decide +kernel)]; exact ⟨rfl, rfl⟩))
    (fun os started H enc _ => lifted os started H enc)

theorem proved : Rows.ImageSpoiltSaid := over
#print axioms proved
end Go.Proofs.Ytibbomeeoobgkaa.imageSpoilt
