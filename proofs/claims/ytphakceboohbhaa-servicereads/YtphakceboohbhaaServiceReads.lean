/- For every keys and values and every key the law ServiceReads returns true: reading a key changes no value, and what is told is what was put last. No condition. -/
import Derived.Test.YtphakceboohbhaaRows
import Derived.Test.YtphakceboohbhaaTb
import Derived.WalkKit
import Derived.ProofKit
import Derived.OpenShut
import Derived.ShutString
import Derived.ChangeOld
import Derived.Below
namespace Go.Proofs.Ytphakceboohbhaa.serviceReads
open Go.ChangeShapes Go.WideShapes Go.ChangeAt Go.RowKit
set_option maxRecDepth 100000

theorem own : ownKnob Try.prog.godebug = none := by kernel_rfl
theorem laidOut : laidOutB Try.prog = true := by kernel_rfl

/-- the loop's facts: the map at A; the value q of key kn -/
def RI (w wr : World) (A : Nat) (s : Sv) (kn : Nat) (q : Int) (j : Nat) : Prop :=
  MI w wr A s ∧ s.T 0 = j ∧ s.T 1 = j ∧ s.V kn = q ∧ 0 ≤ q ∧ q ≤ 65535

theorem rd_one {s : Sv} {kn xn j : Nat} {q v tn : Int} (hx : xn < 64) (ht : tn = j + 1) (h0 : s.T 0 = j) (h1 : s.T 1 = j) (hq : s.V kn = q) :
    apR s ⟨1, tn, 1, xn, v⟩ = s.V xn ∧ apB s ⟨1, tn, 1, xn, v⟩ = true ∧ (apS s ⟨1, tn, 1, xn, v⟩).T 0 = tn ∧ (apS s ⟨1, tn, 1, xn, v⟩).T 1 = j ∧ (apS s ⟨1, tn, 1, xn, v⟩).V kn = if xn = kn then v else q := by
  have h := ap_new (s := s) (r := ⟨1, tn, 1, xn, v⟩) (real_mk (by decide) (by omega) (by decide) (by omega) (.inl (by decide))) (by show ct s.T ((1 : Nat) : Int) < tn; rw [ct_in s.T 1 (by decide)]; show s.T 0 < tn; omega)
  refine ⟨h.2.1, h.2.2.1, ?_, ?_, ?_⟩
  · rw [h.1]; show upd s.T 0 tn 0 = tn; simp [upd]
  · rw [h.1]; show upd s.T 0 tn 1 = j; simp [upd, h1]
  · rw [h.1]
    show upd s.V xn v kn = _
    unfold upd
    by_cases e : kn = xn
    · rw [if_pos e, if_pos e.symm]
    · rw [if_neg e, if_neg (fun e' => e e'.symm)]; exact hq
theorem rd_two {s : Sv} {kn j : Nat} {q tn : Int} (hk : kn < 64) (ht : tn = j + 1) (h0 : s.T 0 = tn) (h1 : s.T 1 = j) (hq : s.V kn = q) :
    apR s ⟨2, tn, 2, kn, 0⟩ = q ∧ apB s ⟨2, tn, 2, kn, 0⟩ = true ∧ (apS s ⟨2, tn, 2, kn, 0⟩).T 0 = tn ∧ (apS s ⟨2, tn, 2, kn, 0⟩).T 1 = tn ∧ (apS s ⟨2, tn, 2, kn, 0⟩).V kn = q := by
  have h := ap_new (s := s) (r := ⟨2, tn, 2, kn, 0⟩) (real_mk (by decide) (by omega) (by decide) (by omega) (.inr rfl)) (by show ct s.T ((2 : Nat) : Int) < tn; rw [ct_in s.T 2 (by decide)]; show s.T 1 < tn; omega)
  refine ⟨h.2.1.trans hq, h.2.2.1, ?_, ?_, ?_⟩
  · rw [h.1]; show upd s.T 1 tn 0 = tn; simp [upd, h0]
  · rw [h.1]; show upd s.T 1 tn 1 = tn; simp [upd]
  · rw [h.1]; show upd s.V kn (s.V kn) kn = q; simp [upd, hq]
theorem rd_end (s : Sv) (kn : Nat) : apS s ⟨3, 1, 2, kn, 1⟩ = s ∧ apR s ⟨3, 1, 2, kn, 1⟩ = 0 ∧ apB s ⟨3, 1, 2, kn, 1⟩ = false := by
  have hr : (⟨3, 1, 2, kn, 1⟩ : Rq).real = false := by
    unfold Rq.real Rq.is Rq.isOp
    simp [Rq.zero]
  have h := ap_none (s := s) hr
  exact ⟨h.1, h.2.1, h.2.2.1⟩

set_option maxHeartbeats 16000000 in
theorem core (ak : Option Addr) (l : List Int) (ck : Nat) (av : Option Addr) (vs : List Int) (cv : Nat) (key : Int) (w : World)
    (hb : Bytes w ak l) (hby : ∀ x ∈ l, isByte x) (hr : RowU w 1 u16c (.slice av vs.length cv) vs) (hv : ∀ x ∈ vs, 0 ≤ x ∧ x ≤ 65535) (hk : 0 ≤ key ∧ key ≤ 255) (h1 : l.length ≤ 40) (h2 : l.length ≤ vs.length) :
    Calls Try.prog 5 #[.slice ak l.length ck, .slice av vs.length cv, .int .u8 key] w fun e w' => e = .returned (.bool true) ∧ Below w.heap.size w w' := by
  have KN := Lib.hid (known_any w)
  have d1 : decide (40 < (l.length : Int)) = false := by rw [decide_eq_false_iff_not]; omega
  have HI := Lib.hid (And.intro hb (And.intro hby (And.intro hr hv)))
  obtain ⟨kn, hkn⟩ : ∃ n : Nat, key.tmod 64 = n := ⟨(key % 64).toNat, by rw [Int.tmod_eq_emod_of_nonneg hk.1]; omega⟩
  have hkm : kn < 64 := by rw [Int.tmod_eq_emod_of_nonneg hk.1] at hkn; omega
  obtain ⟨n, hn⟩ : ∃ n, n = l.length := ⟨_, rfl⟩
  obtain ⟨nv, hnv⟩ : ∃ nv, nv = vs.length := ⟨_, rfl⟩
  have d2 : n ≤ nv := by omega
  rw [← hn] at d1 h1 h2 ⊢
  rw [← hnv] at h2 ⊢
  have HN := Lib.hid (And.intro hn (And.intro hnv (And.intro h1 (And.intro h2 hkm))))
  clear hb hby hr hv hn hnv h1 h2 hk hkm
  go_enter Try.func5, Try.ntmps5
  go_wp2_with fail
  refine KN.out.mono ?_
  rintro e w1 ⟨rfl, b1⟩
  have NW := Lib.hid (new_mi w w1 b1)
  clear KN b1
  go_wp2_with fail
  refine NW.out.mono ?_
  rintro e w2 ⟨rfl, m2, -⟩
  have K0 : Hid (RI w w2 w1.heap.size s0 kn 0 0) := Lib.hid ⟨m2, rfl, rfl, rfl, by decide, by decide⟩
  clear NW m2
  go_wp2_with fail
  generalize w1.heap.size = A at *
  go_loopw [8, 10, 11] (fun v8 v10 v11 wr => ∃ (j : Nat) (s : Sv) (q : Int), v8 = .int .u16 q ∧ v10 = .int .u32 j ∧ v11 = .int .i64 j ∧ j ≤ n ∧ Hid (RI w wr A s kn q j)) (fun _ _ v11 _ => n - (intOf v11).toNat)
  case atStart => exact ⟨0, _, _, rfl, rfl, rfl, by omega, K0⟩
  case round =>
    obtain ⟨j, s, q, rfl, rfl, rfl, hj, I⟩ := hrel
    by_cases hjn : j < n
    · have hjn' : (j : Int) < n := by omega
      have hjv' : (j : Int) < nv := by omega
      have hj40 : (j : Int) < 40 := by have := HN.out.2.2.1; omega
      have hlt : j < l.length := by have := HN.out.1; omega
      have hlv : j < vs.length := by have := HN.out.2.1; omega
      obtain ⟨tn, htn⟩ : ∃ z : Int, (j : Int) + 1 = z := ⟨_, rfl⟩
      have hw1 : IntKind.u32.wrap ((j : Int) + 1) = tn := by
        have : IntKind.u32.wrap ((j : Int) + 1) = ((j : Int) + 1) % 4294967296 := rfl
        omega
      have hcA := fun wx (k : Below w.heap.size w wx) => bytes_at (bytes_below HI.out.1 k (Nat.le_refl _)) (show 0 < l.length by omega)
      obtain ⟨k0, off, hao, -⟩ := hcA w (Below.refl _ _)
      subst hao
      have hx : ∀ wx, Below w.heap.size w wx → wx.cell? ⟨k0, off + j, none⟩ = some (.int .u8 (l.getD j 0)) := fun wx k => by
        obtain ⟨k1, off1, e, hc⟩ := hcA wx k
        injection e with e; injection e with e1 e2; subst e1 e2
        exact hc j hlt
      have hx0 : isByte (l.getD j 0) := by
        rw [List.getD_eq_getElem?_getD, List.getElem?_eq_getElem hlt]
        exact HI.out.2.1 _ (List.getElem_mem hlt)
      generalize l.getD j 0 = x at hx hx0
      obtain ⟨xn, hxn⟩ : ∃ c : Nat, x.tmod 64 = c := ⟨(x % 64).toNat, by unfold isByte at hx0; rw [Int.tmod_eq_emod_of_nonneg hx0.1]; omega⟩
      have hxm : xn < 64 := by unfold isByte at hx0; rw [Int.tmod_eq_emod_of_nonneg hx0.1] at hxn; omega
      obtain ⟨y, hy⟩ : ∃ y, vs[j]? = some y := ⟨_, List.getElem?_eq_getElem hlv⟩
      have hy0 : 0 ≤ y ∧ y ≤ 65535 := HI.out.2.2.2 _ (List.mem_of_getElem? hy)
      have hcV := fun wx (k : Below w.heap.size w wx) => row_cell HI.out.2.2.1 (Kept.ofBelow (S := fun _ => False) k) hy (u := .int .u16 y) rfl
      obtain ⟨g2, off2, hav, -⟩ := hcV w (Below.refl _ _)
      subst hav
      have hyc : ∀ wx, Below w.heap.size w wx → wx.cell? ⟨g2, off2 + j, none⟩ = some (.int .u16 y) := fun wx k => by
        obtain ⟨k1, off1, e, hc⟩ := hcV wx k
        injection e with e; injection e with e1 e2; subst e1 e2
        exact hc
      have c0 := hx _ I.out.1.2.2.1
      have c1 := hyc _ I.out.1.2.2.1
      have HY := Lib.hid (And.intro hyc (And.intro hy0 (And.intro hxm htn)))
      have F1 := rd_one (s := s) (kn := kn) (xn := xn) (v := y) hxm htn.symm I.out.2.1 I.out.2.2.1 I.out.2.2.2.1
      have GE := get_any wr A xn s.V s.T s.R I.out.1.1
      rw [if_pos hxm] at GE
      have hwo : IntKind.u32.wrap (s.V xn) = s.V xn := by
        have : IntKind.u32.wrap (s.V xn) = s.V xn % 4294967296 := rfl
        have := I.out.1.2.1 xn
        omega
      obtain ⟨s1, hs1⟩ : ∃ z, apS s ⟨1, tn, 1, xn, y⟩ = z := ⟨_, rfl⟩
      have AP := Lib.hid (ap_mi I.out.1 1 tn 1 xn y s1 (s.V xn) true (ok_mk (by decide) (by omega) (by decide) (by omega) hy0) hs1 F1.1 F1.2.1)
      rw [hs1] at F1
      generalize s.V xn = vo at GE AP hwo
      replace F1 := Lib.hid F1.2.2
      replace GE := Lib.hid GE
      clear hcA hcV hx hx0 hyc hy hy0 hlt hlv hxm htn hs1
      go_wp2_with fail
      refine GE.out.mono ?_
      rintro e w4 ⟨rfl, rfl⟩
      clear GE
      go_wp2_with fail
      refine AP.out.mono ?_
      rintro e w5 ⟨rfl, m5, -⟩
      have c2 := HY.out.1 _ m5.2.2.1
      have M5 := Lib.hid m5
      clear AP m5 c0 c1 I
      by_cases hxk : xn = kn
      · skip
        have heq : ((xn : Int) == (kn : Int)) = true := by simp [hxk]
        replace hxk := Lib.hid hxk
        have hV1 : s1.V kn = y := by have := F1.out.2.2; rw [if_pos hxk.out] at this; exact this
        have hqb : 0 ≤ y ∧ y ≤ 65535 := HY.out.2.1
        have hwq : IntKind.u32.wrap y = y := by
          have : IntKind.u32.wrap y = y % 4294967296 := rfl
          omega
        have F2 := rd_two (s := s1) (kn := kn) (j := j) (q := y) (tn := tn) HN.out.2.2.2.2 HY.out.2.2.2.symm F1.out.1 F1.out.2.1 hV1
        obtain ⟨s2, hs2⟩ : ∃ z, apS s1 ⟨2, tn, 2, kn, 0⟩ = z := ⟨_, rfl⟩
        have AP := Lib.hid (ap_mi M5.out 2 tn 2 kn 0 s2 y true (ok_mk (by decide) (by have := HY.out.2.2.2; omega) (by decide) (by have := HN.out.2.2.2.2; omega) (by decide)) hs2 F2.1 F2.2.1)
        rw [hs2] at F2
        replace F2 := Lib.hid (And.intro F2.2.2 hqb)
        clear hs2 hV1 hqb
        go_wp2_with fail
        refine AP.out.mono ?_
        rintro e w6 ⟨rfl, m6, -⟩
        have K : RI w w6 A s2 kn y (j + 1) := ⟨m6, by have := F2.out.1.1; have := HY.out.2.2.2; omega, by have := F2.out.1.2.1; have := HY.out.2.2.2; omega, F2.out.1.2.2, F2.out.2⟩
        replace K := Lib.hid K
        clear AP m6
        go_wp2_with fail
        exact ⟨⟨j + 1, s2, y, rfl, by have h := HY.out.2.2.2; go_num, by go_num, by omega, K⟩, by simp [intOf]; omega⟩
      · skip
        have hne : ((xn : Int) == (kn : Int)) = false := by simpa using (fun e : (xn : Int) = kn => hxk (by omega))
        replace hxk := Lib.hid hxk
        have hV1 : s1.V kn = q := by have := F1.out.2.2; rw [if_neg hxk.out] at this; exact this
        have hqb : 0 ≤ q ∧ q ≤ 65535 := by have := M5.out.2.1 kn; rw [hV1] at this; exact this
        have hwq : IntKind.u32.wrap q = q := by
          have : IntKind.u32.wrap q = q % 4294967296 := rfl
          omega
        have F2 := rd_two (s := s1) (kn := kn) (j := j) (q := q) (tn := tn) HN.out.2.2.2.2 HY.out.2.2.2.symm F1.out.1 F1.out.2.1 hV1
        obtain ⟨s2, hs2⟩ : ∃ z, apS s1 ⟨2, tn, 2, kn, 0⟩ = z := ⟨_, rfl⟩
        have AP := Lib.hid (ap_mi M5.out 2 tn 2 kn 0 s2 q true (ok_mk (by decide) (by have := HY.out.2.2.2; omega) (by decide) (by have := HN.out.2.2.2.2; omega) (by decide)) hs2 F2.1 F2.2.1)
        rw [hs2] at F2
        replace F2 := Lib.hid (And.intro F2.2.2 hqb)
        clear hs2 hV1 hqb
        go_wp2_with fail
        refine AP.out.mono ?_
        rintro e w6 ⟨rfl, m6, -⟩
        have K : RI w w6 A s2 kn q (j + 1) := ⟨m6, by have := F2.out.1.1; have := HY.out.2.2.2; omega, by have := F2.out.1.2.1; have := HY.out.2.2.2; omega, F2.out.1.2.2, F2.out.2⟩
        replace K := Lib.hid K
        clear AP m6
        go_wp2_with fail
        exact ⟨⟨j + 1, s2, q, rfl, by have h := HY.out.2.2.2; go_num, by go_num, by omega, K⟩, by simp [intOf]; omega⟩
    · obtain rfl : j = n := by omega
      have E := rd_end s kn
      have AP := Lib.hid (ap_mi I.out.1 3 1 2 kn 1 s 0 false (ok_mk (by decide) (by decide) (by decide) (by have := HN.out.2.2.2.2; omega) (by decide)) E.1 E.2.1 E.2.2)
      clear E
      go_wp2_with fail
      refine AP.out.mono ?_
      rintro e w5 ⟨rfl, m5, -⟩
      have GE := get_any w5 A kn s.V s.T s.R m5.1
      rw [if_pos HN.out.2.2.2.2, I.out.2.2.2.1] at GE
      replace GE := Lib.hid GE
      replace m5 := Lib.hid m5
      clear AP
      go_wp2_with fail
      refine GE.out.mono ?_
      rintro e w6 ⟨rfl, rfl⟩
      go_wp2_with fail
      go_ret
      exact ⟨rfl, m5.out.2.2.1⟩

theorem walk (ak : Option Addr) (l : List Int) (ck : Nat) (v : Value) (vs : List Int) (key : Int) (w : World)
    (hb : Bytes w ak l) (hby : ∀ x ∈ l, isByte x) (_hc : l.length ≤ ck) (_hn : ak = none → ck = 0) (hr : RowU w 1 u16c v vs) (hv : ∀ x ∈ vs, 0 ≤ x ∧ x ≤ 65535) (hk : 0 ≤ key ∧ key ≤ 255) :
    Calls Try.prog 5 #[.slice ak l.length ck, v, .int .u8 key] w fun e w' => e = .returned (.bool true) ∧ Below w.heap.size w w' := by
  obtain ⟨av, cv, rfl, hr2⟩ := id hr
  by_cases h1 : l.length ≤ 40
  · by_cases h2 : l.length ≤ vs.length
    · exact core ak l ck av vs cv key w hb hby hr hv hk h1 h2
    · have KN := Lib.hid (known_any w)
      have d1 : decide (40 < (l.length : Int)) = false := by rw [decide_eq_false_iff_not]; omega
      have d2 : vs.length < l.length := by omega
      generalize l.length = n at *
      generalize vs.length = m at *
      clear hr hr2 hv hb hby h1 h2 hk
      go_enter Try.func5, Try.ntmps5
      go_wp2_with fail
      refine KN.out.mono ?_
      rintro e w1 ⟨rfl, b1⟩
      replace b1 := Lib.hid b1
      go_wp2_with fail
      go_ret
      exact ⟨rfl, b1.out⟩
  · have KN := Lib.hid (known_any w)
    have d1 : decide (40 < (l.length : Int)) = true := by rw [decide_eq_true_iff]; omega
    generalize l.length = n at *
    generalize vs.length = m at *
    clear hr hr2 hv hb hby h1 hk
    go_enter Try.func5, Try.ntmps5
    go_wp2_with fail
    refine KN.out.mono ?_
    rintro e w1 ⟨rfl, b1⟩
    replace b1 := Lib.hid b1
    go_wp2_with fail
    go_ret
    exact ⟨rfl, b1.out⟩


theorem lifted (os : Os) (started : os.Started) (H : Type) (enc : TypeId × Value → H) :
    ReturnsInHanded {} Try.checked os 5 .any (Rows.serviceReadsSpec.pre6 enc Try.prog Try.f5 Rows.serviceReadsRow.domain false) (Rows.serviceReadsSpec.post enc Try.prog Try.f5 false true false false) := by
  refine returnsInHanded_of_change (C := Try.checked) own started (by kernel_rfl) Try.func5
    (ChangeSpec.witness6 (enc := enc) (C := Try.checked) false ⟨#[], #[.slice none 0 0, .slice none 0 0, .int .u8 0], []⟩ 8 (by kernel_rfl) (by kernel_rfl) (by kernel_rfl) (by kernel_rfl)) ?_
  intro W base args ds gs before hval0 hW hcnd _
  have hval : ∀ (j : Nat) t v, Try.f5.params[j]? = some t → args[j]? = some v → Value.okWide Try.prog W .any base t v := hval0
  have hW' := hW
  obtain ⟨p, q, hA0, hV, rfl, hfz, hnd⟩ := hW
  have hA : DataW.TrodAll enc Try.prog W 0 (fun _ => true) true Try.f5.params.toList args.toList ds p := hA0
  rw [Try.params5] at hA hval
  obtain ⟨v0, vs0, d0, ds0, p0, q0, hargs, rfl, rfl, h0, r0⟩ := trodAll_cons hA
  obtain ⟨v1, vs1, d1, ds1, p1, q1, rfl, rfl, rfl, h1, r1⟩ := trodAll_cons r0
  obtain ⟨v2, vs2, d2, ds2, p2, q2, rfl, rfl, rfl, h2, r2⟩ := trodAll_cons r1
  obtain ⟨rfl, rfl, rfl⟩ := trodAll_nil r2
  obtain rfl : args = #[v0, v1, v2] := by cases args; simp_all
  obtain ⟨rfl, rfl⟩ := trodVars_none hV
  have k0 := h0
  have lt0 : ∀ x ∈ p0, x.block < W.heap.size := by obtain ⟨m, hm⟩ := k0; exact DataW.trod_lt m _ _ _ hm
  obtain ⟨ax0, ln0, cx0, rfl⟩ := okWide_slice Try.underlying43 (hval 0 43 v0 rfl rfl)
  obtain ⟨a0, l0, c0, hv0, hb0, hby0, hcap0, hno0⟩ : ∃ (ao : Option Addr) (l : List Int) (cap : Nat), Value.slice ax0 ln0 cx0 = .slice ao l.length cap ∧ Bytes W ao l ∧ (∀ y ∈ l, isByte y) ∧ l.length ≤ cap ∧ (ao = none → cap = 0) := by
    obtain ⟨fuel, hf⟩ := h0
    exact open_bytes (by simpa [Value.cells] using hf)
  injection hv0 with hv0a hv0b hv0c
  subst hv0a hv0b hv0c
  have k1 := h1
  have lt1 : ∀ x ∈ p1, x.block < W.heap.size := by obtain ⟨m, hm⟩ := k1; exact DataW.trod_lt m _ _ _ hm
  obtain ⟨ax1, ln1, cx1, rfl⟩ := okWide_slice Try.underlying50 (hval 1 50 v1 rfl rfl)
  obtain ⟨fuel1, hf1⟩ := h1
  obtain ⟨l1, hr1, ok1⟩ := open_u16s (show DataW.trod enc Try.prog W 0 (fun _ => true) true fuel1 50 [.slice ax1 ln1 cx1] = _ from by simpa [Value.cells] using hf1)
  obtain ⟨a2, rfl, rfl, rfl, w2⟩ := open_int Try.underlying5 (hval 2 5 v2 rfl rfl) h2
  have b2 : 0 ≤ a2 ∧ a2 ≤ 255 := by simpa [Lit.wf, IntKind.min, IntKind.max, IntKind.signed, IntKind.bits] using w2
  clear hA0 hval0
  refine (walk ax0 l0 cx0 (.slice ax1 ln1 cx1) l1 a2 W hb0 hby0 hcap0 hno0 hr1 ok1 b2).mono fun e W' ⟨he, bel⟩ => ?_
  subst he
  exact ⟨_, rfl, _, _, _, [], _, [], hW', trodAll_mk1 (shut_bool Try.underlying4 _), (trodAll_cons_mk (Below.trod laidOut (by kernel_rfl) (of_decide_eq_true (by kernel_rfl)) k0 bel lt0) (trodAll_cons_mk (Below.trod laidOut (by kernel_rfl) (of_decide_eq_true (by kernel_rfl)) k1 bel lt1) (trodAll_cons_mk (shut_int Try.underlying5 w2) trodAll_mk0))), rfl, bel.frame _, fun h => by cases h⟩

theorem over : Rows.serviceReadsRow.holds Try.pinned (OpenSpec.ofChange Rows.serviceReadsSpec) :=
  OpenClaim.holds_of_wide 5 Try.f5 rfl rfl rfl rfl rfl rfl rfl ⟨rfl, rfl, rfl, rfl, rfl⟩ rfl rfl rfl rfl rfl (by kernel_rfl) Try.func5 (by kernel_rfl)
    (of_decide_eq_true (by kernel_rfl)) (by unfold Func.isWrapper; first | (rw [if_pos (by decide +kernel)]; kernel_rfl) | (rw [if_neg (by decide +kernel)]; exact ⟨rfl, rfl⟩))
    (fun os started H enc _ => lifted os started H enc)

theorem proved : Rows.ServiceReadsSaid := over
#print axioms proved
end Go.Proofs.Ytphakceboohbhaa.serviceReads
