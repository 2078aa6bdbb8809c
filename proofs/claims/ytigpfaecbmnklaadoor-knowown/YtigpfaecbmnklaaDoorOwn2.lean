/- The walk of KnowOwn. -/
import Derived.Test.YtigpfaecbmnklaaDoorOwn1
namespace Go.Proofs.YtigpfaecbmnklaaDoor
open Go.RowKit Go.Maps
set_option maxRecDepth 100000

set_option maxHeartbeats 16000000 in
theorem own_any (ow ep ot : Int) (r : Rq) (sn : Bool) (ow0 : 0 ≤ ow) (ow1 : ow ≤ 255) (ep0 : 0 ≤ ep) (ep1 : ep ≤ 255) (ot0 : 0 ≤ ot) (ot1 : ot ≤ 255) (hr : r.ok) (w : World) (ht : Tab w) :
    Calls Tryd.prog 6 #[.int .u8 ow, .int .u8 ep, .int .u8 ot, .agg r.cells.toArray, .bool sn] w fun e w' => e = .returned (.bool true) ∧ Below w.heap.size w w' := by
  obtain ⟨W, hW⟩ : ∃ W, W = w.alloc (.cells r.cells.toArray 27) := ⟨_, rfl⟩
  have hbl : Below w.heap.size w W := by rw [hW]; exact (Below.refl _ _).alloc (Nat.le_refl _) _
  have hrx : W.heap[w.heap.size]? = some (.cells r.cells.toArray 27 (0, 0)) := by rw [hW]; exact heap_alloc_new _ _
  have CK := Lib.hid (known17 W (Tab.on ht hbl))
  have HBL := Lib.hid hbl
  have HRX := Lib.hid hrx
  have HW := Lib.hid hW
  have HT := Lib.hid ht
  have HR := Lib.hid hr
  obtain ⟨⟨rc0, rc1⟩, -⟩ := hr
  simp only [Rq.cells] at HW ⊢
  clear hW hbl hrx ht
  go_enter Tryd.func6, Tryd.ntmps6
  go_upto_region 1 with fail
  rw [← HW.out]
  clear HW
  go_wp2_with fail
  refine Calls.mono CK.out ?_
  rintro e' w1 ⟨rfl, hb1⟩
  have B1 := Lib.hid (HBL.out.trans (hb1.mono HBL.out.size))
  have HRX1 := Lib.hid ((hb1.block _ (lt_of_block HRX.out)).trans HRX.out)
  clear hb1 CK
  generalize hRg : w.heap.size = R at *
  go_upto_region 4 with fail
  obtain ⟨o, ho⟩ : ∃ o, o = ow % 4 := ⟨_, rfl⟩
  obtain ⟨x, hx⟩ : ∃ x, x = ot % 4 := ⟨_, rfl⟩
  obtain ⟨e, he⟩ : ∃ e, e = ep % 200 + 1 := ⟨_, rfl⟩
  have o0 : 0 ≤ o := by omega
  have o1 : o < 4 := by omega
  have x0 : 0 ≤ x := by omega
  have x1 : x < 4 := by omega
  have e0 : 1 ≤ e := by omega
  have e1 : e ≤ 200 := by omega
  rw [← ho, ← hx, ← he]
  clear ho hx he
  generalize ep % 200 = ep2
  by_cases hox : o = x
  · go_wp2_with fail
    go_ret
    exact ⟨rfl, by rw [hRg]; exact B1.out⟩
  · go_wp2_with fail
    refine Calls.mono (new18 _) ?_
    rintro e' w2 ⟨rfl, hw2⟩
    have hk2 : Kw w1.heap.size w2 w1.heap.size Kn.none := by rw [hw2]; exact kw_new w1 _ (Nat.le_refl _)
    have hb2 : Below w1.heap.size w1 w2 := by rw [hw2]; exact (Below.refl _ _).alloc (Nat.le_refl _) _
    have hRB : R < w1.heap.size := lt_of_block HRX1.out
    have HK2 := Lib.hid hk2
    have B2 := Lib.hid (B1.out.trans (hb2.mono (Nat.le_of_lt hRB)))
    have HRX2 := Lib.hid ((hb2.block _ (lt_of_block HRX1.out)).trans HRX1.out)
    clear hw2 hk2 hb2
    generalize hBg : w1.heap.size = B at *
    have HRB := Lib.hid (show R ≠ B by omega)
    have HRB2 := Lib.hid (show R ≤ B by omega)
    go_wp2_with fail
    have hkok : Ky.ok ⟨o, e⟩ := by unfold Ky.ok; simp only; omega
    have CL := learn19 B w2 B Kn.none HK2.out ⟨o, e⟩ hkok (by simp [Kn.none])
    have elk : learnK Kn.none ⟨o, e⟩ = ⟨[⟨o, e⟩], [], [], []⟩ := by
      unfold learnK learnB
      rw [if_pos (by simp; omega)]; rfl
    rw [elk] at CL
    simp only [Ky.cells] at CL
    refine Calls.mono CL ?_
    rintro e' w3 ⟨rfl, hk3, hs3⟩
    have HK3 := Lib.hid hk3
    have B3 := Lib.hid (B2.out.trans (hs3.bel.mono HRB2.out))
    have HRX3 := Lib.hid (hs3.stay _ _ _ _ HRB.out HRX2.out)
    have HO3 : Hid (OwnS ⟨[⟨o, e⟩], [], [], []⟩ o e) := Lib.hid ⟨rfl, (fun y hy => by cases hy), by simp, by simp⟩
    have r0 : w3.cell? ⟨R, 0, none⟩ = some (.int .u8 r.c) := by rw [cell_of_row _ _ _ _ _ _ HRX3.out]; rfl
    have r1 : w3.cell? ⟨R, 1, none⟩ = some (.int .u32 r.t) := by rw [cell_of_row _ _ _ _ _ _ HRX3.out]; rfl
    have r2 : w3.cell? ⟨R, 2, none⟩ = some (.int .u8 r.k) := by rw [cell_of_row _ _ _ _ _ _ HRX3.out]; rfl
    have r3 : w3.cell? ⟨R, 3, none⟩ = some (.int .u8 r.y) := by rw [cell_of_row _ _ _ _ _ _ HRX3.out]; rfl
    have r4 : w3.cell? ⟨R, 4, none⟩ = some (.int .u16 r.v) := by rw [cell_of_row _ _ _ _ _ _ HRX3.out]; rfl
    clear hk3 hs3 CL elk hkok
    go_upto_region 8 with fail
    obtain ⟨tb, htb⟩ : ∃ b, b = (sn && (decide (1 ≤ r.c) && decide (r.c ≤ 4))) := ⟨_, rfl⟩
    have HTB := Lib.hid htb
    clear htb
    go_cut [48] from 20 (fun s48 wx => s48 = .bool tb ∧ wx = w3)
    case first =>
      cases sn
      · go_wp2_with fail
        go_meet
        exact ⟨by rw [HTB.out]; rfl, rfl⟩
      · by_cases c1 : 1 ≤ r.c
        · by_cases c2 : r.c ≤ 4
          · have D := Lib.hid (And.intro c1 c2)
            go_wp2_with fail
            go_meet
            exact ⟨by rw [HTB.out]; obtain ⟨d1, d2⟩ := D.out; simp [d1, d2], rfl⟩
          · have D := Lib.hid (decide_eq_false c2)
            go_wp2_with fail
            go_meet
            exact ⟨by rw [HTB.out, D.out]; simp, rfl⟩
        · have D := Lib.hid (decide_eq_false c1)
          go_wp2_with fail
          go_meet
          exact ⟨by rw [HTB.out, D.out]; simp, rfl⟩
    case rest =>
      obtain ⟨rfl, hwc⟩ := hcut
      have hwc2 := hwc.symm
      clear hwc
      subst hwc2
      go_upto_if 48 with fail
      go_cut [] from 20 (fun wx => ∃ S, Hid (Kw B wx B S ∧ OwnS S o e ∧ wx.heap[R]? = some (.cells r.cells.toArray 27 (0, 0)) ∧ Below R w wx))
      case first =>
        cases tb
        · go_wp2_with fail
          go_meet
          exact ⟨_, Lib.hid ⟨HK3.out, HO3.out, HRX3.out, B3.out⟩⟩
        · have hcc : 1 ≤ r.c ∧ r.c ≤ 4 := by have := HTB.out; simp at this; exact this.2
          obtain ⟨hc1, hc4⟩ := hcc
          have CS := see20 B w3 B ⟨[⟨o, e⟩], [], [], []⟩ HK3.out (oR r) Mc.nil (oR_at _ _) nil_ok (Tab.on HT.out (by rw [hRg]; exact B3.out)) (show (1 : Int) ≠ 6 by decide) rfl HR.out (by simp) (by simp)
          simp only [oR, hm, Mg.cells, Rq.zero, Vt.zero] at CS
          have HCS := Lib.hid CS
          clear CS
          go_wp2_with fail
          refine Calls.mono HCS.out ?_
          rintro e' w4 ⟨rfl, hk4, hs4⟩
          have HF : Hid (∃ S, Kw B w4 B S ∧ OwnS S o e ∧ w4.heap[R]? = some (.cells r.cells.toArray 27 (0, 0)) ∧ Below R w w4) := Lib.hid ⟨_, hk4, own_see (r := r) HO3.out (by simp) (by simp), hs4.stay _ _ _ _ HRB.out HRX3.out, B3.out.trans (hs4.bel.mono HRB2.out)⟩
          clear hk4 hs4 HCS
          go_wp2_with fail
          go_meet
          obtain ⟨S, hF⟩ := HF.out
          exact ⟨S, Lib.hid hF⟩
      case rest =>
        obtain ⟨S, HS⟩ := hcut
        obtain ⟨wb, hwb⟩ : ∃ wb, wb = wc := ⟨wc, rfl⟩
        subst hwb
        have HK5 := Lib.hid HS.out.1
        have HO5 := Lib.hid HS.out.2.1
        have HRX5 := Lib.hid HS.out.2.2.1
        have B5 := Lib.hid HS.out.2.2.2
        have CKN := Lib.hid (knows21 B wb B S HK5.out r HR.out)
        obtain ⟨zb, hzb⟩ : ∃ b, b = decide (r = Rq.zero) := ⟨_, rfl⟩
        have hq : ∀ w, (binOp .eql 27 (.agg r.cells.toArray) (.agg Rq.zero.cells.toArray)).run Tryd.prog w = .ok (.bool zb) w := fun w => by rw [hzb]; exact eql27 r Rq.zero w
        have hgd := fun op a b w => guard27 op a b r Rq.zero w
        have s0 : wb.cell? ⟨R, 0, none⟩ = some (.int .u8 r.c) := by rw [cell_of_row _ _ _ _ _ _ HRX5.out]; rfl
        have s1 : wb.cell? ⟨R, 1, none⟩ = some (.int .u32 r.t) := by rw [cell_of_row _ _ _ _ _ _ HRX5.out]; rfl
        have s2 : wb.cell? ⟨R, 2, none⟩ = some (.int .u8 r.k) := by rw [cell_of_row _ _ _ _ _ _ HRX5.out]; rfl
        have s3 : wb.cell? ⟨R, 3, none⟩ = some (.int .u8 r.y) := by rw [cell_of_row _ _ _ _ _ _ HRX5.out]; rfl
        have s4 : wb.cell? ⟨R, 4, none⟩ = some (.int .u16 r.v) := by rw [cell_of_row _ _ _ _ _ _ HRX5.out]; rfl
        have HKZ := Lib.hid (show zb = true → knowsB S r = true from fun h => by unfold knowsB; rw [← hzb, h]; rfl)
        have HMC := Lib.hid (own_m (x := x) (r := r) HO5.out)
        generalize knowsB S r = kb at *
        simp only [Rq.cells, Rq.zero] at hq hgd CKN
        clear hzb HS r0 r1 r2 r3 r4 HRX3 HRX2 HRX1 HRX HK3 HK2 HO3 B3 B2 B1
        go_upto_region 10 with fail
        go_cut [15] from 20 (fun s15 wx => s15 = .bool kb ∧ Hid (Below wb.heap.size wb wx))
        case first =>
          cases zb
          · go_wp2_with fail
            refine Calls.mono CKN.out ?_
            rintro e' w6 ⟨rfl, hb6⟩
            have HB6 := Lib.hid hb6
            clear hb6
            go_wp2_with fail
            go_meet
            exact ⟨rfl, HB6⟩
          · go_wp2_with fail
            go_meet
            exact ⟨by rw [HKZ.out (by first | rfl | trivial)], Lib.hid (Below.refl _ _)⟩
        case rest =>
          obtain ⟨rfl, HBX⟩ := hcut
          have HK6 := Lib.hid (HK5.out.on HBX.out)
          have HRX6 := Lib.hid ((HBX.out.block _ (lt_of_block HRX5.out)).trans HRX5.out)
          have HRW := Lib.hid (Nat.le_trans HRB2.out HK5.out.le)
          have B6 := Lib.hid (B5.out.trans (HBX.out.mono HRW.out))
          clear HBX HK5 HRX5 B5 CKN hq hgd s0 s1 s2 s3 s4
          obtain ⟨U1, hU1⟩ : ∃ U, U = (wc.alloc (.cells Vz.toArray 37)).setCells wc.heap.size 0 (oM o x e r).cells := ⟨_, rfl⟩
          obtain ⟨hx1, hu1, ht1⟩ := msg_new wc _ hU1
          obtain ⟨U2, hU2⟩ : ∃ U, U = (U1.alloc (.cells Vz.toArray 37)).setCells U1.heap.size 0 (oM x o e Rq.zero).cells := ⟨_, rfl⟩
          obtain ⟨hx2, hu2, ht2⟩ := msg_new U1 _ hU2
          obtain ⟨U3, hU3⟩ : ∃ U, U = (U2.alloc (.cells Vz.toArray 37)).setCells U2.heap.size 0 (oQ o x e).cells := ⟨_, rfl⟩
          obtain ⟨hx3, hu3, ht3⟩ := msg_new U2 _ hU3
          have hu13 : Below wc.heap.size wc U3 := Below.up (Below.up hu1 hu2) hu3
          have HX1 := Lib.hid ((hu3.block _ (lt_of_block ((hu2.block _ (lt_of_block hx1)).trans hx1))).trans ((hu2.block _ (lt_of_block hx1)).trans hx1))
          have HX2 := Lib.hid ((hu3.block _ (lt_of_block hx2)).trans hx2)
          have HX3 := Lib.hid hx3
          have HK7 := Lib.hid (HK6.out.on hu13)
          have B7 := Lib.hid (B6.out.trans (hu13.mono (Nat.le_trans HRB2.out HK6.out.le)))
          have HT1 := Lib.hid ht1
          have HT2 := Lib.hid ht2
          have HT3 := Lib.hid ht3
          have HU1 := Lib.hid hU1
          have HU2 := Lib.hid hU2
          have HU3 := Lib.hid hU3
          have LR := Lib.hid (req_load HRX6.out)
          have hky1 : Ky.ok ⟨o, e⟩ := by unfold Ky.ok; simp only; omega
          have hky2 : Ky.ok ⟨x, e⟩ := by unfold Ky.ok; simp only; omega
          have CN := Lib.hid (fun w' (h : Kw B w' B S) (hb : Below R w w') => can22 B w' B S h (oM x o e Rq.zero) Mc.nil (oM_at _ _ _ _ _) nil_ok (Tab.on HT.out (by rw [hRg]; exact hb)) (show (4 : Int) ≠ 6 by decide) rfl hky2 zero_ok)
          have CQ := Lib.hid (fun w' (h : Kw B w' B S) (hb : Below R w w') => can22 B w' B S h (oQ o x e) Mc.nil (oQ_at _ _ _ _) nil_ok (Tab.on HT.out (by rw [hRg]; exact hb)) (show (9 : Int) ≠ 6 by decide) rfl hky1 zero_ok)
          have CM := Lib.hid (fun w' (h : Kw B w' B S) (hb : Below R w w') => can22 B w' B S h (oM o x e r) Mc.nil (oM_at _ _ _ _ _) nil_ok (Tab.on HT.out (by rw [hRg]; exact hb)) (show (4 : Int) ≠ 6 by decide) rfl hky1 HR.out)
          rw [own_n HO5.out hox o0 o1 x0 x1 e0 e1] at CN
          rw [own_q HO5.out o0 o1 x0 x1 e0 e1] at CQ
          generalize hfm : canB S (oM o x e r) Mc.nil = fm at *
          clear hU1 hU2 hU3 hx1 hx2 hx3 hu1 hu2 hu3 hu13 ht1 ht2 ht3 hky1 hky2 hfm HO5 HKZ HTB
          have ER : (#[.int .u8 r.c, .int .u32 r.t, .int .u8 r.k, .int .u8 r.y, .int .u16 r.v] : Array Value) = r.cells.toArray := rfl
          have EB1 : Hid (∀ ra, ra = r.cells.toArray → (.agg (oM o x e r).cells.toArray : Value) = .agg (oM o x e r).cells.toArray) := Lib.hid (fun _ _ => rfl)
          go_upto_region 11 with fail
          rw [ER]
          clear ER
          obtain ⟨ra, hra⟩ : ∃ a, a = r.cells.toArray := ⟨_, rfl⟩
          obtain ⟨A1, hA1⟩ : ∃ a, a = (oM o x e r).cells.toArray := ⟨_, rfl⟩
          obtain ⟨A2, hA2⟩ : ∃ a, a = (oM x o e Rq.zero).cells.toArray := ⟨_, rfl⟩
          obtain ⟨A3, hA3⟩ : ∃ a, a = (oQ o x e).cells.toArray := ⟨_, rfl⟩
          have HZ1 := Lib.hid (show A1.size = 25 by rw [hA1]; rfl)
          have HZ2 := Lib.hid (show A2.size = 25 by rw [hA2]; rfl)
          have HZ3 := Lib.hid (show A3.size = 25 by rw [hA3]; rfl)
          have HONE1 := Lib.hid (show (oM o x e r).cells.toArray = A1 from hA1.symm)
          obtain ⟨M1, hM1⟩ : ∃ a, a = wc.heap.size := ⟨_, rfl⟩
          obtain ⟨M2, hM2⟩ : ∃ a, a = U1.heap.size := ⟨_, rfl⟩
          obtain ⟨M3, hM3⟩ : ∃ a, a = U2.heap.size := ⟨_, rfl⟩
          have HRA := Lib.hid hra
          have HA1 := Lib.hid hA1
          have HA2 := Lib.hid hA2
          have HA3 := Lib.hid hA3
          have HM1 := Lib.hid hM1
          have HM2 := Lib.hid hM2
          have HM3 := Lib.hid hM3
          rw [← hra] at LR ⊢
          rw [← hA1] at HX1 CM
          rw [← hA2] at HX2 CN
          rw [← hA3] at HX3 CQ
          rw [← hM1] at HX1 HT1 HU1
          rw [show (oM o x e r).cells = A1.toList by rw [hA1]] at HU1
          rw [← hM2] at HX2 HT2 HU2
          rw [show (oM x o e Rq.zero).cells = A2.toList by rw [hA2]] at HU2
          rw [← hM3] at HX3 HT3 HU3
          rw [show (oQ o x e).cells = A3.toList by rw [hA3]] at HU3
          clear hra hA1 hA2 hA3 hM1 hM2 hM3 EB1
          refine wp_region_lit ?_
          refine wpl_val (v := .int .u8 o) (w1 := wc) rfl (by go_simp) ({ tmps := #[.int .u8 ow, .int .u8 ep, .int .u8 ot, .agg ra, .bool sn, undef, undef, undef, .pointer (some ⟨R, 0, none⟩), undef, .bool false, .int .u8 o, .int .u8 e, .int .u8 x, .pointer (some ⟨B, 0, none⟩), .bool kb, undef, undef, undef, undef, u20, u21, u22, u23, u24, u25, u26, u27, u28, u29, u30, u31, u32, u33, u34, u35, u36, u37, u38, u39, u40, u41, u42, u43, u44, u45, u46, u47, u48, u49, u50, u51, u52, u53, u54, u55, u56, u57, u58, u59, u60, u61, u62, u63, .int .u8 o, u65, u66, u67, u68, u69, u70, u71, u72, u73, u74, u75, u76, u77, u78, u79, u80, u81, u82, u83, u84, u85, u86, u87, u88, u89, u90, u91, u92, u93, u94, u95, u96, u97, u98], defers := [] }) rfl ?_
          refine wpl_val (v := .int .u8 x) (w1 := wc) rfl (by go_simp) ({ tmps := #[.int .u8 ow, .int .u8 ep, .int .u8 ot, .agg ra, .bool sn, undef, undef, undef, .pointer (some ⟨R, 0, none⟩), undef, .bool false, .int .u8 o, .int .u8 e, .int .u8 x, .pointer (some ⟨B, 0, none⟩), .bool kb, undef, undef, undef, undef, u20, u21, u22, u23, u24, u25, u26, u27, u28, u29, u30, u31, u32, u33, u34, u35, u36, u37, u38, u39, u40, u41, u42, u43, u44, u45, u46, u47, u48, u49, u50, u51, u52, u53, u54, u55, u56, u57, u58, u59, u60, u61, u62, u63, .int .u8 o, .int .u8 x, u66, u67, u68, u69, u70, u71, u72, u73, u74, u75, u76, u77, u78, u79, u80, u81, u82, u83, u84, u85, u86, u87, u88, u89, u90, u91, u92, u93, u94, u95, u96, u97, u98], defers := [] }) rfl ?_
          refine wpl_val (v := .int .u8 e) (w1 := wc) rfl (by go_simp) ({ tmps := #[.int .u8 ow, .int .u8 ep, .int .u8 ot, .agg ra, .bool sn, undef, undef, undef, .pointer (some ⟨R, 0, none⟩), undef, .bool false, .int .u8 o, .int .u8 e, .int .u8 x, .pointer (some ⟨B, 0, none⟩), .bool kb, undef, undef, undef, undef, u20, u21, u22, u23, u24, u25, u26, u27, u28, u29, u30, u31, u32, u33, u34, u35, u36, u37, u38, u39, u40, u41, u42, u43, u44, u45, u46, u47, u48, u49, u50, u51, u52, u53, u54, u55, u56, u57, u58, u59, u60, u61, u62, u63, .int .u8 o, .int .u8 x, .int .u8 e, u67, u68, u69, u70, u71, u72, u73, u74, u75, u76, u77, u78, u79, u80, u81, u82, u83, u84, u85, u86, u87, u88, u89, u90, u91, u92, u93, u94, u95, u96, u97, u98], defers := [] }) rfl ?_
          refine wpl_valg (v := .agg ra) (w1 := wc) rfl (exec_load 27 (.tmp 8) rfl rfl LR.out) ({ tmps := #[.int .u8 ow, .int .u8 ep, .int .u8 ot, .agg ra, .bool sn, undef, undef, undef, .pointer (some ⟨R, 0, none⟩), undef, .bool false, .int .u8 o, .int .u8 e, .int .u8 x, .pointer (some ⟨B, 0, none⟩), .bool kb, undef, undef, undef, undef, u20, u21, u22, u23, u24, u25, u26, u27, u28, u29, u30, u31, u32, u33, u34, u35, u36, u37, u38, u39, u40, u41, u42, u43, u44, u45, u46, u47, u48, u49, u50, u51, u52, u53, u54, u55, u56, u57, u58, u59, u60, u61, u62, u63, .int .u8 o, .int .u8 x, .int .u8 e, .agg ra, u68, u69, u70, u71, u72, u73, u74, u75, u76, u77, u78, u79, u80, u81, u82, u83, u84, u85, u86, u87, u88, u89, u90, u91, u92, u93, u94, u95, u96, u97, u98], defers := [] }) rfl ?_
          refine wpl_val (v := .agg A1) (w1 := wc) rfl (by rw [HA1.out, HRA.out]; simp only [oM, hm, Mg.cells, Rq.cells, Rq.zero, Vt.zero]; go_simp) ({ tmps := #[.int .u8 ow, .int .u8 ep, .int .u8 ot, .agg ra, .bool sn, undef, undef, undef, .pointer (some ⟨R, 0, none⟩), undef, .bool false, .int .u8 o, .int .u8 e, .int .u8 x, .pointer (some ⟨B, 0, none⟩), .bool kb, undef, undef, undef, undef, u20, u21, u22, u23, u24, u25, u26, u27, u28, u29, u30, u31, u32, u33, u34, u35, u36, u37, u38, u39, u40, u41, u42, u43, u44, u45, u46, u47, u48, u49, u50, u51, u52, u53, u54, u55, u56, u57, u58, u59, u60, u61, u62, u63, .int .u8 o, .int .u8 x, .int .u8 e, .agg ra, .agg A1, u69, u70, u71, u72, u73, u74, u75, u76, u77, u78, u79, u80, u81, u82, u83, u84, u85, u86, u87, u88, u89, u90, u91, u92, u93, u94, u95, u96, u97, u98], defers := [] }) rfl ?_
          refine wpl_val (v := .pointer (some ⟨M1, 0, none⟩)) (w1 := wc.alloc (.cells Vz.toArray 37)) rfl (by rw [HM1.out]; simp only [Vz]; go_simp) ({ tmps := #[.int .u8 ow, .int .u8 ep, .int .u8 ot, .agg ra, .bool sn, undef, undef, undef, .pointer (some ⟨R, 0, none⟩), undef, .bool false, .int .u8 o, .int .u8 e, .int .u8 x, .pointer (some ⟨B, 0, none⟩), .bool kb, .pointer (some ⟨M1, 0, none⟩), undef, undef, undef, u20, u21, u22, u23, u24, u25, u26, u27, u28, u29, u30, u31, u32, u33, u34, u35, u36, u37, u38, u39, u40, u41, u42, u43, u44, u45, u46, u47, u48, u49, u50, u51, u52, u53, u54, u55, u56, u57, u58, u59, u60, u61, u62, u63, .int .u8 o, .int .u8 x, .int .u8 e, .agg ra, .agg A1, u69, u70, u71, u72, u73, u74, u75, u76, u77, u78, u79, u80, u81, u82, u83, u84, u85, u86, u87, u88, u89, u90, u91, u92, u93, u94, u95, u96, u97, u98], defers := [] }) rfl ?_
          refine wpList_store_mid rfl 37 (.tmp 16) (.tmp 68) rfl M1 0 A1 rfl rfl (by rw [HZ1.out]; exact HT1.out) (by rw [HZ1.out]; exact size37) (by rw [HA1.out]; exact all_oneCell_toArray (Mg.one _)) ?_
          dsimp only
          rw [← HU1.out]
          go_upto_region 12 with fail
          refine wp_region_lit ?_
          refine wpl_val (v := .int .u8 x) (w1 := U1) rfl (by go_simp) ({ tmps := #[.int .u8 ow, .int .u8 ep, .int .u8 ot, .agg ra, .bool sn, undef, undef, undef, .pointer (some ⟨R, 0, none⟩), undef, .bool false, .int .u8 o, .int .u8 e, .int .u8 x, .pointer (some ⟨B, 0, none⟩), .bool kb, .pointer (some ⟨M1, 0, none⟩), undef, undef, undef, u20, u21, u22, u23, u24, u25, u26, u27, u28, u29, u30, u31, u32, u33, u34, u35, u36, u37, u38, u39, u40, u41, u42, u43, u44, u45, u46, u47, u48, u49, u50, u51, u52, u53, u54, u55, u56, u57, u58, u59, u60, u61, u62, u63, .int .u8 o, .int .u8 x, .int .u8 e, .agg ra, .agg A1, .int .u8 x, u70, u71, u72, u73, u74, u75, u76, u77, u78, u79, u80, u81, u82, u83, u84, u85, u86, u87, u88, u89, u90, u91, u92, u93, u94, u95, u96, u97, u98], defers := [] }) rfl ?_
          refine wpl_val (v := .int .u8 o) (w1 := U1) rfl (by go_simp) ({ tmps := #[.int .u8 ow, .int .u8 ep, .int .u8 ot, .agg ra, .bool sn, undef, undef, undef, .pointer (some ⟨R, 0, none⟩), undef, .bool false, .int .u8 o, .int .u8 e, .int .u8 x, .pointer (some ⟨B, 0, none⟩), .bool kb, .pointer (some ⟨M1, 0, none⟩), undef, undef, undef, u20, u21, u22, u23, u24, u25, u26, u27, u28, u29, u30, u31, u32, u33, u34, u35, u36, u37, u38, u39, u40, u41, u42, u43, u44, u45, u46, u47, u48, u49, u50, u51, u52, u53, u54, u55, u56, u57, u58, u59, u60, u61, u62, u63, .int .u8 o, .int .u8 x, .int .u8 e, .agg ra, .agg A1, .int .u8 x, .int .u8 o, u71, u72, u73, u74, u75, u76, u77, u78, u79, u80, u81, u82, u83, u84, u85, u86, u87, u88, u89, u90, u91, u92, u93, u94, u95, u96, u97, u98], defers := [] }) rfl ?_
          refine wpl_val (v := .int .u8 e) (w1 := U1) rfl (by go_simp) ({ tmps := #[.int .u8 ow, .int .u8 ep, .int .u8 ot, .agg ra, .bool sn, undef, undef, undef, .pointer (some ⟨R, 0, none⟩), undef, .bool false, .int .u8 o, .int .u8 e, .int .u8 x, .pointer (some ⟨B, 0, none⟩), .bool kb, .pointer (some ⟨M1, 0, none⟩), undef, undef, undef, u20, u21, u22, u23, u24, u25, u26, u27, u28, u29, u30, u31, u32, u33, u34, u35, u36, u37, u38, u39, u40, u41, u42, u43, u44, u45, u46, u47, u48, u49, u50, u51, u52, u53, u54, u55, u56, u57, u58, u59, u60, u61, u62, u63, .int .u8 o, .int .u8 x, .int .u8 e, .agg ra, .agg A1, .int .u8 x, .int .u8 o, .int .u8 e, u72, u73, u74, u75, u76, u77, u78, u79, u80, u81, u82, u83, u84, u85, u86, u87, u88, u89, u90, u91, u92, u93, u94, u95, u96, u97, u98], defers := [] }) rfl ?_
          refine wpl_val (v := .agg A2) (w1 := U1) rfl (by rw [HA2.out]; simp only [oM, hm, Mg.cells, Rq.zero, Vt.zero]; go_simp) ({ tmps := #[.int .u8 ow, .int .u8 ep, .int .u8 ot, .agg ra, .bool sn, undef, undef, undef, .pointer (some ⟨R, 0, none⟩), undef, .bool false, .int .u8 o, .int .u8 e, .int .u8 x, .pointer (some ⟨B, 0, none⟩), .bool kb, .pointer (some ⟨M1, 0, none⟩), undef, undef, undef, u20, u21, u22, u23, u24, u25, u26, u27, u28, u29, u30, u31, u32, u33, u34, u35, u36, u37, u38, u39, u40, u41, u42, u43, u44, u45, u46, u47, u48, u49, u50, u51, u52, u53, u54, u55, u56, u57, u58, u59, u60, u61, u62, u63, .int .u8 o, .int .u8 x, .int .u8 e, .agg ra, .agg A1, .int .u8 x, .int .u8 o, .int .u8 e, .agg A2, u73, u74, u75, u76, u77, u78, u79, u80, u81, u82, u83, u84, u85, u86, u87, u88, u89, u90, u91, u92, u93, u94, u95, u96, u97, u98], defers := [] }) rfl ?_
          refine wpl_val (v := .pointer (some ⟨M2, 0, none⟩)) (w1 := U1.alloc (.cells Vz.toArray 37)) rfl (by rw [HM2.out]; simp only [Vz]; go_simp) ({ tmps := #[.int .u8 ow, .int .u8 ep, .int .u8 ot, .agg ra, .bool sn, undef, undef, undef, .pointer (some ⟨R, 0, none⟩), undef, .bool false, .int .u8 o, .int .u8 e, .int .u8 x, .pointer (some ⟨B, 0, none⟩), .bool kb, .pointer (some ⟨M1, 0, none⟩), .pointer (some ⟨M2, 0, none⟩), undef, undef, u20, u21, u22, u23, u24, u25, u26, u27, u28, u29, u30, u31, u32, u33, u34, u35, u36, u37, u38, u39, u40, u41, u42, u43, u44, u45, u46, u47, u48, u49, u50, u51, u52, u53, u54, u55, u56, u57, u58, u59, u60, u61, u62, u63, .int .u8 o, .int .u8 x, .int .u8 e, .agg ra, .agg A1, .int .u8 x, .int .u8 o, .int .u8 e, .agg A2, u73, u74, u75, u76, u77, u78, u79, u80, u81, u82, u83, u84, u85, u86, u87, u88, u89, u90, u91, u92, u93, u94, u95, u96, u97, u98], defers := [] }) rfl ?_
          refine wpList_store_mid rfl 37 (.tmp 17) (.tmp 72) rfl M2 0 A2 rfl rfl (by rw [HZ2.out]; exact HT2.out) (by rw [HZ2.out]; exact size37) (by rw [HA2.out]; exact all_oneCell_toArray (Mg.one _)) ?_
          dsimp only
          rw [← HU2.out]
          go_upto_region 13 with fail
          refine wp_region_lit ?_
          refine wpl_val (v := .int .u8 o) (w1 := U2) rfl (by go_simp) ({ tmps := #[.int .u8 ow, .int .u8 ep, .int .u8 ot, .agg ra, .bool sn, undef, undef, undef, .pointer (some ⟨R, 0, none⟩), undef, .bool false, .int .u8 o, .int .u8 e, .int .u8 x, .pointer (some ⟨B, 0, none⟩), .bool kb, .pointer (some ⟨M1, 0, none⟩), .pointer (some ⟨M2, 0, none⟩), undef, undef, u20, u21, u22, u23, u24, u25, u26, u27, u28, u29, u30, u31, u32, u33, u34, u35, u36, u37, u38, u39, u40, u41, u42, u43, u44, u45, u46, u47, u48, u49, u50, u51, u52, u53, u54, u55, u56, u57, u58, u59, u60, u61, u62, u63, .int .u8 o, .int .u8 x, .int .u8 e, .agg ra, .agg A1, .int .u8 x, .int .u8 o, .int .u8 e, .agg A2, .int .u8 o, u74, u75, u76, u77, u78, u79, u80, u81, u82, u83, u84, u85, u86, u87, u88, u89, u90, u91, u92, u93, u94, u95, u96, u97, u98], defers := [] }) rfl ?_
          refine wpl_val (v := .int .u8 x) (w1 := U2) rfl (by go_simp) ({ tmps := #[.int .u8 ow, .int .u8 ep, .int .u8 ot, .agg ra, .bool sn, undef, undef, undef, .pointer (some ⟨R, 0, none⟩), undef, .bool false, .int .u8 o, .int .u8 e, .int .u8 x, .pointer (some ⟨B, 0, none⟩), .bool kb, .pointer (some ⟨M1, 0, none⟩), .pointer (some ⟨M2, 0, none⟩), undef, undef, u20, u21, u22, u23, u24, u25, u26, u27, u28, u29, u30, u31, u32, u33, u34, u35, u36, u37, u38, u39, u40, u41, u42, u43, u44, u45, u46, u47, u48, u49, u50, u51, u52, u53, u54, u55, u56, u57, u58, u59, u60, u61, u62, u63, .int .u8 o, .int .u8 x, .int .u8 e, .agg ra, .agg A1, .int .u8 x, .int .u8 o, .int .u8 e, .agg A2, .int .u8 o, .int .u8 x, u75, u76, u77, u78, u79, u80, u81, u82, u83, u84, u85, u86, u87, u88, u89, u90, u91, u92, u93, u94, u95, u96, u97, u98], defers := [] }) rfl ?_
          refine wpl_val (v := .int .u8 e) (w1 := U2) rfl (by go_simp) ({ tmps := #[.int .u8 ow, .int .u8 ep, .int .u8 ot, .agg ra, .bool sn, undef, undef, undef, .pointer (some ⟨R, 0, none⟩), undef, .bool false, .int .u8 o, .int .u8 e, .int .u8 x, .pointer (some ⟨B, 0, none⟩), .bool kb, .pointer (some ⟨M1, 0, none⟩), .pointer (some ⟨M2, 0, none⟩), undef, undef, u20, u21, u22, u23, u24, u25, u26, u27, u28, u29, u30, u31, u32, u33, u34, u35, u36, u37, u38, u39, u40, u41, u42, u43, u44, u45, u46, u47, u48, u49, u50, u51, u52, u53, u54, u55, u56, u57, u58, u59, u60, u61, u62, u63, .int .u8 o, .int .u8 x, .int .u8 e, .agg ra, .agg A1, .int .u8 x, .int .u8 o, .int .u8 e, .agg A2, .int .u8 o, .int .u8 x, .int .u8 e, u76, u77, u78, u79, u80, u81, u82, u83, u84, u85, u86, u87, u88, u89, u90, u91, u92, u93, u94, u95, u96, u97, u98], defers := [] }) rfl ?_
          refine wpl_val (v := .int .u8 e) (w1 := U2) rfl (by go_simp) ({ tmps := #[.int .u8 ow, .int .u8 ep, .int .u8 ot, .agg ra, .bool sn, undef, undef, undef, .pointer (some ⟨R, 0, none⟩), undef, .bool false, .int .u8 o, .int .u8 e, .int .u8 x, .pointer (some ⟨B, 0, none⟩), .bool kb, .pointer (some ⟨M1, 0, none⟩), .pointer (some ⟨M2, 0, none⟩), undef, undef, u20, u21, u22, u23, u24, u25, u26, u27, u28, u29, u30, u31, u32, u33, u34, u35, u36, u37, u38, u39, u40, u41, u42, u43, u44, u45, u46, u47, u48, u49, u50, u51, u52, u53, u54, u55, u56, u57, u58, u59, u60, u61, u62, u63, .int .u8 o, .int .u8 x, .int .u8 e, .agg ra, .agg A1, .int .u8 x, .int .u8 o, .int .u8 e, .agg A2, .int .u8 o, .int .u8 x, .int .u8 e, .int .u8 e, u77, u78, u79, u80, u81, u82, u83, u84, u85, u86, u87, u88, u89, u90, u91, u92, u93, u94, u95, u96, u97, u98], defers := [] }) rfl ?_
          refine wpl_val (v := .agg A3) (w1 := U2) rfl (by rw [HA3.out]; simp only [oQ, hm, Mg.cells, Rq.zero, Vt.zero]; go_simp) ({ tmps := #[.int .u8 ow, .int .u8 ep, .int .u8 ot, .agg ra, .bool sn, undef, undef, undef, .pointer (some ⟨R, 0, none⟩), undef, .bool false, .int .u8 o, .int .u8 e, .int .u8 x, .pointer (some ⟨B, 0, none⟩), .bool kb, .pointer (some ⟨M1, 0, none⟩), .pointer (some ⟨M2, 0, none⟩), undef, undef, u20, u21, u22, u23, u24, u25, u26, u27, u28, u29, u30, u31, u32, u33, u34, u35, u36, u37, u38, u39, u40, u41, u42, u43, u44, u45, u46, u47, u48, u49, u50, u51, u52, u53, u54, u55, u56, u57, u58, u59, u60, u61, u62, u63, .int .u8 o, .int .u8 x, .int .u8 e, .agg ra, .agg A1, .int .u8 x, .int .u8 o, .int .u8 e, .agg A2, .int .u8 o, .int .u8 x, .int .u8 e, .int .u8 e, .agg A3, u78, u79, u80, u81, u82, u83, u84, u85, u86, u87, u88, u89, u90, u91, u92, u93, u94, u95, u96, u97, u98], defers := [] }) rfl ?_
          refine wpl_val (v := .pointer (some ⟨M3, 0, none⟩)) (w1 := U2.alloc (.cells Vz.toArray 37)) rfl (by rw [HM3.out]; simp only [Vz]; go_simp) ({ tmps := #[.int .u8 ow, .int .u8 ep, .int .u8 ot, .agg ra, .bool sn, undef, undef, undef, .pointer (some ⟨R, 0, none⟩), undef, .bool false, .int .u8 o, .int .u8 e, .int .u8 x, .pointer (some ⟨B, 0, none⟩), .bool kb, .pointer (some ⟨M1, 0, none⟩), .pointer (some ⟨M2, 0, none⟩), .pointer (some ⟨M3, 0, none⟩), undef, u20, u21, u22, u23, u24, u25, u26, u27, u28, u29, u30, u31, u32, u33, u34, u35, u36, u37, u38, u39, u40, u41, u42, u43, u44, u45, u46, u47, u48, u49, u50, u51, u52, u53, u54, u55, u56, u57, u58, u59, u60, u61, u62, u63, .int .u8 o, .int .u8 x, .int .u8 e, .agg ra, .agg A1, .int .u8 x, .int .u8 o, .int .u8 e, .agg A2, .int .u8 o, .int .u8 x, .int .u8 e, .int .u8 e, .agg A3, u78, u79, u80, u81, u82, u83, u84, u85, u86, u87, u88, u89, u90, u91, u92, u93, u94, u95, u96, u97, u98], defers := [] }) rfl ?_
          refine wpList_store_mid rfl 37 (.tmp 18) (.tmp 77) rfl M3 0 A3 rfl rfl (by rw [HZ3.out]; exact HT3.out) (by rw [HZ3.out]; exact size37) (by rw [HA3.out]; exact all_oneCell_toArray (Mg.one _)) ?_
          dsimp only
          rw [← HU3.out]
          go_upto_region 14 with fail
          refine wp_region_lit ?_
          refine wpl_val (v := .pointer (some ⟨B, 0, none⟩)) (w1 := U3) rfl (by go_simp) _ rfl ?_
          refine wpList_load_row rfl 37 (.tmp 17) rfl M2 rfl 37 _ (0, 0) _ HX2.out Tryd.underlying37 rfl (by rw [HZ2.out]; exact size37) ?_
          go_wp2_with fail
          refine Calls.mono (CN.out U3 HK7.out B7.out) ?_
          rintro e' w7 ⟨rfl, hb7⟩
          have HK8 := Lib.hid (HK7.out.on hb7)
          have B8 := Lib.hid (B7.out.trans (hb7.mono (Nat.le_trans HRB2.out HK7.out.le)))
          have HX1b := Lib.hid ((hb7.block _ (lt_of_block HX1.out)).trans HX1.out)
          have HX3b := Lib.hid ((hb7.block _ (lt_of_block HX3.out)).trans HX3.out)
          have hLA : (Instr.loadAt 37 (.pointer (some ⟨M3, 0, none⟩))).run Tryd.prog w7 = .ok (.agg A3) w7 := by
            have := run_loadVar_row (P := Tryd.prog) w7 M3 37 37 _ (0, 0) _ HX3b.out Tryd.underlying37 rfl (by rw [HZ3.out]; exact size37)
            simp only [Instr.loadAt, Instr.sureAddr, Sem.run_bind, Sem.run_pure, Result.andThen_ok, this]
          clear hb7
          dsimp only
          refine ‹∀ (a : Act) (w : World), wpList Tryd.prog _ _ _ a w → _› _ _ ?_
          refine wpl_val (v := .bool false) (w1 := w7) rfl (by go_simp) _ rfl ?_
          refine wpl_val (v := .bool false) (w1 := w7) rfl (by go_simp) _ rfl ?_
          refine wpl_valg (v := .pointer (some ⟨B, 0, none⟩)) (w1 := w7) rfl (by go_simp) _ rfl ?_
          refine wpl_valg (v := .agg A3) (w1 := w7) rfl (exec_load 37 (.tmp 18) rfl rfl hLA) _ rfl ?_
          clear hLA
          go_wp2_with fail
          refine Calls.mono (CQ.out w7 HK8.out B8.out) ?_
          rintro e' w8 ⟨rfl, hb8⟩
          have HK9 := Lib.hid (HK8.out.on hb8)
          have B9 := Lib.hid (B8.out.trans (hb8.mono (Nat.le_trans HRB2.out HK8.out.le)))
          have HX1c := Lib.hid ((hb8.block _ (lt_of_block HX1b.out)).trans HX1b.out)
          clear hb8
          go_upto_region 16 with fail
          refine wp_region_lit ?_
          refine wpl_val (v := .pointer (some ⟨B, 0, none⟩)) (w1 := w8) rfl (by go_simp) _ rfl ?_
          refine wpList_load_row rfl 37 (.tmp 16) rfl M1 rfl 37 _ (0, 0) _ HX1c.out Tryd.underlying37 rfl (by rw [HZ1.out]; exact size37) ?_
          go_wp2_with fail
          refine Calls.mono (CM.out w8 HK9.out B9.out) ?_
          rintro e' w9 ⟨rfl, hb9⟩
          have B10 := Lib.hid (B9.out.trans (hb9.mono (Nat.le_trans HRB2.out HK9.out.le)))
          clear hb9
          have hmc := HMC.out
          clear HMC
          rcases hmc with rfl | hmc
          · go_wp2_with fail
            go_ret
            exact ⟨rfl, by rw [hRg]; exact B10.out⟩
          · cases kb
            · obtain rfl : fm = 40 := hmc
              go_wp2_with fail
              go_ret
              exact ⟨rfl, by rw [hRg]; exact B10.out⟩
            · obtain rfl : fm = 0 := hmc
              go_wp2_with fail
              go_ret
              exact ⟨rfl, by rw [hRg]; exact B10.out⟩
end Go.Proofs.YtigpfaecbmnklaaDoor
