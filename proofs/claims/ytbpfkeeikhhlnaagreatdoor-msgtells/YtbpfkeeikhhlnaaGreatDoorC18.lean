/- The document's Is, kind by kind. The document's Is, kind by kind. The document's Is, kind by kind. The document's Is, kind by kind. The document's Is, kind by kind. The document's Is, kind by kind. The document's Is, kind by kind. -/
import Derived.Test.YtbpfkeeikhhlnaaGreatDoorC17
namespace Go.Proofs.YtbpfkeeikhhlnaaGreatDoor
open Go.RowKit
set_option maxRecDepth 100000

set_option maxHeartbeats 8000000 in
theorem refIs_k3 (w : World) (m : Mg) (c : Mc) (hm : MgAt w m c) (hok : ∀ x ∈ c.vs, (∀ y ∈ x.2.p, 0 ≤ y.s ∧ y.rq.ok) ∧ ∀ y ∈ x.2.q, 0 ≤ y.s ∧ y.rq.ok) (hl : m.vs.n ≤ 4 ∧ m.sm.n ≤ 8 ∧ m.dt.n ≤ 64 ∧ m.vt.ms.n ≤ 40 ∧ m.vt.p.n ≤ 40 ∧ m.vt.q.n ≤ 40) (hk : m.k = 3) (hv : fitVsB c.vs m.vw = true) (hs : sameM m c (m.bare (partsOf m.k)) (c.bare (partsOf m.k)) = true) : Calls Tryz.prog 11 #[.agg m.cells.toArray] w fun e w' => e = .returned (.bool (isM m c)) ∧ Below w.heap.size w w' := by
  obtain ⟨W, hW, hbx, hbl, q22, q23, q24, q19, q20, q21, q0, d0, d1, d2, d3, d4, d5, hws, hmW, HC1, HC2, HC3, hld, hk0⟩ := rk_pre w m c hm hok hl
  obtain ⟨l0, l1, l2, l3, l4, l5⟩ := hl
  have HLD := Lib.hid hld
  have HK0 := Lib.hid hk0
  have HBX := Lib.hid hbx
  have HW := Lib.hid hW
  have HB := Lib.hid hbl
  have HWS := Lib.hid hws
  have HM := Lib.hid hmW
  obtain ⟨r, hr⟩ : ∃ r, r = isM m c := ⟨_, rfl⟩
  rw [← hr]
  rw [isM_k3 hk hs] at hr
  have HRK := Lib.hid hr
  clear hr
  have HQ_k0 := Lib.hid (hq (show W.cell? ⟨w.heap.size, 0, none⟩ = some (.int .u8 m.k) from cell_box hbx 0))
  have HQ_f := Lib.hid (hq (show W.cell? ⟨w.heap.size, 1, none⟩ = some (.int .u8 m.f) from cell_box hbx 1))
  have HQ_t := Lib.hid (hq (show W.cell? ⟨w.heap.size, 2, none⟩ = some (.int .u8 m.t) from cell_box hbx 2))
  have HQ_e := Lib.hid (hq (show W.cell? ⟨w.heap.size, 3, none⟩ = some (.int .u8 m.e) from cell_box hbx 3))
  have HQ_sq := Lib.hid (hq (show W.cell? ⟨w.heap.size, 5, none⟩ = some (.int .u32 m.sq) from cell_box hbx 5))
  have HQ_vw := Lib.hid (hq (show W.cell? ⟨w.heap.size, 4, none⟩ = some (.int .u32 m.vw) from cell_box hbx 4))
  have HQ_rc := Lib.hid (hq (show W.cell? ⟨w.heap.size, 6, none⟩ = some (.int .u8 m.rq.c) from cell_box hbx 6))
  have HQ_rt := Lib.hid (hq (show W.cell? ⟨w.heap.size, 7, none⟩ = some (.int .u32 m.rq.t) from cell_box hbx 7))
  have HQ_rk := Lib.hid (hq (show W.cell? ⟨w.heap.size, 8, none⟩ = some (.int .u8 m.rq.k) from cell_box hbx 8))
  have HQ_ry := Lib.hid (hq (show W.cell? ⟨w.heap.size, 9, none⟩ = some (.int .u8 m.rq.y) from cell_box hbx 9))
  have HQ_rv := Lib.hid (hq (show W.cell? ⟨w.heap.size, 10, none⟩ = some (.int .u16 m.rq.v) from cell_box hbx 10))
  have HKH := Lib.hid hk
  have HVH := Lib.hid hv
  have HSH := Lib.hid hs
  generalize hkm : m.k = kk at *
  have HKM := Lib.hid hkm
  clear hkm
  generalize hsb : sameM m c (m.bare (partsOf kk)) (c.bare (partsOf kk)) = sb at *
  have HSB := Lib.hid hsb
  generalize hvb : fitVsB c.vs m.vw = vb at *
  have HVB := Lib.hid hvb
  clear hk hv hs hsb hvb hW hbx hbl hws hmW hld hk0 hm hok l0 l1 l2 l3 l4 l5
  generalize (m.bare (partsOf kk)).cells.toArray = BA at *
  generalize m.cells.toArray = A at *
  generalize m.vs.n = n0 at *
  generalize m.sm.n = n1 at *
  generalize m.dt.n = n2 at *
  generalize m.vt.ms.n = n3 at *
  generalize m.vt.p.n = n4 at *
  generalize m.vt.q.n = n5 at *
  go_enter Tryz.func11, Tryz.ntmps11
  go_upto_region 1 with fail
  rw [← HW.out]
  go_upto_region 3 with fail
  have hkk : kk = 3 := HKH.out
  subst hkk
  have e1 : ¬ (3 : Int) < 1 := by omega
  have e2 : ¬ (14 : Int) < 3 := by omega
  have C1 := Lib.hid (fun wx h => by have q := HC1.out wx h; rwa [show vb = true from HVH.out] at q)
  have C3 := Lib.hid (fun wx h => by have q := HC3.out wx h; rwa [show sb = true from HSH.out] at q)
  refine wp_region_held_drew (S := fun wx => Below W.heap.size W wx) (by kernel_rfl) (((Below.refl W.heap.size W).drew)) (fun hS => ?_)
  refine tg 0 (.pointer (some ⟨w.heap.size, 0, none⟩)) rfl hS ?_
  refine tk 1 (.int .u8 3) rfl (yi_load 5 (.tmp 43) (.pointer (some ⟨w.heap.size, 0, none⟩)) rfl rfl rfl (fun wq hw => by have q := HK0.out wq hw; go_simp)) hS ?_
  refine tg 2 (.bool false) rfl hS ?_
  refine tm 3 (.bool false) rfl hS ?_
  refine tg 4 (.pointer (some ⟨w.heap.size, 0, none⟩)) rfl hS ?_
  refine tk 5 (.int .u8 3) rfl (yi_load 5 (.tmp 47) (.pointer (some ⟨w.heap.size, 0, none⟩)) rfl rfl rfl (fun wq hw => by have q := HK0.out wq hw; go_simp)) hS ?_
  refine tg 6 (.bool false) rfl hS ?_
  refine tm 7 (.bool false) rfl hS ?_
  refine tm 8 (.bool false) rfl hS ?_
  refine tk 9 (.agg A) rfl (yi_load 37 (.tmp 1) (.pointer (some ⟨w.heap.size, 0, none⟩)) rfl rfl rfl (fun wq hw => HLD.out wq hw)) hS ?_
  refine rdy1 10 rfl (fun K hK => ?_)
  rw [if_pos (by rfl)]
  go_simp
  refine Calls.mono (C1.out _ hS) ?_
  rintro e w4 ⟨rfl, b4⟩
  have h4 : Below W.heap.size W w4 := hS.trans (b4.mono hS.size)
  refine hK.out _ _ (h4) (fun hS => ?_)
  clear hK K
  refine tm 11 (.bool false) rfl hS ?_
  refine tm 12 (.bool false) rfl hS ?_
  refine tm 13 (.bool false) rfl hS ?_
  refine tk 14 (.agg A) rfl (yi_load 37 (.tmp 1) (.pointer (some ⟨w.heap.size, 0, none⟩)) rfl rfl rfl (fun wq hw => HLD.out wq hw)) hS ?_
  refine tk 15 (.agg A) rfl (yi_load 37 (.tmp 1) (.pointer (some ⟨w.heap.size, 0, none⟩)) rfl rfl rfl (fun wq hw => HLD.out wq hw)) hS ?_
  refine rdy1 16 rfl (fun K hK => ?_)
  rw [if_pos (by rfl)]
  go_simp
  refine Calls.mono (HC2.out _) ?_
  rintro e w5 ⟨rfl, b5⟩
  have h5 : Below W.heap.size W w5 := hS.trans (b5.mono hS.size)
  refine hK.out _ _ (h5) (fun hS => ?_)
  clear hK K
  refine rdy1 17 rfl (fun K hK => ?_)
  rw [if_pos (by rfl)]
  go_simp
  refine Calls.mono (C3.out _ hS) ?_
  rintro e w6 ⟨rfl, b6⟩
  have h6 : Below W.heap.size W w6 := hS.trans (b6.mono hS.size)
  refine hK.out _ _ (h6) (fun hS => ?_)
  clear hK K
  refine tm 18 (.bool false) rfl hS ?_
  refine tm 19 (.bool false) rfl hS ?_
  refine wpAnyH_done (by kernel_rfl) ?_ _
  clear q0 q22 q23 q24 q19 q20 q21
  have qk0 := (HQ_k0.out w6 hS)
  have qf := (HQ_f.out w6 hS)
  have qt := (HQ_t.out w6 hS)
  have qe := (HQ_e.out w6 hS)
  have qsq := (HQ_sq.out w6 hS)
  have qvw := (HQ_vw.out w6 hS)
  have qrc := (HQ_rc.out w6 hS)
  have qrt := (HQ_rt.out w6 hS)
  have qrk := (HQ_rk.out w6 hS)
  have qry := (HQ_ry.out w6 hS)
  have qrv := (HQ_rv.out w6 hS)
  go_upto_region 5 with fail
  obtain ⟨fr, hfr⟩ : ∃ fr, fr = (isRp m.f && isEp m.e) := ⟨_, rfl⟩
  rw [← hfr] at HRK
  have HFR := Lib.hid hfr
  clear hfr
  go_cut [3] from 63 to 75 (fun s3 wx => s3 = .bool fr ∧ wx = w6)
  case first =>
    by_cases x1 : m.f < 4
    · by_cases x2 : 1 ≤ m.e
      · by_cases x3 : m.e ≤ 200
        · go_wp2_with fail
          go_meet
          exact ⟨by rw [HFR.out]; first | (simp [isRp, isEp]; done) | (simp [isRp, isEp]; omega), rfl⟩
        · go_wp2_with fail
          go_meet
          exact ⟨by rw [HFR.out]; first | (simp [isRp, isEp]; done) | (simp [isRp, isEp]; omega), rfl⟩
      · go_wp2_with fail
        go_meet
        exact ⟨by rw [HFR.out]; first | (simp [isRp, isEp]; done) | (simp [isRp, isEp]; omega), rfl⟩
    · go_wp2_with fail
      go_meet
      exact ⟨by rw [HFR.out]; first | (simp [isRp, isEp]; done) | (simp [isRp, isEp]; omega), rfl⟩
  case rest =>
    obtain ⟨rfl, hwc⟩ := hcut
    obtain rfl := hwc.symm
    clear HFR
    cases fr with
    | false =>
      go_wp2_with fail
      exact bodyPost_ret (v := .bool false) (by simp [results, Tryz.results11, go_sem]) rfl ⟨by rw [HRK.out]; first | (simp; done) | (simp; omega), ht HB hS HWS⟩
    | true =>
      by_cases c1 : m.t < 4
      · have C1 := Lib.hid c1
        by_cases c2 : m.vw ≤ 1048576
        · have C2 := Lib.hid c2
          by_cases c3 : 1 ≤ m.sq
          · have C3 := Lib.hid c3
            by_cases c4 : m.sq ≤ 1073741824
            · have C4 := Lib.hid c4
              have RQ := Lib.hid (refIsReq_any m.rq w6)
              simp only [Rq.cells] at RQ
              go_wp2_with fail
              refine RQ.out.mono ?_
              rintro e w12 ⟨rfl, b7⟩
              have hw12 := hS.trans (b7.mono hS.size)
              clear RQ b7
              clear qk0 qf qt qe qsq qvw qrc qrt qrk qry qrv
              have qk0 := (HQ_k0.out w12 hw12)
              have qf := (HQ_f.out w12 hw12)
              have qt := (HQ_t.out w12 hw12)
              have qe := (HQ_e.out w12 hw12)
              have qsq := (HQ_sq.out w12 hw12)
              have qvw := (HQ_vw.out w12 hw12)
              have qrc := (HQ_rc.out w12 hw12)
              have qrt := (HQ_rt.out w12 hw12)
              have qrk := (HQ_rk.out w12 hw12)
              have qry := (HQ_ry.out w12 hw12)
              have qrv := (HQ_rv.out w12 hw12)
              generalize m.rq.is = bb5 at *
              cases bb5 with
              | false =>
                go_wp2_with fail
                exact bodyPost_ret (v := .bool false) (by simp [results, Tryz.results11, go_sem]) rfl ⟨by have t1 := C1.out; have t2 := C2.out; have t3 := C3.out; have t4 := C4.out; rw [HRK.out]; first | (simp; done) | (simp; omega), ht HB hw12 HWS⟩
              | true =>
                go_wp2_with fail
                exact bodyPost_ret (v := .bool true) (by simp [results, Tryz.results11, go_sem]) rfl ⟨by have t1 := C1.out; have t2 := C2.out; have t3 := C3.out; have t4 := C4.out; rw [HRK.out]; first | (simp; done) | (simp; omega), ht HB hw12 HWS⟩
            · have C4 := Lib.hid c4
              go_wp2_with fail
              exact bodyPost_ret (v := .bool false) (by simp [results, Tryz.results11, go_sem]) rfl ⟨by have t1 := C1.out; have t2 := C2.out; have t3 := C3.out; have t4 := C4.out; rw [HRK.out]; first | (simp; done) | (simp; omega), ht HB hS HWS⟩
          · have C3 := Lib.hid c3
            go_wp2_with fail
            exact bodyPost_ret (v := .bool false) (by simp [results, Tryz.results11, go_sem]) rfl ⟨by have t1 := C1.out; have t2 := C2.out; have t3 := C3.out; rw [HRK.out]; first | (simp; done) | (simp; omega), ht HB hS HWS⟩
        · have C2 := Lib.hid c2
          go_wp2_with fail
          exact bodyPost_ret (v := .bool false) (by simp [results, Tryz.results11, go_sem]) rfl ⟨by have t1 := C1.out; have t2 := C2.out; rw [HRK.out]; first | (simp; done) | (simp; omega), ht HB hS HWS⟩
      · have C1 := Lib.hid c1
        go_wp2_with fail
        exact bodyPost_ret (v := .bool false) (by simp [results, Tryz.results11, go_sem]) rfl ⟨by have t1 := C1.out; rw [HRK.out]; first | (simp; done) | (simp; omega), ht HB hS HWS⟩

set_option maxHeartbeats 8000000 in
theorem refIs_k4 (w : World) (m : Mg) (c : Mc) (hm : MgAt w m c) (hok : ∀ x ∈ c.vs, (∀ y ∈ x.2.p, 0 ≤ y.s ∧ y.rq.ok) ∧ ∀ y ∈ x.2.q, 0 ≤ y.s ∧ y.rq.ok) (hl : m.vs.n ≤ 4 ∧ m.sm.n ≤ 8 ∧ m.dt.n ≤ 64 ∧ m.vt.ms.n ≤ 40 ∧ m.vt.p.n ≤ 40 ∧ m.vt.q.n ≤ 40) (hk : m.k = 4) (hv : fitVsB c.vs m.vw = true) (hs : sameM m c (m.bare (partsOf m.k)) (c.bare (partsOf m.k)) = true) : Calls Tryz.prog 11 #[.agg m.cells.toArray] w fun e w' => e = .returned (.bool (isM m c)) ∧ Below w.heap.size w w' := by
  obtain ⟨W, hW, hbx, hbl, q22, q23, q24, q19, q20, q21, q0, d0, d1, d2, d3, d4, d5, hws, hmW, HC1, HC2, HC3, hld, hk0⟩ := rk_pre w m c hm hok hl
  obtain ⟨l0, l1, l2, l3, l4, l5⟩ := hl
  have HLD := Lib.hid hld
  have HK0 := Lib.hid hk0
  have HBX := Lib.hid hbx
  have HW := Lib.hid hW
  have HB := Lib.hid hbl
  have HWS := Lib.hid hws
  have HM := Lib.hid hmW
  obtain ⟨r, hr⟩ : ∃ r, r = isM m c := ⟨_, rfl⟩
  rw [← hr]
  rw [isM_k4 hk hs] at hr
  have HRK := Lib.hid hr
  clear hr
  have HQ_k0 := Lib.hid (hq (show W.cell? ⟨w.heap.size, 0, none⟩ = some (.int .u8 m.k) from cell_box hbx 0))
  have HQ_f := Lib.hid (hq (show W.cell? ⟨w.heap.size, 1, none⟩ = some (.int .u8 m.f) from cell_box hbx 1))
  have HQ_t := Lib.hid (hq (show W.cell? ⟨w.heap.size, 2, none⟩ = some (.int .u8 m.t) from cell_box hbx 2))
  have HQ_e := Lib.hid (hq (show W.cell? ⟨w.heap.size, 3, none⟩ = some (.int .u8 m.e) from cell_box hbx 3))
  have HQ_sq := Lib.hid (hq (show W.cell? ⟨w.heap.size, 5, none⟩ = some (.int .u32 m.sq) from cell_box hbx 5))
  have HQ_vw := Lib.hid (hq (show W.cell? ⟨w.heap.size, 4, none⟩ = some (.int .u32 m.vw) from cell_box hbx 4))
  have HQ_rc := Lib.hid (hq (show W.cell? ⟨w.heap.size, 6, none⟩ = some (.int .u8 m.rq.c) from cell_box hbx 6))
  have HQ_rt := Lib.hid (hq (show W.cell? ⟨w.heap.size, 7, none⟩ = some (.int .u32 m.rq.t) from cell_box hbx 7))
  have HQ_rk := Lib.hid (hq (show W.cell? ⟨w.heap.size, 8, none⟩ = some (.int .u8 m.rq.k) from cell_box hbx 8))
  have HQ_ry := Lib.hid (hq (show W.cell? ⟨w.heap.size, 9, none⟩ = some (.int .u8 m.rq.y) from cell_box hbx 9))
  have HQ_rv := Lib.hid (hq (show W.cell? ⟨w.heap.size, 10, none⟩ = some (.int .u16 m.rq.v) from cell_box hbx 10))
  have HKH := Lib.hid hk
  have HVH := Lib.hid hv
  have HSH := Lib.hid hs
  generalize hkm : m.k = kk at *
  have HKM := Lib.hid hkm
  clear hkm
  generalize hsb : sameM m c (m.bare (partsOf kk)) (c.bare (partsOf kk)) = sb at *
  have HSB := Lib.hid hsb
  generalize hvb : fitVsB c.vs m.vw = vb at *
  have HVB := Lib.hid hvb
  clear hk hv hs hsb hvb hW hbx hbl hws hmW hld hk0 hm hok l0 l1 l2 l3 l4 l5
  generalize (m.bare (partsOf kk)).cells.toArray = BA at *
  generalize m.cells.toArray = A at *
  generalize m.vs.n = n0 at *
  generalize m.sm.n = n1 at *
  generalize m.dt.n = n2 at *
  generalize m.vt.ms.n = n3 at *
  generalize m.vt.p.n = n4 at *
  generalize m.vt.q.n = n5 at *
  go_enter Tryz.func11, Tryz.ntmps11
  go_upto_region 1 with fail
  rw [← HW.out]
  go_upto_region 3 with fail
  have hkk : kk = 4 := HKH.out
  subst hkk
  have e1 : ¬ (4 : Int) < 1 := by omega
  have e2 : ¬ (14 : Int) < 4 := by omega
  have C1 := Lib.hid (fun wx h => by have q := HC1.out wx h; rwa [show vb = true from HVH.out] at q)
  have C3 := Lib.hid (fun wx h => by have q := HC3.out wx h; rwa [show sb = true from HSH.out] at q)
  refine wp_region_held_drew (S := fun wx => Below W.heap.size W wx) (by kernel_rfl) (((Below.refl W.heap.size W).drew)) (fun hS => ?_)
  refine tg 0 (.pointer (some ⟨w.heap.size, 0, none⟩)) rfl hS ?_
  refine tk 1 (.int .u8 4) rfl (yi_load 5 (.tmp 43) (.pointer (some ⟨w.heap.size, 0, none⟩)) rfl rfl rfl (fun wq hw => by have q := HK0.out wq hw; go_simp)) hS ?_
  refine tg 2 (.bool false) rfl hS ?_
  refine tm 3 (.bool false) rfl hS ?_
  refine tg 4 (.pointer (some ⟨w.heap.size, 0, none⟩)) rfl hS ?_
  refine tk 5 (.int .u8 4) rfl (yi_load 5 (.tmp 47) (.pointer (some ⟨w.heap.size, 0, none⟩)) rfl rfl rfl (fun wq hw => by have q := HK0.out wq hw; go_simp)) hS ?_
  refine tg 6 (.bool false) rfl hS ?_
  refine tm 7 (.bool false) rfl hS ?_
  refine tm 8 (.bool false) rfl hS ?_
  refine tk 9 (.agg A) rfl (yi_load 37 (.tmp 1) (.pointer (some ⟨w.heap.size, 0, none⟩)) rfl rfl rfl (fun wq hw => HLD.out wq hw)) hS ?_
  refine rdy1 10 rfl (fun K hK => ?_)
  rw [if_pos (by rfl)]
  go_simp
  refine Calls.mono (C1.out _ hS) ?_
  rintro e w4 ⟨rfl, b4⟩
  have h4 : Below W.heap.size W w4 := hS.trans (b4.mono hS.size)
  refine hK.out _ _ (h4) (fun hS => ?_)
  clear hK K
  refine tm 11 (.bool false) rfl hS ?_
  refine tm 12 (.bool false) rfl hS ?_
  refine tm 13 (.bool false) rfl hS ?_
  refine tk 14 (.agg A) rfl (yi_load 37 (.tmp 1) (.pointer (some ⟨w.heap.size, 0, none⟩)) rfl rfl rfl (fun wq hw => HLD.out wq hw)) hS ?_
  refine tk 15 (.agg A) rfl (yi_load 37 (.tmp 1) (.pointer (some ⟨w.heap.size, 0, none⟩)) rfl rfl rfl (fun wq hw => HLD.out wq hw)) hS ?_
  refine rdy1 16 rfl (fun K hK => ?_)
  rw [if_pos (by rfl)]
  go_simp
  refine Calls.mono (HC2.out _) ?_
  rintro e w5 ⟨rfl, b5⟩
  have h5 : Below W.heap.size W w5 := hS.trans (b5.mono hS.size)
  refine hK.out _ _ (h5) (fun hS => ?_)
  clear hK K
  refine rdy1 17 rfl (fun K hK => ?_)
  rw [if_pos (by rfl)]
  go_simp
  refine Calls.mono (C3.out _ hS) ?_
  rintro e w6 ⟨rfl, b6⟩
  have h6 : Below W.heap.size W w6 := hS.trans (b6.mono hS.size)
  refine hK.out _ _ (h6) (fun hS => ?_)
  clear hK K
  refine tm 18 (.bool false) rfl hS ?_
  refine tm 19 (.bool false) rfl hS ?_
  refine wpAnyH_done (by kernel_rfl) ?_ _
  clear q0 q22 q23 q24 q19 q20 q21
  have qk0 := (HQ_k0.out w6 hS)
  have qf := (HQ_f.out w6 hS)
  have qt := (HQ_t.out w6 hS)
  have qe := (HQ_e.out w6 hS)
  have qsq := (HQ_sq.out w6 hS)
  have qvw := (HQ_vw.out w6 hS)
  have qrc := (HQ_rc.out w6 hS)
  have qrt := (HQ_rt.out w6 hS)
  have qrk := (HQ_rk.out w6 hS)
  have qry := (HQ_ry.out w6 hS)
  have qrv := (HQ_rv.out w6 hS)
  go_upto_region 5 with fail
  obtain ⟨fr, hfr⟩ : ∃ fr, fr = (isRp m.f && isEp m.e) := ⟨_, rfl⟩
  rw [← hfr] at HRK
  have HFR := Lib.hid hfr
  clear hfr
  go_cut [3] from 63 to 75 (fun s3 wx => s3 = .bool fr ∧ wx = w6)
  case first =>
    by_cases x1 : m.f < 4
    · by_cases x2 : 1 ≤ m.e
      · by_cases x3 : m.e ≤ 200
        · go_wp2_with fail
          go_meet
          exact ⟨by rw [HFR.out]; first | (simp [isRp, isEp]; done) | (simp [isRp, isEp]; omega), rfl⟩
        · go_wp2_with fail
          go_meet
          exact ⟨by rw [HFR.out]; first | (simp [isRp, isEp]; done) | (simp [isRp, isEp]; omega), rfl⟩
      · go_wp2_with fail
        go_meet
        exact ⟨by rw [HFR.out]; first | (simp [isRp, isEp]; done) | (simp [isRp, isEp]; omega), rfl⟩
    · go_wp2_with fail
      go_meet
      exact ⟨by rw [HFR.out]; first | (simp [isRp, isEp]; done) | (simp [isRp, isEp]; omega), rfl⟩
  case rest =>
    obtain ⟨rfl, hwc⟩ := hcut
    obtain rfl := hwc.symm
    clear HFR
    cases fr with
    | false =>
      go_wp2_with fail
      exact bodyPost_ret (v := .bool false) (by simp [results, Tryz.results11, go_sem]) rfl ⟨by rw [HRK.out]; first | (simp; done) | (simp; omega), ht HB hS HWS⟩
    | true =>
      by_cases c1 : m.t < 4
      · have C1 := Lib.hid c1
        by_cases c2 : m.vw ≤ 1048576
        · have C2 := Lib.hid c2
          by_cases c3 : 1 ≤ m.sq
          · have C3 := Lib.hid c3
            by_cases c4 : m.sq ≤ 1073741824
            · have C4 := Lib.hid c4
              have RQ := Lib.hid (refIsReq_any m.rq w6)
              simp only [Rq.cells] at RQ
              go_wp2_with fail
              refine RQ.out.mono ?_
              rintro e w12 ⟨rfl, b7⟩
              have hw12 := hS.trans (b7.mono hS.size)
              clear RQ b7
              clear qk0 qf qt qe qsq qvw qrc qrt qrk qry qrv
              have qk0 := (HQ_k0.out w12 hw12)
              have qf := (HQ_f.out w12 hw12)
              have qt := (HQ_t.out w12 hw12)
              have qe := (HQ_e.out w12 hw12)
              have qsq := (HQ_sq.out w12 hw12)
              have qvw := (HQ_vw.out w12 hw12)
              have qrc := (HQ_rc.out w12 hw12)
              have qrt := (HQ_rt.out w12 hw12)
              have qrk := (HQ_rk.out w12 hw12)
              have qry := (HQ_ry.out w12 hw12)
              have qrv := (HQ_rv.out w12 hw12)
              generalize m.rq.is = bb5 at *
              cases bb5 with
              | false =>
                go_wp2_with fail
                exact bodyPost_ret (v := .bool false) (by simp [results, Tryz.results11, go_sem]) rfl ⟨by have t1 := C1.out; have t2 := C2.out; have t3 := C3.out; have t4 := C4.out; rw [HRK.out]; first | (simp; done) | (simp; omega), ht HB hw12 HWS⟩
              | true =>
                go_wp2_with fail
                exact bodyPost_ret (v := .bool true) (by simp [results, Tryz.results11, go_sem]) rfl ⟨by have t1 := C1.out; have t2 := C2.out; have t3 := C3.out; have t4 := C4.out; rw [HRK.out]; first | (simp; done) | (simp; omega), ht HB hw12 HWS⟩
            · have C4 := Lib.hid c4
              go_wp2_with fail
              exact bodyPost_ret (v := .bool false) (by simp [results, Tryz.results11, go_sem]) rfl ⟨by have t1 := C1.out; have t2 := C2.out; have t3 := C3.out; have t4 := C4.out; rw [HRK.out]; first | (simp; done) | (simp; omega), ht HB hS HWS⟩
          · have C3 := Lib.hid c3
            go_wp2_with fail
            exact bodyPost_ret (v := .bool false) (by simp [results, Tryz.results11, go_sem]) rfl ⟨by have t1 := C1.out; have t2 := C2.out; have t3 := C3.out; rw [HRK.out]; first | (simp; done) | (simp; omega), ht HB hS HWS⟩
        · have C2 := Lib.hid c2
          go_wp2_with fail
          exact bodyPost_ret (v := .bool false) (by simp [results, Tryz.results11, go_sem]) rfl ⟨by have t1 := C1.out; have t2 := C2.out; rw [HRK.out]; first | (simp; done) | (simp; omega), ht HB hS HWS⟩
      · have C1 := Lib.hid c1
        go_wp2_with fail
        exact bodyPost_ret (v := .bool false) (by simp [results, Tryz.results11, go_sem]) rfl ⟨by have t1 := C1.out; rw [HRK.out]; first | (simp; done) | (simp; omega), ht HB hS HWS⟩

set_option maxHeartbeats 8000000 in
theorem refIs_k5 (w : World) (m : Mg) (c : Mc) (hm : MgAt w m c) (hok : ∀ x ∈ c.vs, (∀ y ∈ x.2.p, 0 ≤ y.s ∧ y.rq.ok) ∧ ∀ y ∈ x.2.q, 0 ≤ y.s ∧ y.rq.ok) (hl : m.vs.n ≤ 4 ∧ m.sm.n ≤ 8 ∧ m.dt.n ≤ 64 ∧ m.vt.ms.n ≤ 40 ∧ m.vt.p.n ≤ 40 ∧ m.vt.q.n ≤ 40) (hk : m.k = 5) (hv : fitVsB c.vs m.vw = true) (hs : sameM m c (m.bare (partsOf m.k)) (c.bare (partsOf m.k)) = true) : Calls Tryz.prog 11 #[.agg m.cells.toArray] w fun e w' => e = .returned (.bool (isM m c)) ∧ Below w.heap.size w w' := by
  obtain ⟨W, hW, hbx, hbl, q22, q23, q24, q19, q20, q21, q0, d0, d1, d2, d3, d4, d5, hws, hmW, HC1, HC2, HC3, hld, hk0⟩ := rk_pre w m c hm hok hl
  obtain ⟨l0, l1, l2, l3, l4, l5⟩ := hl
  have HLD := Lib.hid hld
  have HK0 := Lib.hid hk0
  have HBX := Lib.hid hbx
  have HW := Lib.hid hW
  have HB := Lib.hid hbl
  have HWS := Lib.hid hws
  have HM := Lib.hid hmW
  obtain ⟨r, hr⟩ : ∃ r, r = isM m c := ⟨_, rfl⟩
  rw [← hr]
  rw [isM_k5 hk hs] at hr
  have HRK := Lib.hid hr
  clear hr
  have HQ_k0 := Lib.hid (hq (show W.cell? ⟨w.heap.size, 0, none⟩ = some (.int .u8 m.k) from cell_box hbx 0))
  have HQ_f := Lib.hid (hq (show W.cell? ⟨w.heap.size, 1, none⟩ = some (.int .u8 m.f) from cell_box hbx 1))
  have HQ_t := Lib.hid (hq (show W.cell? ⟨w.heap.size, 2, none⟩ = some (.int .u8 m.t) from cell_box hbx 2))
  have HQ_e := Lib.hid (hq (show W.cell? ⟨w.heap.size, 3, none⟩ = some (.int .u8 m.e) from cell_box hbx 3))
  have HQ_sq := Lib.hid (hq (show W.cell? ⟨w.heap.size, 5, none⟩ = some (.int .u32 m.sq) from cell_box hbx 5))
  have HKH := Lib.hid hk
  have HVH := Lib.hid hv
  have HSH := Lib.hid hs
  generalize hkm : m.k = kk at *
  have HKM := Lib.hid hkm
  clear hkm
  generalize hsb : sameM m c (m.bare (partsOf kk)) (c.bare (partsOf kk)) = sb at *
  have HSB := Lib.hid hsb
  generalize hvb : fitVsB c.vs m.vw = vb at *
  have HVB := Lib.hid hvb
  clear hk hv hs hsb hvb hW hbx hbl hws hmW hld hk0 hm hok l0 l1 l2 l3 l4 l5
  generalize (m.bare (partsOf kk)).cells.toArray = BA at *
  generalize m.cells.toArray = A at *
  generalize m.vs.n = n0 at *
  generalize m.sm.n = n1 at *
  generalize m.dt.n = n2 at *
  generalize m.vt.ms.n = n3 at *
  generalize m.vt.p.n = n4 at *
  generalize m.vt.q.n = n5 at *
  go_enter Tryz.func11, Tryz.ntmps11
  go_upto_region 1 with fail
  rw [← HW.out]
  go_upto_region 3 with fail
  have hkk : kk = 5 := HKH.out
  subst hkk
  have e1 : ¬ (5 : Int) < 1 := by omega
  have e2 : ¬ (14 : Int) < 5 := by omega
  have C1 := Lib.hid (fun wx h => by have q := HC1.out wx h; rwa [show vb = true from HVH.out] at q)
  have C3 := Lib.hid (fun wx h => by have q := HC3.out wx h; rwa [show sb = true from HSH.out] at q)
  refine wp_region_held_drew (S := fun wx => Below W.heap.size W wx) (by kernel_rfl) (((Below.refl W.heap.size W).drew)) (fun hS => ?_)
  refine tg 0 (.pointer (some ⟨w.heap.size, 0, none⟩)) rfl hS ?_
  refine tk 1 (.int .u8 5) rfl (yi_load 5 (.tmp 43) (.pointer (some ⟨w.heap.size, 0, none⟩)) rfl rfl rfl (fun wq hw => by have q := HK0.out wq hw; go_simp)) hS ?_
  refine tg 2 (.bool false) rfl hS ?_
  refine tm 3 (.bool false) rfl hS ?_
  refine tg 4 (.pointer (some ⟨w.heap.size, 0, none⟩)) rfl hS ?_
  refine tk 5 (.int .u8 5) rfl (yi_load 5 (.tmp 47) (.pointer (some ⟨w.heap.size, 0, none⟩)) rfl rfl rfl (fun wq hw => by have q := HK0.out wq hw; go_simp)) hS ?_
  refine tg 6 (.bool false) rfl hS ?_
  refine tm 7 (.bool false) rfl hS ?_
  refine tm 8 (.bool false) rfl hS ?_
  refine tk 9 (.agg A) rfl (yi_load 37 (.tmp 1) (.pointer (some ⟨w.heap.size, 0, none⟩)) rfl rfl rfl (fun wq hw => HLD.out wq hw)) hS ?_
  refine rdy1 10 rfl (fun K hK => ?_)
  rw [if_pos (by rfl)]
  go_simp
  refine Calls.mono (C1.out _ hS) ?_
  rintro e w4 ⟨rfl, b4⟩
  have h4 : Below W.heap.size W w4 := hS.trans (b4.mono hS.size)
  refine hK.out _ _ (h4) (fun hS => ?_)
  clear hK K
  refine tm 11 (.bool false) rfl hS ?_
  refine tm 12 (.bool false) rfl hS ?_
  refine tm 13 (.bool false) rfl hS ?_
  refine tk 14 (.agg A) rfl (yi_load 37 (.tmp 1) (.pointer (some ⟨w.heap.size, 0, none⟩)) rfl rfl rfl (fun wq hw => HLD.out wq hw)) hS ?_
  refine tk 15 (.agg A) rfl (yi_load 37 (.tmp 1) (.pointer (some ⟨w.heap.size, 0, none⟩)) rfl rfl rfl (fun wq hw => HLD.out wq hw)) hS ?_
  refine rdy1 16 rfl (fun K hK => ?_)
  rw [if_pos (by rfl)]
  go_simp
  refine Calls.mono (HC2.out _) ?_
  rintro e w5 ⟨rfl, b5⟩
  have h5 : Below W.heap.size W w5 := hS.trans (b5.mono hS.size)
  refine hK.out _ _ (h5) (fun hS => ?_)
  clear hK K
  refine rdy1 17 rfl (fun K hK => ?_)
  rw [if_pos (by rfl)]
  go_simp
  refine Calls.mono (C3.out _ hS) ?_
  rintro e w6 ⟨rfl, b6⟩
  have h6 : Below W.heap.size W w6 := hS.trans (b6.mono hS.size)
  refine hK.out _ _ (h6) (fun hS => ?_)
  clear hK K
  refine tm 18 (.bool false) rfl hS ?_
  refine tm 19 (.bool false) rfl hS ?_
  refine wpAnyH_done (by kernel_rfl) ?_ _
  clear q0 q22 q23 q24 q19 q20 q21
  have qk0 := (HQ_k0.out w6 hS)
  have qf := (HQ_f.out w6 hS)
  have qt := (HQ_t.out w6 hS)
  have qe := (HQ_e.out w6 hS)
  have qsq := (HQ_sq.out w6 hS)
  go_upto_region 5 with fail
  obtain ⟨fr, hfr⟩ : ∃ fr, fr = (isRp m.f && isEp m.e) := ⟨_, rfl⟩
  rw [← hfr] at HRK
  have HFR := Lib.hid hfr
  clear hfr
  go_cut [3] from 63 to 75 (fun s3 wx => s3 = .bool fr ∧ wx = w6)
  case first =>
    by_cases x1 : m.f < 4
    · by_cases x2 : 1 ≤ m.e
      · by_cases x3 : m.e ≤ 200
        · go_wp2_with fail
          go_meet
          exact ⟨by rw [HFR.out]; first | (simp [isRp, isEp]; done) | (simp [isRp, isEp]; omega), rfl⟩
        · go_wp2_with fail
          go_meet
          exact ⟨by rw [HFR.out]; first | (simp [isRp, isEp]; done) | (simp [isRp, isEp]; omega), rfl⟩
      · go_wp2_with fail
        go_meet
        exact ⟨by rw [HFR.out]; first | (simp [isRp, isEp]; done) | (simp [isRp, isEp]; omega), rfl⟩
    · go_wp2_with fail
      go_meet
      exact ⟨by rw [HFR.out]; first | (simp [isRp, isEp]; done) | (simp [isRp, isEp]; omega), rfl⟩
  case rest =>
    obtain ⟨rfl, hwc⟩ := hcut
    obtain rfl := hwc.symm
    clear HFR
    cases fr with
    | false =>
      go_wp2_with fail
      exact bodyPost_ret (v := .bool false) (by simp [results, Tryz.results11, go_sem]) rfl ⟨by rw [HRK.out]; first | (simp; done) | (simp; omega), ht HB hS HWS⟩
    | true =>
      by_cases c1 : m.t < 4
      · have C1 := Lib.hid c1
        by_cases c2 : m.sq ≤ 1073741824
        · have C2 := Lib.hid c2
          go_wp2_with fail
          exact bodyPost_ret (v := .bool true) (by simp [results, Tryz.results11, go_sem]) rfl ⟨by have t1 := C1.out; have t2 := C2.out; rw [HRK.out]; first | (simp; done) | (simp; omega), ht HB hS HWS⟩
        · have C2 := Lib.hid c2
          go_wp2_with fail
          exact bodyPost_ret (v := .bool false) (by have t := C2.out; simp [results, Tryz.results11, go_sem] <;> omega) rfl ⟨by have t1 := C1.out; have t2 := C2.out; rw [HRK.out]; first | (simp; done) | (simp; omega), ht HB hS HWS⟩
      · have C1 := Lib.hid c1
        go_wp2_with fail
        exact bodyPost_ret (v := .bool false) (by simp [results, Tryz.results11, go_sem]) rfl ⟨by have t1 := C1.out; rw [HRK.out]; first | (simp; done) | (simp; omega), ht HB hS HWS⟩

set_option maxHeartbeats 8000000 in
theorem refIs_k6 (w : World) (m : Mg) (c : Mc) (hm : MgAt w m c) (hok : ∀ x ∈ c.vs, (∀ y ∈ x.2.p, 0 ≤ y.s ∧ y.rq.ok) ∧ ∀ y ∈ x.2.q, 0 ≤ y.s ∧ y.rq.ok) (hl : m.vs.n ≤ 4 ∧ m.sm.n ≤ 8 ∧ m.dt.n ≤ 64 ∧ m.vt.ms.n ≤ 40 ∧ m.vt.p.n ≤ 40 ∧ m.vt.q.n ≤ 40) (hk : m.k = 6) (hvo : (∀ y ∈ c.vt.p, 0 ≤ y.s ∧ y.rq.ok) ∧ ∀ y ∈ c.vt.q, 0 ≤ y.s ∧ y.rq.ok) (hv : fitVsB c.vs m.vw = true) (hs : sameM m c (m.bare (partsOf m.k)) (c.bare (partsOf m.k)) = true) : Calls Tryz.prog 11 #[.agg m.cells.toArray] w fun e w' => e = .returned (.bool (isM m c)) ∧ Below w.heap.size w w' := by
  obtain ⟨W, hW, hbx, hbl, q22, q23, q24, q19, q20, q21, q0, d0, d1, d2, d3, d4, d5, hws, hmW, HC1, HC2, HC3, hld, hk0⟩ := rk_pre w m c hm hok hl
  obtain ⟨l0, l1, l2, l3, l4, l5⟩ := hl
  have HLD := Lib.hid hld
  have HK0 := Lib.hid hk0
  have HBX := Lib.hid hbx
  have HW := Lib.hid hW
  have HB := Lib.hid hbl
  have HWS := Lib.hid hws
  have HM := Lib.hid hmW
  obtain ⟨r, hr⟩ : ∃ r, r = isM m c := ⟨_, rfl⟩
  rw [← hr]
  rw [isM_k6 hk hs] at hr
  have HRK := Lib.hid hr
  clear hr
  have HQ_k0 := Lib.hid (hq (show W.cell? ⟨w.heap.size, 0, none⟩ = some (.int .u8 m.k) from cell_box hbx 0))
  have HQ_f := Lib.hid (hq (show W.cell? ⟨w.heap.size, 1, none⟩ = some (.int .u8 m.f) from cell_box hbx 1))
  have HQ_t := Lib.hid (hq (show W.cell? ⟨w.heap.size, 2, none⟩ = some (.int .u8 m.t) from cell_box hbx 2))
  have HQ_e := Lib.hid (hq (show W.cell? ⟨w.heap.size, 3, none⟩ = some (.int .u8 m.e) from cell_box hbx 3))
  have HQ_sq := Lib.hid (hq (show W.cell? ⟨w.heap.size, 5, none⟩ = some (.int .u32 m.sq) from cell_box hbx 5))
  have HQ_vf := Lib.hid (hq (show W.cell? ⟨w.heap.size, 15, none⟩ = some (.int .u8 m.vt.f) from cell_box hbx 15))
  have HQ_ve := Lib.hid (hq (show W.cell? ⟨w.heap.size, 16, none⟩ = some (.int .u8 m.vt.e) from cell_box hbx 16))
  have HQ_vv := Lib.hid (hq (show W.cell? ⟨w.heap.size, 17, none⟩ = some (.int .u32 m.vt.vw) from cell_box hbx 17))
  have HQ_vl := Lib.hid (hq (show W.cell? ⟨w.heap.size, 18, none⟩ = some (.int .u32 m.vt.lo) from cell_box hbx 18))
  have HQ_v4 := Lib.hid (hq (show W.cell? ⟨w.heap.size, 19, none⟩ = some (.slice m.vt.ms.a m.vt.ms.n m.vt.ms.c) from cell_box hbx 19))
  have HQ_v5 := Lib.hid (hq (show W.cell? ⟨w.heap.size, 20, none⟩ = some (.slice m.vt.p.a m.vt.p.n m.vt.p.c) from cell_box hbx 20))
  have HQ_v6 := Lib.hid (hq (show W.cell? ⟨w.heap.size, 21, none⟩ = some (.slice m.vt.q.a m.vt.q.n m.vt.q.c) from cell_box hbx 21))
  have HCV := Lib.hid (fun wx (h : Below W.heap.size W wx) => refIsVote_any wx m.vt c.vt ((hmW.below h).vt) hvo)
  simp only [Vt.cells] at HCV
  generalize hvtb : voteB m.vt c.vt = vtb at *
  have HKH := Lib.hid hk
  have HVH := Lib.hid hv
  have HSH := Lib.hid hs
  generalize hkm : m.k = kk at *
  have HKM := Lib.hid hkm
  clear hkm
  generalize hsb : sameM m c (m.bare (partsOf kk)) (c.bare (partsOf kk)) = sb at *
  have HSB := Lib.hid hsb
  generalize hvb : fitVsB c.vs m.vw = vb at *
  have HVB := Lib.hid hvb
  clear hk hv hs hvo hvtb hsb hvb hW hbx hbl hws hmW hld hk0 hm hok l0 l1 l2 l3 l4 l5
  generalize (m.bare (partsOf kk)).cells.toArray = BA at *
  generalize m.cells.toArray = A at *
  generalize m.vs.n = n0 at *
  generalize m.sm.n = n1 at *
  generalize m.dt.n = n2 at *
  generalize m.vt.ms.n = n3 at *
  generalize m.vt.p.n = n4 at *
  generalize m.vt.q.n = n5 at *
  go_enter Tryz.func11, Tryz.ntmps11
  go_upto_region 1 with fail
  rw [← HW.out]
  go_upto_region 3 with fail
  have hkk : kk = 6 := HKH.out
  subst hkk
  have e1 : ¬ (6 : Int) < 1 := by omega
  have e2 : ¬ (14 : Int) < 6 := by omega
  have C1 := Lib.hid (fun wx h => by have q := HC1.out wx h; rwa [show vb = true from HVH.out] at q)
  have C3 := Lib.hid (fun wx h => by have q := HC3.out wx h; rwa [show sb = true from HSH.out] at q)
  refine wp_region_held_drew (S := fun wx => Below W.heap.size W wx) (by kernel_rfl) (((Below.refl W.heap.size W).drew)) (fun hS => ?_)
  refine tg 0 (.pointer (some ⟨w.heap.size, 0, none⟩)) rfl hS ?_
  refine tk 1 (.int .u8 6) rfl (yi_load 5 (.tmp 43) (.pointer (some ⟨w.heap.size, 0, none⟩)) rfl rfl rfl (fun wq hw => by have q := HK0.out wq hw; go_simp)) hS ?_
  refine tg 2 (.bool false) rfl hS ?_
  refine tm 3 (.bool false) rfl hS ?_
  refine tg 4 (.pointer (some ⟨w.heap.size, 0, none⟩)) rfl hS ?_
  refine tk 5 (.int .u8 6) rfl (yi_load 5 (.tmp 47) (.pointer (some ⟨w.heap.size, 0, none⟩)) rfl rfl rfl (fun wq hw => by have q := HK0.out wq hw; go_simp)) hS ?_
  refine tg 6 (.bool false) rfl hS ?_
  refine tm 7 (.bool false) rfl hS ?_
  refine tm 8 (.bool false) rfl hS ?_
  refine tk 9 (.agg A) rfl (yi_load 37 (.tmp 1) (.pointer (some ⟨w.heap.size, 0, none⟩)) rfl rfl rfl (fun wq hw => HLD.out wq hw)) hS ?_
  refine rdy1 10 rfl (fun K hK => ?_)
  rw [if_pos (by rfl)]
  go_simp
  refine Calls.mono (C1.out _ hS) ?_
  rintro e w4 ⟨rfl, b4⟩
  have h4 : Below W.heap.size W w4 := hS.trans (b4.mono hS.size)
  refine hK.out _ _ (h4) (fun hS => ?_)
  clear hK K
  refine tm 11 (.bool false) rfl hS ?_
  refine tm 12 (.bool false) rfl hS ?_
  refine tm 13 (.bool false) rfl hS ?_
  refine tk 14 (.agg A) rfl (yi_load 37 (.tmp 1) (.pointer (some ⟨w.heap.size, 0, none⟩)) rfl rfl rfl (fun wq hw => HLD.out wq hw)) hS ?_
  refine tk 15 (.agg A) rfl (yi_load 37 (.tmp 1) (.pointer (some ⟨w.heap.size, 0, none⟩)) rfl rfl rfl (fun wq hw => HLD.out wq hw)) hS ?_
  refine rdy1 16 rfl (fun K hK => ?_)
  rw [if_pos (by rfl)]
  go_simp
  refine Calls.mono (HC2.out _) ?_
  rintro e w5 ⟨rfl, b5⟩
  have h5 : Below W.heap.size W w5 := hS.trans (b5.mono hS.size)
  refine hK.out _ _ (h5) (fun hS => ?_)
  clear hK K
  refine rdy1 17 rfl (fun K hK => ?_)
  rw [if_pos (by rfl)]
  go_simp
  refine Calls.mono (C3.out _ hS) ?_
  rintro e w6 ⟨rfl, b6⟩
  have h6 : Below W.heap.size W w6 := hS.trans (b6.mono hS.size)
  refine hK.out _ _ (h6) (fun hS => ?_)
  clear hK K
  refine tm 18 (.bool false) rfl hS ?_
  refine tm 19 (.bool false) rfl hS ?_
  refine wpAnyH_done (by kernel_rfl) ?_ _
  clear q0 q22 q23 q24 q19 q20 q21
  have qk0 := (HQ_k0.out w6 hS)
  have qf := (HQ_f.out w6 hS)
  have qt := (HQ_t.out w6 hS)
  have qe := (HQ_e.out w6 hS)
  have qsq := (HQ_sq.out w6 hS)
  have qvf := (HQ_vf.out w6 hS)
  have qve := (HQ_ve.out w6 hS)
  have qvv := (HQ_vv.out w6 hS)
  have qvl := (HQ_vl.out w6 hS)
  have qv4 := (HQ_v4.out w6 hS)
  have qv5 := (HQ_v5.out w6 hS)
  have qv6 := (HQ_v6.out w6 hS)
  go_upto_region 5 with fail
  obtain ⟨fr, hfr⟩ : ∃ fr, fr = (isRp m.f && isEp m.e) := ⟨_, rfl⟩
  rw [← hfr] at HRK
  have HFR := Lib.hid hfr
  clear hfr
  go_cut [3] from 63 to 75 (fun s3 wx => s3 = .bool fr ∧ wx = w6)
  case first =>
    by_cases x1 : m.f < 4
    · by_cases x2 : 1 ≤ m.e
      · by_cases x3 : m.e ≤ 200
        · go_wp2_with fail
          go_meet
          exact ⟨by rw [HFR.out]; first | (simp [isRp, isEp]; done) | (simp [isRp, isEp]; omega), rfl⟩
        · go_wp2_with fail
          go_meet
          exact ⟨by rw [HFR.out]; first | (simp [isRp, isEp]; done) | (simp [isRp, isEp]; omega), rfl⟩
      · go_wp2_with fail
        go_meet
        exact ⟨by rw [HFR.out]; first | (simp [isRp, isEp]; done) | (simp [isRp, isEp]; omega), rfl⟩
    · go_wp2_with fail
      go_meet
      exact ⟨by rw [HFR.out]; first | (simp [isRp, isEp]; done) | (simp [isRp, isEp]; omega), rfl⟩
  case rest =>
    obtain ⟨rfl, hwc⟩ := hcut
    obtain rfl := hwc.symm
    clear HFR
    cases fr with
    | false =>
      go_wp2_with fail
      exact bodyPost_ret (v := .bool false) (by simp [results, Tryz.results11, go_sem]) rfl ⟨by rw [HRK.out]; first | (simp; done) | (simp; omega), ht HB hS HWS⟩
    | true =>
      by_cases c1 : m.t < 4
      · have C1 := Lib.hid c1
        have RQ := Lib.hid (HCV.out w6 hS)
        go_wp2_with fail
        refine RQ.out.mono ?_
        rintro e w9 ⟨rfl, b7⟩
        have hw9 := hS.trans (b7.mono hS.size)
        clear RQ b7
        clear qk0 qf qt qe qsq qvf qve qvv qvl qv4 qv5 qv6
        have qk0 := (HQ_k0.out w9 hw9)
        have qf := (HQ_f.out w9 hw9)
        have qt := (HQ_t.out w9 hw9)
        have qe := (HQ_e.out w9 hw9)
        have qsq := (HQ_sq.out w9 hw9)
        have qvf := (HQ_vf.out w9 hw9)
        have qve := (HQ_ve.out w9 hw9)
        have qvv := (HQ_vv.out w9 hw9)
        have qvl := (HQ_vl.out w9 hw9)
        have qv4 := (HQ_v4.out w9 hw9)
        have qv5 := (HQ_v5.out w9 hw9)
        have qv6 := (HQ_v6.out w9 hw9)
        generalize vtb = bb2 at *
        cases bb2 with
        | false =>
          go_wp2_with fail
          exact bodyPost_ret (v := .bool false) (by simp [results, Tryz.results11, go_sem]) rfl ⟨by have t1 := C1.out; rw [HRK.out]; first | (simp; done) | (simp; omega), ht HB hw9 HWS⟩
        | true =>
          by_cases c3 : m.vt.f = m.f
          · have C3 := Lib.hid c3
            by_cases c4 : m.vt.e = m.e
            · have C4 := Lib.hid c4
              go_wp2_with fail
              exact bodyPost_ret (v := .bool true) (by simp [results, Tryz.results11, go_sem]) rfl ⟨by have t1 := C1.out; have t3 := C3.out; have t4 := C4.out; rw [HRK.out]; first | (simp; done) | (simp; omega), ht HB hw9 HWS⟩
            · have C4 := Lib.hid c4
              go_wp2_with fail
              exact bodyPost_ret (v := .bool false) (by have t := C4.out; simp [results, Tryz.results11, go_sem] <;> omega) rfl ⟨by have t1 := C1.out; have t3 := C3.out; have t4 := C4.out; rw [HRK.out]; first | (simp; done) | (simp; omega), ht HB hw9 HWS⟩
          · have C3 := Lib.hid c3
            go_wp2_with fail
            exact bodyPost_ret (v := .bool false) (by simp [results, Tryz.results11, go_sem]) rfl ⟨by have t1 := C1.out; have t3 := C3.out; rw [HRK.out]; first | (simp; done) | (simp; omega), ht HB hw9 HWS⟩
      · have C1 := Lib.hid c1
        go_wp2_with fail
        exact bodyPost_ret (v := .bool false) (by simp [results, Tryz.results11, go_sem]) rfl ⟨by have t1 := C1.out; rw [HRK.out]; first | (simp; done) | (simp; omega), ht HB hS HWS⟩

set_option maxHeartbeats 8000000 in
theorem refIs_k7 (w : World) (m : Mg) (c : Mc) (hm : MgAt w m c) (hok : ∀ x ∈ c.vs, (∀ y ∈ x.2.p, 0 ≤ y.s ∧ y.rq.ok) ∧ ∀ y ∈ x.2.q, 0 ≤ y.s ∧ y.rq.ok) (hl : m.vs.n ≤ 4 ∧ m.sm.n ≤ 8 ∧ m.dt.n ≤ 64 ∧ m.vt.ms.n ≤ 40 ∧ m.vt.p.n ≤ 40 ∧ m.vt.q.n ≤ 40) (hk : m.k = 7) (hv : fitVsB c.vs m.vw = true) (hs : sameM m c (m.bare (partsOf m.k)) (c.bare (partsOf m.k)) = true) : Calls Tryz.prog 11 #[.agg m.cells.toArray] w fun e w' => e = .returned (.bool (isM m c)) ∧ Below w.heap.size w w' := by
  obtain ⟨W, hW, hbx, hbl, q22, q23, q24, q19, q20, q21, q0, d0, d1, d2, d3, d4, d5, hws, hmW, HC1, HC2, HC3, hld, hk0⟩ := rk_pre w m c hm hok hl
  obtain ⟨l0, l1, l2, l3, l4, l5⟩ := hl
  have HLD := Lib.hid hld
  have HK0 := Lib.hid hk0
  have HBX := Lib.hid hbx
  have HW := Lib.hid hW
  have HB := Lib.hid hbl
  have HWS := Lib.hid hws
  have HM := Lib.hid hmW
  obtain ⟨r, hr⟩ : ∃ r, r = isM m c := ⟨_, rfl⟩
  rw [← hr]
  rw [isM_k7 hk hv hs] at hr
  have HRK := Lib.hid hr
  clear hr
  have HQ_k0 := Lib.hid (hq (show W.cell? ⟨w.heap.size, 0, none⟩ = some (.int .u8 m.k) from cell_box hbx 0))
  have HQ_f := Lib.hid (hq (show W.cell? ⟨w.heap.size, 1, none⟩ = some (.int .u8 m.f) from cell_box hbx 1))
  have HQ_t := Lib.hid (hq (show W.cell? ⟨w.heap.size, 2, none⟩ = some (.int .u8 m.t) from cell_box hbx 2))
  have HQ_e := Lib.hid (hq (show W.cell? ⟨w.heap.size, 3, none⟩ = some (.int .u8 m.e) from cell_box hbx 3))
  have HQ_sq := Lib.hid (hq (show W.cell? ⟨w.heap.size, 5, none⟩ = some (.int .u32 m.sq) from cell_box hbx 5))
  have HQ_vw := Lib.hid (hq (show W.cell? ⟨w.heap.size, 4, none⟩ = some (.int .u32 m.vw) from cell_box hbx 4))
  have HKH := Lib.hid hk
  have HVH := Lib.hid hv
  have HSH := Lib.hid hs
  generalize hkm : m.k = kk at *
  have HKM := Lib.hid hkm
  clear hkm
  generalize hsb : sameM m c (m.bare (partsOf kk)) (c.bare (partsOf kk)) = sb at *
  have HSB := Lib.hid hsb
  generalize hvb : fitVsB c.vs m.vw = vb at *
  have HVB := Lib.hid hvb
  clear hk hv hs hsb hvb hW hbx hbl hws hmW hld hk0 hm hok l0 l1 l2 l3 l4 l5
  generalize (m.bare (partsOf kk)).cells.toArray = BA at *
  generalize m.cells.toArray = A at *
  generalize m.vs.n = n0 at *
  generalize m.sm.n = n1 at *
  generalize m.dt.n = n2 at *
  generalize m.vt.ms.n = n3 at *
  generalize m.vt.p.n = n4 at *
  generalize m.vt.q.n = n5 at *
  go_enter Tryz.func11, Tryz.ntmps11
  go_upto_region 1 with fail
  rw [← HW.out]
  go_upto_region 3 with fail
  have hkk : kk = 7 := HKH.out
  subst hkk
  have e1 : ¬ (7 : Int) < 1 := by omega
  have e2 : ¬ (14 : Int) < 7 := by omega
  have C1 := Lib.hid (fun wx h => by have q := HC1.out wx h; rwa [show vb = true from HVH.out] at q)
  have C3 := Lib.hid (fun wx h => by have q := HC3.out wx h; rwa [show sb = true from HSH.out] at q)
  refine wp_region_held_drew (S := fun wx => Below W.heap.size W wx) (by kernel_rfl) (((Below.refl W.heap.size W).drew)) (fun hS => ?_)
  refine tg 0 (.pointer (some ⟨w.heap.size, 0, none⟩)) rfl hS ?_
  refine tk 1 (.int .u8 7) rfl (yi_load 5 (.tmp 43) (.pointer (some ⟨w.heap.size, 0, none⟩)) rfl rfl rfl (fun wq hw => by have q := HK0.out wq hw; go_simp)) hS ?_
  refine tg 2 (.bool false) rfl hS ?_
  refine tm 3 (.bool false) rfl hS ?_
  refine tg 4 (.pointer (some ⟨w.heap.size, 0, none⟩)) rfl hS ?_
  refine tk 5 (.int .u8 7) rfl (yi_load 5 (.tmp 47) (.pointer (some ⟨w.heap.size, 0, none⟩)) rfl rfl rfl (fun wq hw => by have q := HK0.out wq hw; go_simp)) hS ?_
  refine tg 6 (.bool false) rfl hS ?_
  refine tm 7 (.bool false) rfl hS ?_
  refine tm 8 (.bool false) rfl hS ?_
  refine tk 9 (.agg A) rfl (yi_load 37 (.tmp 1) (.pointer (some ⟨w.heap.size, 0, none⟩)) rfl rfl rfl (fun wq hw => HLD.out wq hw)) hS ?_
  refine rdy1 10 rfl (fun K hK => ?_)
  rw [if_pos (by rfl)]
  go_simp
  refine Calls.mono (C1.out _ hS) ?_
  rintro e w4 ⟨rfl, b4⟩
  have h4 : Below W.heap.size W w4 := hS.trans (b4.mono hS.size)
  refine hK.out _ _ (h4) (fun hS => ?_)
  clear hK K
  refine tm 11 (.bool false) rfl hS ?_
  refine tm 12 (.bool false) rfl hS ?_
  refine tm 13 (.bool false) rfl hS ?_
  refine tk 14 (.agg A) rfl (yi_load 37 (.tmp 1) (.pointer (some ⟨w.heap.size, 0, none⟩)) rfl rfl rfl (fun wq hw => HLD.out wq hw)) hS ?_
  refine tk 15 (.agg A) rfl (yi_load 37 (.tmp 1) (.pointer (some ⟨w.heap.size, 0, none⟩)) rfl rfl rfl (fun wq hw => HLD.out wq hw)) hS ?_
  refine rdy1 16 rfl (fun K hK => ?_)
  rw [if_pos (by rfl)]
  go_simp
  refine Calls.mono (HC2.out _) ?_
  rintro e w5 ⟨rfl, b5⟩
  have h5 : Below W.heap.size W w5 := hS.trans (b5.mono hS.size)
  refine hK.out _ _ (h5) (fun hS => ?_)
  clear hK K
  refine rdy1 17 rfl (fun K hK => ?_)
  rw [if_pos (by rfl)]
  go_simp
  refine Calls.mono (C3.out _ hS) ?_
  rintro e w6 ⟨rfl, b6⟩
  have h6 : Below W.heap.size W w6 := hS.trans (b6.mono hS.size)
  refine hK.out _ _ (h6) (fun hS => ?_)
  clear hK K
  refine tm 18 (.bool false) rfl hS ?_
  refine tm 19 (.bool false) rfl hS ?_
  refine wpAnyH_done (by kernel_rfl) ?_ _
  clear q0 q22 q23 q24 q19 q20 q21
  have qk0 := (HQ_k0.out w6 hS)
  have qf := (HQ_f.out w6 hS)
  have qt := (HQ_t.out w6 hS)
  have qe := (HQ_e.out w6 hS)
  have qsq := (HQ_sq.out w6 hS)
  have qvw := (HQ_vw.out w6 hS)
  go_upto_region 5 with fail
  obtain ⟨fr, hfr⟩ : ∃ fr, fr = (isRp m.f && isEp m.e) := ⟨_, rfl⟩
  rw [← hfr] at HRK
  have HFR := Lib.hid hfr
  clear hfr
  go_cut [3] from 63 to 75 (fun s3 wx => s3 = .bool fr ∧ wx = w6)
  case first =>
    by_cases x1 : m.f < 4
    · by_cases x2 : 1 ≤ m.e
      · by_cases x3 : m.e ≤ 200
        · go_wp2_with fail
          go_meet
          exact ⟨by rw [HFR.out]; first | (simp [isRp, isEp]; done) | (simp [isRp, isEp]; omega), rfl⟩
        · go_wp2_with fail
          go_meet
          exact ⟨by rw [HFR.out]; first | (simp [isRp, isEp]; done) | (simp [isRp, isEp]; omega), rfl⟩
      · go_wp2_with fail
        go_meet
        exact ⟨by rw [HFR.out]; first | (simp [isRp, isEp]; done) | (simp [isRp, isEp]; omega), rfl⟩
    · go_wp2_with fail
      go_meet
      exact ⟨by rw [HFR.out]; first | (simp [isRp, isEp]; done) | (simp [isRp, isEp]; omega), rfl⟩
  case rest =>
    obtain ⟨rfl, hwc⟩ := hcut
    obtain rfl := hwc.symm
    clear HFR
    cases fr with
    | false =>
      go_wp2_with fail
      exact bodyPost_ret (v := .bool false) (by simp [results, Tryz.results11, go_sem]) rfl ⟨by rw [HRK.out]; first | (simp; done) | (simp; omega), ht HB hS HWS⟩
    | true =>
      by_cases c1 : m.t < 4
      · have C1 := Lib.hid c1
        by_cases c2 : 1 ≤ m.vw
        · have C2 := Lib.hid c2
          by_cases c3 : m.vw ≤ 1048576
          · have C3 := Lib.hid c3
            go_wp2_with fail
            exact bodyPost_ret (v := .bool true) (by simp [results, Tryz.results11, go_sem]) rfl ⟨by have t1 := C1.out; have t2 := C2.out; have t3 := C3.out; rw [HRK.out]; first | (simp; done) | (simp; omega), ht HB hS HWS⟩
          · have C3 := Lib.hid c3
            go_wp2_with fail
            exact bodyPost_ret (v := .bool false) (by have t := C3.out; simp [results, Tryz.results11, go_sem] <;> omega) rfl ⟨by have t1 := C1.out; have t2 := C2.out; have t3 := C3.out; rw [HRK.out]; first | (simp; done) | (simp; omega), ht HB hS HWS⟩
        · have C2 := Lib.hid c2
          go_wp2_with fail
          exact bodyPost_ret (v := .bool false) (by simp [results, Tryz.results11, go_sem]) rfl ⟨by have t1 := C1.out; have t2 := C2.out; rw [HRK.out]; first | (simp; done) | (simp; omega), ht HB hS HWS⟩
      · have C1 := Lib.hid c1
        go_wp2_with fail
        exact bodyPost_ret (v := .bool false) (by simp [results, Tryz.results11, go_sem]) rfl ⟨by have t1 := C1.out; rw [HRK.out]; first | (simp; done) | (simp; omega), ht HB hS HWS⟩

set_option maxHeartbeats 8000000 in
theorem refIs_k8 (w : World) (m : Mg) (c : Mc) (hm : MgAt w m c) (hok : ∀ x ∈ c.vs, (∀ y ∈ x.2.p, 0 ≤ y.s ∧ y.rq.ok) ∧ ∀ y ∈ x.2.q, 0 ≤ y.s ∧ y.rq.ok) (hl : m.vs.n ≤ 4 ∧ m.sm.n ≤ 8 ∧ m.dt.n ≤ 64 ∧ m.vt.ms.n ≤ 40 ∧ m.vt.p.n ≤ 40 ∧ m.vt.q.n ≤ 40) (hk : m.k = 8) (hv : fitVsB c.vs m.vw = true) (hs : sameM m c (m.bare (partsOf m.k)) (c.bare (partsOf m.k)) = true) : Calls Tryz.prog 11 #[.agg m.cells.toArray] w fun e w' => e = .returned (.bool (isM m c)) ∧ Below w.heap.size w w' := by
  obtain ⟨W, hW, hbx, hbl, q22, q23, q24, q19, q20, q21, q0, d0, d1, d2, d3, d4, d5, hws, hmW, HC1, HC2, HC3, hld, hk0⟩ := rk_pre w m c hm hok hl
  obtain ⟨l0, l1, l2, l3, l4, l5⟩ := hl
  have HLD := Lib.hid hld
  have HK0 := Lib.hid hk0
  have HBX := Lib.hid hbx
  have HW := Lib.hid hW
  have HB := Lib.hid hbl
  have HWS := Lib.hid hws
  have HM := Lib.hid hmW
  obtain ⟨r, hr⟩ : ∃ r, r = isM m c := ⟨_, rfl⟩
  rw [← hr]
  rw [isM_k8 hk hs] at hr
  have HRK := Lib.hid hr
  clear hr
  have HQ_k0 := Lib.hid (hq (show W.cell? ⟨w.heap.size, 0, none⟩ = some (.int .u8 m.k) from cell_box hbx 0))
  have HQ_f := Lib.hid (hq (show W.cell? ⟨w.heap.size, 1, none⟩ = some (.int .u8 m.f) from cell_box hbx 1))
  have HQ_t := Lib.hid (hq (show W.cell? ⟨w.heap.size, 2, none⟩ = some (.int .u8 m.t) from cell_box hbx 2))
  have HQ_e := Lib.hid (hq (show W.cell? ⟨w.heap.size, 3, none⟩ = some (.int .u8 m.e) from cell_box hbx 3))
  have HQ_sq := Lib.hid (hq (show W.cell? ⟨w.heap.size, 5, none⟩ = some (.int .u32 m.sq) from cell_box hbx 5))
  have HQ_ct := Lib.hid (hq (show W.cell? ⟨w.heap.size, 12, none⟩ = some (.int .u8 m.ct) from cell_box hbx 12))
  have HKH := Lib.hid hk
  have HVH := Lib.hid hv
  have HSH := Lib.hid hs
  generalize hkm : m.k = kk at *
  have HKM := Lib.hid hkm
  clear hkm
  generalize hsb : sameM m c (m.bare (partsOf kk)) (c.bare (partsOf kk)) = sb at *
  have HSB := Lib.hid hsb
  generalize hvb : fitVsB c.vs m.vw = vb at *
  have HVB := Lib.hid hvb
  clear hk hv hs hsb hvb hW hbx hbl hws hmW hld hk0 hm hok l0 l1 l2 l3 l4 l5
  generalize (m.bare (partsOf kk)).cells.toArray = BA at *
  generalize m.cells.toArray = A at *
  generalize m.vs.n = n0 at *
  generalize m.sm.n = n1 at *
  generalize m.dt.n = n2 at *
  generalize m.vt.ms.n = n3 at *
  generalize m.vt.p.n = n4 at *
  generalize m.vt.q.n = n5 at *
  go_enter Tryz.func11, Tryz.ntmps11
  go_upto_region 1 with fail
  rw [← HW.out]
  go_upto_region 3 with fail
  have hkk : kk = 8 := HKH.out
  subst hkk
  have e1 : ¬ (8 : Int) < 1 := by omega
  have e2 : ¬ (14 : Int) < 8 := by omega
  have C1 := Lib.hid (fun wx h => by have q := HC1.out wx h; rwa [show vb = true from HVH.out] at q)
  have C3 := Lib.hid (fun wx h => by have q := HC3.out wx h; rwa [show sb = true from HSH.out] at q)
  refine wp_region_held_drew (S := fun wx => Below W.heap.size W wx) (by kernel_rfl) (((Below.refl W.heap.size W).drew)) (fun hS => ?_)
  refine tg 0 (.pointer (some ⟨w.heap.size, 0, none⟩)) rfl hS ?_
  refine tk 1 (.int .u8 8) rfl (yi_load 5 (.tmp 43) (.pointer (some ⟨w.heap.size, 0, none⟩)) rfl rfl rfl (fun wq hw => by have q := HK0.out wq hw; go_simp)) hS ?_
  refine tg 2 (.bool false) rfl hS ?_
  refine tm 3 (.bool false) rfl hS ?_
  refine tg 4 (.pointer (some ⟨w.heap.size, 0, none⟩)) rfl hS ?_
  refine tk 5 (.int .u8 8) rfl (yi_load 5 (.tmp 47) (.pointer (some ⟨w.heap.size, 0, none⟩)) rfl rfl rfl (fun wq hw => by have q := HK0.out wq hw; go_simp)) hS ?_
  refine tg 6 (.bool false) rfl hS ?_
  refine tm 7 (.bool false) rfl hS ?_
  refine tm 8 (.bool false) rfl hS ?_
  refine tk 9 (.agg A) rfl (yi_load 37 (.tmp 1) (.pointer (some ⟨w.heap.size, 0, none⟩)) rfl rfl rfl (fun wq hw => HLD.out wq hw)) hS ?_
  refine rdy1 10 rfl (fun K hK => ?_)
  rw [if_pos (by rfl)]
  go_simp
  refine Calls.mono (C1.out _ hS) ?_
  rintro e w4 ⟨rfl, b4⟩
  have h4 : Below W.heap.size W w4 := hS.trans (b4.mono hS.size)
  refine hK.out _ _ (h4) (fun hS => ?_)
  clear hK K
  refine tm 11 (.bool false) rfl hS ?_
  refine tm 12 (.bool false) rfl hS ?_
  refine tm 13 (.bool false) rfl hS ?_
  refine tk 14 (.agg A) rfl (yi_load 37 (.tmp 1) (.pointer (some ⟨w.heap.size, 0, none⟩)) rfl rfl rfl (fun wq hw => HLD.out wq hw)) hS ?_
  refine tk 15 (.agg A) rfl (yi_load 37 (.tmp 1) (.pointer (some ⟨w.heap.size, 0, none⟩)) rfl rfl rfl (fun wq hw => HLD.out wq hw)) hS ?_
  refine rdy1 16 rfl (fun K hK => ?_)
  rw [if_pos (by rfl)]
  go_simp
  refine Calls.mono (HC2.out _) ?_
  rintro e w5 ⟨rfl, b5⟩
  have h5 : Below W.heap.size W w5 := hS.trans (b5.mono hS.size)
  refine hK.out _ _ (h5) (fun hS => ?_)
  clear hK K
  refine rdy1 17 rfl (fun K hK => ?_)
  rw [if_pos (by rfl)]
  go_simp
  refine Calls.mono (C3.out _ hS) ?_
  rintro e w6 ⟨rfl, b6⟩
  have h6 : Below W.heap.size W w6 := hS.trans (b6.mono hS.size)
  refine hK.out _ _ (h6) (fun hS => ?_)
  clear hK K
  refine tm 18 (.bool false) rfl hS ?_
  refine tm 19 (.bool false) rfl hS ?_
  refine wpAnyH_done (by kernel_rfl) ?_ _
  clear q0 q22 q23 q24 q19 q20 q21
  have qk0 := (HQ_k0.out w6 hS)
  have qf := (HQ_f.out w6 hS)
  have qt := (HQ_t.out w6 hS)
  have qe := (HQ_e.out w6 hS)
  have qsq := (HQ_sq.out w6 hS)
  have qct := (HQ_ct.out w6 hS)
  go_upto_region 5 with fail
  obtain ⟨fr, hfr⟩ : ∃ fr, fr = (isRp m.f && isEp m.e) := ⟨_, rfl⟩
  rw [← hfr] at HRK
  have HFR := Lib.hid hfr
  clear hfr
  go_cut [3] from 63 to 75 (fun s3 wx => s3 = .bool fr ∧ wx = w6)
  case first =>
    by_cases x1 : m.f < 4
    · by_cases x2 : 1 ≤ m.e
      · by_cases x3 : m.e ≤ 200
        · go_wp2_with fail
          go_meet
          exact ⟨by rw [HFR.out]; first | (simp [isRp, isEp]; done) | (simp [isRp, isEp]; omega), rfl⟩
        · go_wp2_with fail
          go_meet
          exact ⟨by rw [HFR.out]; first | (simp [isRp, isEp]; done) | (simp [isRp, isEp]; omega), rfl⟩
      · go_wp2_with fail
        go_meet
        exact ⟨by rw [HFR.out]; first | (simp [isRp, isEp]; done) | (simp [isRp, isEp]; omega), rfl⟩
    · go_wp2_with fail
      go_meet
      exact ⟨by rw [HFR.out]; first | (simp [isRp, isEp]; done) | (simp [isRp, isEp]; omega), rfl⟩
  case rest =>
    obtain ⟨rfl, hwc⟩ := hcut
    obtain rfl := hwc.symm
    clear HFR
    cases fr with
    | false =>
      go_wp2_with fail
      exact bodyPost_ret (v := .bool false) (by simp [results, Tryz.results11, go_sem]) rfl ⟨by rw [HRK.out]; first | (simp; done) | (simp; omega), ht HB hS HWS⟩
    | true =>
      by_cases c1 : m.t < 4
      · have C1 := Lib.hid c1
        by_cases c2 : m.ct = m.e
        · have C2 := Lib.hid c2
          go_wp2_with fail
          exact bodyPost_ret (v := .bool true) (by simp [results, Tryz.results11, go_sem]) rfl ⟨by have t1 := C1.out; have t2 := C2.out; rw [HRK.out]; first | (simp; done) | (simp; omega), ht HB hS HWS⟩
        · have C2 := Lib.hid c2
          go_wp2_with fail
          exact bodyPost_ret (v := .bool false) (by have t := C2.out; simp [results, Tryz.results11, go_sem] <;> omega) rfl ⟨by have t1 := C1.out; have t2 := C2.out; rw [HRK.out]; first | (simp; done) | (simp; omega), ht HB hS HWS⟩
      · have C1 := Lib.hid c1
        go_wp2_with fail
        exact bodyPost_ret (v := .bool false) (by simp [results, Tryz.results11, go_sem]) rfl ⟨by have t1 := C1.out; rw [HRK.out]; first | (simp; done) | (simp; omega), ht HB hS HWS⟩

set_option maxHeartbeats 8000000 in
theorem refIs_k9 (w : World) (m : Mg) (c : Mc) (hm : MgAt w m c) (hok : ∀ x ∈ c.vs, (∀ y ∈ x.2.p, 0 ≤ y.s ∧ y.rq.ok) ∧ ∀ y ∈ x.2.q, 0 ≤ y.s ∧ y.rq.ok) (hl : m.vs.n ≤ 4 ∧ m.sm.n ≤ 8 ∧ m.dt.n ≤ 64 ∧ m.vt.ms.n ≤ 40 ∧ m.vt.p.n ≤ 40 ∧ m.vt.q.n ≤ 40) (hk : m.k = 9) (hv : fitVsB c.vs m.vw = true) (hs : sameM m c (m.bare (partsOf m.k)) (c.bare (partsOf m.k)) = true) : Calls Tryz.prog 11 #[.agg m.cells.toArray] w fun e w' => e = .returned (.bool (isM m c)) ∧ Below w.heap.size w w' := by
  obtain ⟨W, hW, hbx, hbl, q22, q23, q24, q19, q20, q21, q0, d0, d1, d2, d3, d4, d5, hws, hmW, HC1, HC2, HC3, hld, hk0⟩ := rk_pre w m c hm hok hl
  obtain ⟨l0, l1, l2, l3, l4, l5⟩ := hl
  have HLD := Lib.hid hld
  have HK0 := Lib.hid hk0
  have HBX := Lib.hid hbx
  have HW := Lib.hid hW
  have HB := Lib.hid hbl
  have HWS := Lib.hid hws
  have HM := Lib.hid hmW
  obtain ⟨r, hr⟩ : ∃ r, r = isM m c := ⟨_, rfl⟩
  rw [← hr]
  rw [isM_k9 hk hs] at hr
  have HRK := Lib.hid hr
  clear hr
  have HQ_k0 := Lib.hid (hq (show W.cell? ⟨w.heap.size, 0, none⟩ = some (.int .u8 m.k) from cell_box hbx 0))
  have HQ_f := Lib.hid (hq (show W.cell? ⟨w.heap.size, 1, none⟩ = some (.int .u8 m.f) from cell_box hbx 1))
  have HQ_t := Lib.hid (hq (show W.cell? ⟨w.heap.size, 2, none⟩ = some (.int .u8 m.t) from cell_box hbx 2))
  have HQ_e := Lib.hid (hq (show W.cell? ⟨w.heap.size, 3, none⟩ = some (.int .u8 m.e) from cell_box hbx 3))
  have HQ_sq := Lib.hid (hq (show W.cell? ⟨w.heap.size, 5, none⟩ = some (.int .u32 m.sq) from cell_box hbx 5))
  have HQ_ct := Lib.hid (hq (show W.cell? ⟨w.heap.size, 12, none⟩ = some (.int .u8 m.ct) from cell_box hbx 12))
  have HKH := Lib.hid hk
  have HVH := Lib.hid hv
  have HSH := Lib.hid hs
  generalize hkm : m.k = kk at *
  have HKM := Lib.hid hkm
  clear hkm
  generalize hsb : sameM m c (m.bare (partsOf kk)) (c.bare (partsOf kk)) = sb at *
  have HSB := Lib.hid hsb
  generalize hvb : fitVsB c.vs m.vw = vb at *
  have HVB := Lib.hid hvb
  clear hk hv hs hsb hvb hW hbx hbl hws hmW hld hk0 hm hok l0 l1 l2 l3 l4 l5
  generalize (m.bare (partsOf kk)).cells.toArray = BA at *
  generalize m.cells.toArray = A at *
  generalize m.vs.n = n0 at *
  generalize m.sm.n = n1 at *
  generalize m.dt.n = n2 at *
  generalize m.vt.ms.n = n3 at *
  generalize m.vt.p.n = n4 at *
  generalize m.vt.q.n = n5 at *
  go_enter Tryz.func11, Tryz.ntmps11
  go_upto_region 1 with fail
  rw [← HW.out]
  go_upto_region 3 with fail
  have hkk : kk = 9 := HKH.out
  subst hkk
  have e1 : ¬ (9 : Int) < 1 := by omega
  have e2 : ¬ (14 : Int) < 9 := by omega
  have C1 := Lib.hid (fun wx h => by have q := HC1.out wx h; rwa [show vb = true from HVH.out] at q)
  have C3 := Lib.hid (fun wx h => by have q := HC3.out wx h; rwa [show sb = true from HSH.out] at q)
  refine wp_region_held_drew (S := fun wx => Below W.heap.size W wx) (by kernel_rfl) (((Below.refl W.heap.size W).drew)) (fun hS => ?_)
  refine tg 0 (.pointer (some ⟨w.heap.size, 0, none⟩)) rfl hS ?_
  refine tk 1 (.int .u8 9) rfl (yi_load 5 (.tmp 43) (.pointer (some ⟨w.heap.size, 0, none⟩)) rfl rfl rfl (fun wq hw => by have q := HK0.out wq hw; go_simp)) hS ?_
  refine tg 2 (.bool false) rfl hS ?_
  refine tm 3 (.bool false) rfl hS ?_
  refine tg 4 (.pointer (some ⟨w.heap.size, 0, none⟩)) rfl hS ?_
  refine tk 5 (.int .u8 9) rfl (yi_load 5 (.tmp 47) (.pointer (some ⟨w.heap.size, 0, none⟩)) rfl rfl rfl (fun wq hw => by have q := HK0.out wq hw; go_simp)) hS ?_
  refine tg 6 (.bool false) rfl hS ?_
  refine tm 7 (.bool false) rfl hS ?_
  refine tm 8 (.bool false) rfl hS ?_
  refine tk 9 (.agg A) rfl (yi_load 37 (.tmp 1) (.pointer (some ⟨w.heap.size, 0, none⟩)) rfl rfl rfl (fun wq hw => HLD.out wq hw)) hS ?_
  refine rdy1 10 rfl (fun K hK => ?_)
  rw [if_pos (by rfl)]
  go_simp
  refine Calls.mono (C1.out _ hS) ?_
  rintro e w4 ⟨rfl, b4⟩
  have h4 : Below W.heap.size W w4 := hS.trans (b4.mono hS.size)
  refine hK.out _ _ (h4) (fun hS => ?_)
  clear hK K
  refine tm 11 (.bool false) rfl hS ?_
  refine tm 12 (.bool false) rfl hS ?_
  refine tm 13 (.bool false) rfl hS ?_
  refine tk 14 (.agg A) rfl (yi_load 37 (.tmp 1) (.pointer (some ⟨w.heap.size, 0, none⟩)) rfl rfl rfl (fun wq hw => HLD.out wq hw)) hS ?_
  refine tk 15 (.agg A) rfl (yi_load 37 (.tmp 1) (.pointer (some ⟨w.heap.size, 0, none⟩)) rfl rfl rfl (fun wq hw => HLD.out wq hw)) hS ?_
  refine rdy1 16 rfl (fun K hK => ?_)
  rw [if_pos (by rfl)]
  go_simp
  refine Calls.mono (HC2.out _) ?_
  rintro e w5 ⟨rfl, b5⟩
  have h5 : Below W.heap.size W w5 := hS.trans (b5.mono hS.size)
  refine hK.out _ _ (h5) (fun hS => ?_)
  clear hK K
  refine rdy1 17 rfl (fun K hK => ?_)
  rw [if_pos (by rfl)]
  go_simp
  refine Calls.mono (C3.out _ hS) ?_
  rintro e w6 ⟨rfl, b6⟩
  have h6 : Below W.heap.size W w6 := hS.trans (b6.mono hS.size)
  refine hK.out _ _ (h6) (fun hS => ?_)
  clear hK K
  refine tm 18 (.bool false) rfl hS ?_
  refine tm 19 (.bool false) rfl hS ?_
  refine wpAnyH_done (by kernel_rfl) ?_ _
  clear q0 q22 q23 q24 q19 q20 q21
  have qk0 := (HQ_k0.out w6 hS)
  have qf := (HQ_f.out w6 hS)
  have qt := (HQ_t.out w6 hS)
  have qe := (HQ_e.out w6 hS)
  have qsq := (HQ_sq.out w6 hS)
  have qct := (HQ_ct.out w6 hS)
  go_upto_region 5 with fail
  obtain ⟨fr, hfr⟩ : ∃ fr, fr = (isRp m.f && isEp m.e) := ⟨_, rfl⟩
  rw [← hfr] at HRK
  have HFR := Lib.hid hfr
  clear hfr
  go_cut [3] from 63 to 75 (fun s3 wx => s3 = .bool fr ∧ wx = w6)
  case first =>
    by_cases x1 : m.f < 4
    · by_cases x2 : 1 ≤ m.e
      · by_cases x3 : m.e ≤ 200
        · go_wp2_with fail
          go_meet
          exact ⟨by rw [HFR.out]; first | (simp [isRp, isEp]; done) | (simp [isRp, isEp]; omega), rfl⟩
        · go_wp2_with fail
          go_meet
          exact ⟨by rw [HFR.out]; first | (simp [isRp, isEp]; done) | (simp [isRp, isEp]; omega), rfl⟩
      · go_wp2_with fail
        go_meet
        exact ⟨by rw [HFR.out]; first | (simp [isRp, isEp]; done) | (simp [isRp, isEp]; omega), rfl⟩
    · go_wp2_with fail
      go_meet
      exact ⟨by rw [HFR.out]; first | (simp [isRp, isEp]; done) | (simp [isRp, isEp]; omega), rfl⟩
  case rest =>
    obtain ⟨rfl, hwc⟩ := hcut
    obtain rfl := hwc.symm
    clear HFR
    cases fr with
    | false =>
      go_wp2_with fail
      exact bodyPost_ret (v := .bool false) (by simp [results, Tryz.results11, go_sem]) rfl ⟨by rw [HRK.out]; first | (simp; done) | (simp; omega), ht HB hS HWS⟩
    | true =>
      by_cases c1 : m.t < 4
      · have C1 := Lib.hid c1
        by_cases c2 : m.ct = m.e
        · have C2 := Lib.hid c2
          go_wp2_with fail
          exact bodyPost_ret (v := .bool true) (by simp [results, Tryz.results11, go_sem]) rfl ⟨by have t1 := C1.out; have t2 := C2.out; rw [HRK.out]; first | (simp; done) | (simp; omega), ht HB hS HWS⟩
        · have C2 := Lib.hid c2
          go_wp2_with fail
          exact bodyPost_ret (v := .bool false) (by have t := C2.out; simp [results, Tryz.results11, go_sem] <;> omega) rfl ⟨by have t1 := C1.out; have t2 := C2.out; rw [HRK.out]; first | (simp; done) | (simp; omega), ht HB hS HWS⟩
      · have C1 := Lib.hid c1
        go_wp2_with fail
        exact bodyPost_ret (v := .bool false) (by simp [results, Tryz.results11, go_sem]) rfl ⟨by have t1 := C1.out; rw [HRK.out]; first | (simp; done) | (simp; omega), ht HB hS HWS⟩
end Go.Proofs.YtbpfkeeikhhlnaaGreatDoor
