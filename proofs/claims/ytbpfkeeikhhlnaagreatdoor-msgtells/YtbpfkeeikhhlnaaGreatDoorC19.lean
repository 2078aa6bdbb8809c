/- The document's Is, kind by kind. The document's Is, kind by kind. The document's Is, kind by kind. The document's Is, kind by kind. The document's Is, kind by kind. What a message must be, for its lists not to be too long. The document's Is of every message. The document's Encode: what it begins with. The document's Encode, kind 1. -/
import Derived.Test.YtbpfkeeikhhlnaaGreatDoorC17
import Derived.Test.YtbpfkeeikhhlnaaGreatDoorC07
import Derived.Test.YtbpfkeeikhhlnaaGreatDoorC18
import Derived.Test.YtbpfkeeikhhlnaaGreatDoorC08
import Derived.Test.YtbpfkeeikhhlnaaGreatDoorC03
namespace Go.Proofs.YtbpfkeeikhhlnaaGreatDoor
open Go.RowKit
set_option maxRecDepth 100000

set_option maxHeartbeats 8000000 in
theorem refIs_k10 (w : World) (m : Mg) (c : Mc) (hm : MgAt w m c) (hok : ∀ x ∈ c.vs, (∀ y ∈ x.2.p, 0 ≤ y.s ∧ y.rq.ok) ∧ ∀ y ∈ x.2.q, 0 ≤ y.s ∧ y.rq.ok) (hl : m.vs.n ≤ 4 ∧ m.sm.n ≤ 8 ∧ m.dt.n ≤ 64 ∧ m.vt.ms.n ≤ 40 ∧ m.vt.p.n ≤ 40 ∧ m.vt.q.n ≤ 40) (hk : m.k = 10) (hv : fitVsB c.vs m.vw = true) (hs : sameM m c (m.bare (partsOf m.k)) (c.bare (partsOf m.k)) = true) : Calls Tryz.prog 11 #[.agg m.cells.toArray] w fun e w' => e = .returned (.bool (isM m c)) ∧ Below w.heap.size w w' := by
  obtain ⟨W, hW, hbx, hbl, q22, q23, q24, q19, q20, q21, q0, d0, d1, d2, d3, d4, d5, hws, hmW, HC1, HC2, HC3, hld, hk0⟩ := rk_pre w m c hm hok hl
  obtain ⟨l0, l1, l2, l3, l4, l5⟩ := hl
  have HLD := Lib.hid hld
  have HK0 := Lib.hid hk0
  have HBX := Lib.hid hbx
  have HW := Lib.hid hW
  have HB := Lib.hid hbl
  have HWS := Lib.hid hws
  have HM := Lib.hid hmW
  obtain ⟨r, hr⟩ : ∃ r, r = isM m c := ⟨_, rfl⟩
  rw [← hr]
  rw [isM_k10 hk hs] at hr
  have HRK := Lib.hid hr
  clear hr
  have HQ_k0 := Lib.hid (hq (show W.cell? ⟨w.heap.size, 0, none⟩ = some (.int .u8 m.k) from cell_box hbx 0))
  have HQ_f := Lib.hid (hq (show W.cell? ⟨w.heap.size, 1, none⟩ = some (.int .u8 m.f) from cell_box hbx 1))
  have HQ_t := Lib.hid (hq (show W.cell? ⟨w.heap.size, 2, none⟩ = some (.int .u8 m.t) from cell_box hbx 2))
  have HQ_e := Lib.hid (hq (show W.cell? ⟨w.heap.size, 3, none⟩ = some (.int .u8 m.e) from cell_box hbx 3))
  have HQ_sq := Lib.hid (hq (show W.cell? ⟨w.heap.size, 5, none⟩ = some (.int .u32 m.sq) from cell_box hbx 5))
  have HKH := Lib.hid hk
  have HVH := Lib.hid hv
  have HSH := Lib.hid hs
  generalize hkm : m.k = kk at *
  have HKM := Lib.hid hkm
  clear hkm
  generalize hsb : sameM m c (m.bare (partsOf kk)) (c.bare (partsOf kk)) = sb at *
  have HSB := Lib.hid hsb
  generalize hvb : fitVsB c.vs m.vw = vb at *
  have HVB := Lib.hid hvb
  clear hk hv hs hsb hvb hW hbx hbl hws hmW hld hk0 hm hok l0 l1 l2 l3 l4 l5
  generalize (m.bare (partsOf kk)).cells.toArray = BA at *
  generalize m.cells.toArray = A at *
  generalize m.vs.n = n0 at *
  generalize m.sm.n = n1 at *
  generalize m.dt.n = n2 at *
  generalize m.vt.ms.n = n3 at *
  generalize m.vt.p.n = n4 at *
  generalize m.vt.q.n = n5 at *
  go_enter Tryz.func11, Tryz.ntmps11
  go_upto_region 1 with fail
  rw [← HW.out]
  go_upto_region 3 with fail
  have hkk : kk = 10 := HKH.out
  subst hkk
  have e1 : ¬ (10 : Int) < 1 := by omega
  have e2 : ¬ (14 : Int) < 10 := by omega
  have C1 := Lib.hid (fun wx h => by have q := HC1.out wx h; rwa [show vb = true from HVH.out] at q)
  have C3 := Lib.hid (fun wx h => by have q := HC3.out wx h; rwa [show sb = true from HSH.out] at q)
  refine wp_region_held_drew (S := fun wx => Below W.heap.size W wx) (by kernel_rfl) (((Below.refl W.heap.size W).drew)) (fun hS => ?_)
  refine tg 0 (.pointer (some ⟨w.heap.size, 0, none⟩)) rfl hS ?_
  refine tk 1 (.int .u8 10) rfl (yi_load 5 (.tmp 43) (.pointer (some ⟨w.heap.size, 0, none⟩)) rfl rfl rfl (fun wq hw => by have q := HK0.out wq hw; go_simp)) hS ?_
  refine tg 2 (.bool false) rfl hS ?_
  refine tm 3 (.bool false) rfl hS ?_
  refine tg 4 (.pointer (some ⟨w.heap.size, 0, none⟩)) rfl hS ?_
  refine tk 5 (.int .u8 10) rfl (yi_load 5 (.tmp 47) (.pointer (some ⟨w.heap.size, 0, none⟩)) rfl rfl rfl (fun wq hw => by have q := HK0.out wq hw; go_simp)) hS ?_
  refine tg 6 (.bool false) rfl hS ?_
  refine tm 7 (.bool false) rfl hS ?_
  refine tm 8 (.bool false) rfl hS ?_
  refine tk 9 (.agg A) rfl (yi_load 37 (.tmp 1) (.pointer (some ⟨w.heap.size, 0, none⟩)) rfl rfl rfl (fun wq hw => HLD.out wq hw)) hS ?_
  refine rdy1 10 rfl (fun K hK => ?_)
  rw [if_pos (by rfl)]
  go_simp
  refine Calls.mono (C1.out _ hS) ?_
  rintro e w4 ⟨rfl, b4⟩
  have h4 : Below W.heap.size W w4 := hS.trans (b4.mono hS.size)
  refine hK.out _ _ (h4) (fun hS => ?_)
  clear hK K
  refine tm 11 (.bool false) rfl hS ?_
  refine tm 12 (.bool false) rfl hS ?_
  refine tm 13 (.bool false) rfl hS ?_
  refine tk 14 (.agg A) rfl (yi_load 37 (.tmp 1) (.pointer (some ⟨w.heap.size, 0, none⟩)) rfl rfl rfl (fun wq hw => HLD.out wq hw)) hS ?_
  refine tk 15 (.agg A) rfl (yi_load 37 (.tmp 1) (.pointer (some ⟨w.heap.size, 0, none⟩)) rfl rfl rfl (fun wq hw => HLD.out wq hw)) hS ?_
  refine rdy1 16 rfl (fun K hK => ?_)
  rw [if_pos (by rfl)]
  go_simp
  refine Calls.mono (HC2.out _) ?_
  rintro e w5 ⟨rfl, b5⟩
  have h5 : Below W.heap.size W w5 := hS.trans (b5.mono hS.size)
  refine hK.out _ _ (h5) (fun hS => ?_)
  clear hK K
  refine rdy1 17 rfl (fun K hK => ?_)
  rw [if_pos (by rfl)]
  go_simp
  refine Calls.mono (C3.out _ hS) ?_
  rintro e w6 ⟨rfl, b6⟩
  have h6 : Below W.heap.size W w6 := hS.trans (b6.mono hS.size)
  refine hK.out _ _ (h6) (fun hS => ?_)
  clear hK K
  refine tm 18 (.bool false) rfl hS ?_
  refine tm 19 (.bool false) rfl hS ?_
  refine wpAnyH_done (by kernel_rfl) ?_ _
  clear q0 q22 q23 q24 q19 q20 q21
  have qk0 := (HQ_k0.out w6 hS)
  have qf := (HQ_f.out w6 hS)
  have qt := (HQ_t.out w6 hS)
  have qe := (HQ_e.out w6 hS)
  have qsq := (HQ_sq.out w6 hS)
  go_upto_region 5 with fail
  obtain ⟨fr, hfr⟩ : ∃ fr, fr = (isRp m.f && isEp m.e) := ⟨_, rfl⟩
  rw [← hfr] at HRK
  have HFR := Lib.hid hfr
  clear hfr
  go_cut [3] from 63 to 75 (fun s3 wx => s3 = .bool fr ∧ wx = w6)
  case first =>
    by_cases x1 : m.f < 4
    · by_cases x2 : 1 ≤ m.e
      · by_cases x3 : m.e ≤ 200
        · go_wp2_with fail
          go_meet
          exact ⟨by rw [HFR.out]; first | (simp [isRp, isEp]; done) | (simp [isRp, isEp]; omega), rfl⟩
        · go_wp2_with fail
          go_meet
          exact ⟨by rw [HFR.out]; first | (simp [isRp, isEp]; done) | (simp [isRp, isEp]; omega), rfl⟩
      · go_wp2_with fail
        go_meet
        exact ⟨by rw [HFR.out]; first | (simp [isRp, isEp]; done) | (simp [isRp, isEp]; omega), rfl⟩
    · go_wp2_with fail
      go_meet
      exact ⟨by rw [HFR.out]; first | (simp [isRp, isEp]; done) | (simp [isRp, isEp]; omega), rfl⟩
  case rest =>
    obtain ⟨rfl, hwc⟩ := hcut
    obtain rfl := hwc.symm
    clear HFR
    cases fr with
    | false =>
      go_wp2_with fail
      exact bodyPost_ret (v := .bool false) (by simp [results, Tryz.results11, go_sem]) rfl ⟨by rw [HRK.out]; first | (simp; done) | (simp; omega), ht HB hS HWS⟩
    | true =>
      by_cases c1 : m.t < 4
      · have C1 := Lib.hid c1
        by_cases c2 : m.sq ≤ 1073741824
        · have C2 := Lib.hid c2
          go_wp2_with fail
          exact bodyPost_ret (v := .bool true) (by simp [results, Tryz.results11, go_sem]) rfl ⟨by have t1 := C1.out; have t2 := C2.out; rw [HRK.out]; first | (simp; done) | (simp; omega), ht HB hS HWS⟩
        · have C2 := Lib.hid c2
          go_wp2_with fail
          exact bodyPost_ret (v := .bool false) (by have t := C2.out; simp [results, Tryz.results11, go_sem] <;> omega) rfl ⟨by have t1 := C1.out; have t2 := C2.out; rw [HRK.out]; first | (simp; done) | (simp; omega), ht HB hS HWS⟩
      · have C1 := Lib.hid c1
        go_wp2_with fail
        exact bodyPost_ret (v := .bool false) (by simp [results, Tryz.results11, go_sem]) rfl ⟨by have t1 := C1.out; rw [HRK.out]; first | (simp; done) | (simp; omega), ht HB hS HWS⟩

set_option maxHeartbeats 8000000 in
theorem refIs_k11 (w : World) (m : Mg) (c : Mc) (hm : MgAt w m c) (hok : ∀ x ∈ c.vs, (∀ y ∈ x.2.p, 0 ≤ y.s ∧ y.rq.ok) ∧ ∀ y ∈ x.2.q, 0 ≤ y.s ∧ y.rq.ok) (hl : m.vs.n ≤ 4 ∧ m.sm.n ≤ 8 ∧ m.dt.n ≤ 64 ∧ m.vt.ms.n ≤ 40 ∧ m.vt.p.n ≤ 40 ∧ m.vt.q.n ≤ 40) (hk : m.k = 11) (hv : fitVsB c.vs m.vw = true) (hs : sameM m c (m.bare (partsOf m.k)) (c.bare (partsOf m.k)) = true) : Calls Tryz.prog 11 #[.agg m.cells.toArray] w fun e w' => e = .returned (.bool (isM m c)) ∧ Below w.heap.size w w' := by
  obtain ⟨W, hW, hbx, hbl, q22, q23, q24, q19, q20, q21, q0, d0, d1, d2, d3, d4, d5, hws, hmW, HC1, HC2, HC3, hld, hk0⟩ := rk_pre w m c hm hok hl
  obtain ⟨l0, l1, l2, l3, l4, l5⟩ := hl
  have HLD := Lib.hid hld
  have HK0 := Lib.hid hk0
  have HBX := Lib.hid hbx
  have HW := Lib.hid hW
  have HB := Lib.hid hbl
  have HWS := Lib.hid hws
  have HM := Lib.hid hmW
  obtain ⟨r, hr⟩ : ∃ r, r = isM m c := ⟨_, rfl⟩
  rw [← hr]
  rw [isM_k11 hk hs] at hr
  have HRK := Lib.hid hr
  clear hr
  have HQ_k0 := Lib.hid (hq (show W.cell? ⟨w.heap.size, 0, none⟩ = some (.int .u8 m.k) from cell_box hbx 0))
  have HQ_f := Lib.hid (hq (show W.cell? ⟨w.heap.size, 1, none⟩ = some (.int .u8 m.f) from cell_box hbx 1))
  have HQ_t := Lib.hid (hq (show W.cell? ⟨w.heap.size, 2, none⟩ = some (.int .u8 m.t) from cell_box hbx 2))
  have HQ_e := Lib.hid (hq (show W.cell? ⟨w.heap.size, 3, none⟩ = some (.int .u8 m.e) from cell_box hbx 3))
  have HQ_sq := Lib.hid (hq (show W.cell? ⟨w.heap.size, 5, none⟩ = some (.int .u32 m.sq) from cell_box hbx 5))
  have HQ_pg := Lib.hid (hq (show W.cell? ⟨w.heap.size, 13, none⟩ = some (.int .u8 m.pg) from cell_box hbx 13))
  have HKH := Lib.hid hk
  have HVH := Lib.hid hv
  have HSH := Lib.hid hs
  generalize hkm : m.k = kk at *
  have HKM := Lib.hid hkm
  clear hkm
  generalize hsb : sameM m c (m.bare (partsOf kk)) (c.bare (partsOf kk)) = sb at *
  have HSB := Lib.hid hsb
  generalize hvb : fitVsB c.vs m.vw = vb at *
  have HVB := Lib.hid hvb
  clear hk hv hs hsb hvb hW hbx hbl hws hmW hld hk0 hm hok l0 l1 l2 l3 l4 l5
  generalize (m.bare (partsOf kk)).cells.toArray = BA at *
  generalize m.cells.toArray = A at *
  generalize m.vs.n = n0 at *
  generalize m.sm.n = n1 at *
  generalize m.dt.n = n2 at *
  generalize m.vt.ms.n = n3 at *
  generalize m.vt.p.n = n4 at *
  generalize m.vt.q.n = n5 at *
  go_enter Tryz.func11, Tryz.ntmps11
  go_upto_region 1 with fail
  rw [← HW.out]
  go_upto_region 3 with fail
  have hkk : kk = 11 := HKH.out
  subst hkk
  have e1 : ¬ (11 : Int) < 1 := by omega
  have e2 : ¬ (14 : Int) < 11 := by omega
  have C1 := Lib.hid (fun wx h => by have q := HC1.out wx h; rwa [show vb = true from HVH.out] at q)
  have C3 := Lib.hid (fun wx h => by have q := HC3.out wx h; rwa [show sb = true from HSH.out] at q)
  refine wp_region_held_drew (S := fun wx => Below W.heap.size W wx) (by kernel_rfl) (((Below.refl W.heap.size W).drew)) (fun hS => ?_)
  refine tg 0 (.pointer (some ⟨w.heap.size, 0, none⟩)) rfl hS ?_
  refine tk 1 (.int .u8 11) rfl (yi_load 5 (.tmp 43) (.pointer (some ⟨w.heap.size, 0, none⟩)) rfl rfl rfl (fun wq hw => by have q := HK0.out wq hw; go_simp)) hS ?_
  refine tg 2 (.bool false) rfl hS ?_
  refine tm 3 (.bool false) rfl hS ?_
  refine tg 4 (.pointer (some ⟨w.heap.size, 0, none⟩)) rfl hS ?_
  refine tk 5 (.int .u8 11) rfl (yi_load 5 (.tmp 47) (.pointer (some ⟨w.heap.size, 0, none⟩)) rfl rfl rfl (fun wq hw => by have q := HK0.out wq hw; go_simp)) hS ?_
  refine tg 6 (.bool false) rfl hS ?_
  refine tm 7 (.bool false) rfl hS ?_
  refine tm 8 (.bool false) rfl hS ?_
  refine tk 9 (.agg A) rfl (yi_load 37 (.tmp 1) (.pointer (some ⟨w.heap.size, 0, none⟩)) rfl rfl rfl (fun wq hw => HLD.out wq hw)) hS ?_
  refine rdy1 10 rfl (fun K hK => ?_)
  rw [if_pos (by rfl)]
  go_simp
  refine Calls.mono (C1.out _ hS) ?_
  rintro e w4 ⟨rfl, b4⟩
  have h4 : Below W.heap.size W w4 := hS.trans (b4.mono hS.size)
  refine hK.out _ _ (h4) (fun hS => ?_)
  clear hK K
  refine tm 11 (.bool false) rfl hS ?_
  refine tm 12 (.bool false) rfl hS ?_
  refine tm 13 (.bool false) rfl hS ?_
  refine tk 14 (.agg A) rfl (yi_load 37 (.tmp 1) (.pointer (some ⟨w.heap.size, 0, none⟩)) rfl rfl rfl (fun wq hw => HLD.out wq hw)) hS ?_
  refine tk 15 (.agg A) rfl (yi_load 37 (.tmp 1) (.pointer (some ⟨w.heap.size, 0, none⟩)) rfl rfl rfl (fun wq hw => HLD.out wq hw)) hS ?_
  refine rdy1 16 rfl (fun K hK => ?_)
  rw [if_pos (by rfl)]
  go_simp
  refine Calls.mono (HC2.out _) ?_
  rintro e w5 ⟨rfl, b5⟩
  have h5 : Below W.heap.size W w5 := hS.trans (b5.mono hS.size)
  refine hK.out _ _ (h5) (fun hS => ?_)
  clear hK K
  refine rdy1 17 rfl (fun K hK => ?_)
  rw [if_pos (by rfl)]
  go_simp
  refine Calls.mono (C3.out _ hS) ?_
  rintro e w6 ⟨rfl, b6⟩
  have h6 : Below W.heap.size W w6 := hS.trans (b6.mono hS.size)
  refine hK.out _ _ (h6) (fun hS => ?_)
  clear hK K
  refine tm 18 (.bool false) rfl hS ?_
  refine tm 19 (.bool false) rfl hS ?_
  refine wpAnyH_done (by kernel_rfl) ?_ _
  clear q0 q22 q23 q24 q19 q20 q21
  have qk0 := (HQ_k0.out w6 hS)
  have qf := (HQ_f.out w6 hS)
  have qt := (HQ_t.out w6 hS)
  have qe := (HQ_e.out w6 hS)
  have qsq := (HQ_sq.out w6 hS)
  have qpg := (HQ_pg.out w6 hS)
  go_upto_region 5 with fail
  obtain ⟨fr, hfr⟩ : ∃ fr, fr = (isRp m.f && isEp m.e) := ⟨_, rfl⟩
  rw [← hfr] at HRK
  have HFR := Lib.hid hfr
  clear hfr
  go_cut [3] from 63 to 75 (fun s3 wx => s3 = .bool fr ∧ wx = w6)
  case first =>
    by_cases x1 : m.f < 4
    · by_cases x2 : 1 ≤ m.e
      · by_cases x3 : m.e ≤ 200
        · go_wp2_with fail
          go_meet
          exact ⟨by rw [HFR.out]; first | (simp [isRp, isEp]; done) | (simp [isRp, isEp]; omega), rfl⟩
        · go_wp2_with fail
          go_meet
          exact ⟨by rw [HFR.out]; first | (simp [isRp, isEp]; done) | (simp [isRp, isEp]; omega), rfl⟩
      · go_wp2_with fail
        go_meet
        exact ⟨by rw [HFR.out]; first | (simp [isRp, isEp]; done) | (simp [isRp, isEp]; omega), rfl⟩
    · go_wp2_with fail
      go_meet
      exact ⟨by rw [HFR.out]; first | (simp [isRp, isEp]; done) | (simp [isRp, isEp]; omega), rfl⟩
  case rest =>
    obtain ⟨rfl, hwc⟩ := hcut
    obtain rfl := hwc.symm
    clear HFR
    cases fr with
    | false =>
      go_wp2_with fail
      exact bodyPost_ret (v := .bool false) (by simp [results, Tryz.results11, go_sem]) rfl ⟨by rw [HRK.out]; first | (simp; done) | (simp; omega), ht HB hS HWS⟩
    | true =>
      by_cases c1 : m.t < 4
      · have C1 := Lib.hid c1
        by_cases c2 : m.sq ≤ 1073741824
        · have C2 := Lib.hid c2
          by_cases c3 : m.pg ≤ 8
          · have C3 := Lib.hid c3
            go_wp2_with fail
            exact bodyPost_ret (v := .bool true) (by simp [results, Tryz.results11, go_sem]) rfl ⟨by have t1 := C1.out; have t2 := C2.out; have t3 := C3.out; rw [HRK.out]; first | (simp; done) | (simp; omega), ht HB hS HWS⟩
          · have C3 := Lib.hid c3
            go_wp2_with fail
            exact bodyPost_ret (v := .bool false) (by have t := C3.out; simp [results, Tryz.results11, go_sem] <;> omega) rfl ⟨by have t1 := C1.out; have t2 := C2.out; have t3 := C3.out; rw [HRK.out]; first | (simp; done) | (simp; omega), ht HB hS HWS⟩
        · have C2 := Lib.hid c2
          go_wp2_with fail
          exact bodyPost_ret (v := .bool false) (by simp [results, Tryz.results11, go_sem]) rfl ⟨by have t1 := C1.out; have t2 := C2.out; rw [HRK.out]; first | (simp; done) | (simp; omega), ht HB hS HWS⟩
      · have C1 := Lib.hid c1
        go_wp2_with fail
        exact bodyPost_ret (v := .bool false) (by simp [results, Tryz.results11, go_sem]) rfl ⟨by have t1 := C1.out; rw [HRK.out]; first | (simp; done) | (simp; omega), ht HB hS HWS⟩

set_option maxHeartbeats 8000000 in
theorem refIs_k12 (w : World) (m : Mg) (c : Mc) (hm : MgAt w m c) (hok : ∀ x ∈ c.vs, (∀ y ∈ x.2.p, 0 ≤ y.s ∧ y.rq.ok) ∧ ∀ y ∈ x.2.q, 0 ≤ y.s ∧ y.rq.ok) (hl : m.vs.n ≤ 4 ∧ m.sm.n ≤ 8 ∧ m.dt.n ≤ 64 ∧ m.vt.ms.n ≤ 40 ∧ m.vt.p.n ≤ 40 ∧ m.vt.q.n ≤ 40) (hk : m.k = 12) (hv : fitVsB c.vs m.vw = true) (hs : sameM m c (m.bare (partsOf m.k)) (c.bare (partsOf m.k)) = true) : Calls Tryz.prog 11 #[.agg m.cells.toArray] w fun e w' => e = .returned (.bool (isM m c)) ∧ Below w.heap.size w w' := by
  obtain ⟨W, hW, hbx, hbl, q22, q23, q24, q19, q20, q21, q0, d0, d1, d2, d3, d4, d5, hws, hmW, HC1, HC2, HC3, hld, hk0⟩ := rk_pre w m c hm hok hl
  obtain ⟨l0, l1, l2, l3, l4, l5⟩ := hl
  have HLD := Lib.hid hld
  have HK0 := Lib.hid hk0
  have HBX := Lib.hid hbx
  have HW := Lib.hid hW
  have HB := Lib.hid hbl
  have HWS := Lib.hid hws
  have HM := Lib.hid hmW
  obtain ⟨r, hr⟩ : ∃ r, r = isM m c := ⟨_, rfl⟩
  rw [← hr]
  rw [isM_k12 hk hs] at hr
  have HRK := Lib.hid hr
  clear hr
  have HQ_k0 := Lib.hid (hq (show W.cell? ⟨w.heap.size, 0, none⟩ = some (.int .u8 m.k) from cell_box hbx 0))
  have HQ_f := Lib.hid (hq (show W.cell? ⟨w.heap.size, 1, none⟩ = some (.int .u8 m.f) from cell_box hbx 1))
  have HQ_t := Lib.hid (hq (show W.cell? ⟨w.heap.size, 2, none⟩ = some (.int .u8 m.t) from cell_box hbx 2))
  have HQ_e := Lib.hid (hq (show W.cell? ⟨w.heap.size, 3, none⟩ = some (.int .u8 m.e) from cell_box hbx 3))
  have HQ_sq := Lib.hid (hq (show W.cell? ⟨w.heap.size, 5, none⟩ = some (.int .u32 m.sq) from cell_box hbx 5))
  have HQ_sm := Lib.hid (hq (show W.cell? ⟨w.heap.size, 23, none⟩ = some (.slice m.sm.a m.sm.n m.sm.c) from cell_box hbx 23))
  have HKH := Lib.hid hk
  have HVH := Lib.hid hv
  have HSH := Lib.hid hs
  generalize hkm : m.k = kk at *
  have HKM := Lib.hid hkm
  clear hkm
  generalize hsb : sameM m c (m.bare (partsOf kk)) (c.bare (partsOf kk)) = sb at *
  have HSB := Lib.hid hsb
  generalize hvb : fitVsB c.vs m.vw = vb at *
  have HVB := Lib.hid hvb
  clear hk hv hs hsb hvb hW hbx hbl hws hmW hld hk0 hm hok l0 l1 l2 l3 l4 l5
  generalize (m.bare (partsOf kk)).cells.toArray = BA at *
  generalize m.cells.toArray = A at *
  generalize m.vs.n = n0 at *
  generalize m.sm.n = n1 at *
  generalize m.dt.n = n2 at *
  generalize m.vt.ms.n = n3 at *
  generalize m.vt.p.n = n4 at *
  generalize m.vt.q.n = n5 at *
  go_enter Tryz.func11, Tryz.ntmps11
  go_upto_region 1 with fail
  rw [← HW.out]
  go_upto_region 3 with fail
  have hkk : kk = 12 := HKH.out
  subst hkk
  have e1 : ¬ (12 : Int) < 1 := by omega
  have e2 : ¬ (14 : Int) < 12 := by omega
  have C1 := Lib.hid (fun wx h => by have q := HC1.out wx h; rwa [show vb = true from HVH.out] at q)
  have C3 := Lib.hid (fun wx h => by have q := HC3.out wx h; rwa [show sb = true from HSH.out] at q)
  refine wp_region_held_drew (S := fun wx => Below W.heap.size W wx) (by kernel_rfl) (((Below.refl W.heap.size W).drew)) (fun hS => ?_)
  refine tg 0 (.pointer (some ⟨w.heap.size, 0, none⟩)) rfl hS ?_
  refine tk 1 (.int .u8 12) rfl (yi_load 5 (.tmp 43) (.pointer (some ⟨w.heap.size, 0, none⟩)) rfl rfl rfl (fun wq hw => by have q := HK0.out wq hw; go_simp)) hS ?_
  refine tg 2 (.bool false) rfl hS ?_
  refine tm 3 (.bool false) rfl hS ?_
  refine tg 4 (.pointer (some ⟨w.heap.size, 0, none⟩)) rfl hS ?_
  refine tk 5 (.int .u8 12) rfl (yi_load 5 (.tmp 47) (.pointer (some ⟨w.heap.size, 0, none⟩)) rfl rfl rfl (fun wq hw => by have q := HK0.out wq hw; go_simp)) hS ?_
  refine tg 6 (.bool false) rfl hS ?_
  refine tm 7 (.bool false) rfl hS ?_
  refine tm 8 (.bool false) rfl hS ?_
  refine tk 9 (.agg A) rfl (yi_load 37 (.tmp 1) (.pointer (some ⟨w.heap.size, 0, none⟩)) rfl rfl rfl (fun wq hw => HLD.out wq hw)) hS ?_
  refine rdy1 10 rfl (fun K hK => ?_)
  rw [if_pos (by rfl)]
  go_simp
  refine Calls.mono (C1.out _ hS) ?_
  rintro e w4 ⟨rfl, b4⟩
  have h4 : Below W.heap.size W w4 := hS.trans (b4.mono hS.size)
  refine hK.out _ _ (h4) (fun hS => ?_)
  clear hK K
  refine tm 11 (.bool false) rfl hS ?_
  refine tm 12 (.bool false) rfl hS ?_
  refine tm 13 (.bool false) rfl hS ?_
  refine tk 14 (.agg A) rfl (yi_load 37 (.tmp 1) (.pointer (some ⟨w.heap.size, 0, none⟩)) rfl rfl rfl (fun wq hw => HLD.out wq hw)) hS ?_
  refine tk 15 (.agg A) rfl (yi_load 37 (.tmp 1) (.pointer (some ⟨w.heap.size, 0, none⟩)) rfl rfl rfl (fun wq hw => HLD.out wq hw)) hS ?_
  refine rdy1 16 rfl (fun K hK => ?_)
  rw [if_pos (by rfl)]
  go_simp
  refine Calls.mono (HC2.out _) ?_
  rintro e w5 ⟨rfl, b5⟩
  have h5 : Below W.heap.size W w5 := hS.trans (b5.mono hS.size)
  refine hK.out _ _ (h5) (fun hS => ?_)
  clear hK K
  refine rdy1 17 rfl (fun K hK => ?_)
  rw [if_pos (by rfl)]
  go_simp
  refine Calls.mono (C3.out _ hS) ?_
  rintro e w6 ⟨rfl, b6⟩
  have h6 : Below W.heap.size W w6 := hS.trans (b6.mono hS.size)
  refine hK.out _ _ (h6) (fun hS => ?_)
  clear hK K
  refine tm 18 (.bool false) rfl hS ?_
  refine tm 19 (.bool false) rfl hS ?_
  refine wpAnyH_done (by kernel_rfl) ?_ _
  clear q0 q22 q23 q24 q19 q20 q21
  have qk0 := (HQ_k0.out w6 hS)
  have qf := (HQ_f.out w6 hS)
  have qt := (HQ_t.out w6 hS)
  have qe := (HQ_e.out w6 hS)
  have qsq := (HQ_sq.out w6 hS)
  have qsm := (HQ_sm.out w6 hS)
  go_upto_region 5 with fail
  obtain ⟨fr, hfr⟩ : ∃ fr, fr = (isRp m.f && isEp m.e) := ⟨_, rfl⟩
  rw [← hfr] at HRK
  have HFR := Lib.hid hfr
  clear hfr
  go_cut [3] from 63 to 75 (fun s3 wx => s3 = .bool fr ∧ wx = w6)
  case first =>
    by_cases x1 : m.f < 4
    · by_cases x2 : 1 ≤ m.e
      · by_cases x3 : m.e ≤ 200
        · go_wp2_with fail
          go_meet
          exact ⟨by rw [HFR.out]; first | (simp [isRp, isEp]; done) | (simp [isRp, isEp]; omega), rfl⟩
        · go_wp2_with fail
          go_meet
          exact ⟨by rw [HFR.out]; first | (simp [isRp, isEp]; done) | (simp [isRp, isEp]; omega), rfl⟩
      · go_wp2_with fail
        go_meet
        exact ⟨by rw [HFR.out]; first | (simp [isRp, isEp]; done) | (simp [isRp, isEp]; omega), rfl⟩
    · go_wp2_with fail
      go_meet
      exact ⟨by rw [HFR.out]; first | (simp [isRp, isEp]; done) | (simp [isRp, isEp]; omega), rfl⟩
  case rest =>
    obtain ⟨rfl, hwc⟩ := hcut
    obtain rfl := hwc.symm
    clear HFR
    cases fr with
    | false =>
      go_wp2_with fail
      exact bodyPost_ret (v := .bool false) (by simp [results, Tryz.results11, go_sem]) rfl ⟨by rw [HRK.out]; first | (simp; done) | (simp; omega), ht HB hS HWS⟩
    | true =>
      by_cases c1 : m.t < 4
      · have C1 := Lib.hid c1
        by_cases c2 : m.sq ≤ 1073741824
        · have C2 := Lib.hid c2
          have hn1 : ((n1 : Int) = 8) = (n1 = 8) := by simp; omega
          by_cases c3 : n1 = 8
          · have C3 := Lib.hid c3
            go_wp2_with fail
            exact bodyPost_ret (v := .bool true) (by simp [results, Tryz.results11, go_sem]) rfl ⟨by have t1 := C1.out; have t2 := C2.out; have t3 := C3.out; rw [HRK.out]; first | (simp; done) | (simp; omega), ht HB hS HWS⟩
          · have C3 := Lib.hid c3
            go_wp2_with fail
            exact bodyPost_ret (v := .bool false) (by have t := C3.out; simp [results, Tryz.results11, go_sem] <;> omega) rfl ⟨by have t1 := C1.out; have t2 := C2.out; have t3 := C3.out; rw [HRK.out]; first | (simp; done) | (simp; omega), ht HB hS HWS⟩
        · have C2 := Lib.hid c2
          go_wp2_with fail
          exact bodyPost_ret (v := .bool false) (by simp [results, Tryz.results11, go_sem]) rfl ⟨by have t1 := C1.out; have t2 := C2.out; rw [HRK.out]; first | (simp; done) | (simp; omega), ht HB hS HWS⟩
      · have C1 := Lib.hid c1
        go_wp2_with fail
        exact bodyPost_ret (v := .bool false) (by simp [results, Tryz.results11, go_sem]) rfl ⟨by have t1 := C1.out; rw [HRK.out]; first | (simp; done) | (simp; omega), ht HB hS HWS⟩

set_option maxHeartbeats 8000000 in
theorem refIs_k13 (w : World) (m : Mg) (c : Mc) (hm : MgAt w m c) (hok : ∀ x ∈ c.vs, (∀ y ∈ x.2.p, 0 ≤ y.s ∧ y.rq.ok) ∧ ∀ y ∈ x.2.q, 0 ≤ y.s ∧ y.rq.ok) (hl : m.vs.n ≤ 4 ∧ m.sm.n ≤ 8 ∧ m.dt.n ≤ 64 ∧ m.vt.ms.n ≤ 40 ∧ m.vt.p.n ≤ 40 ∧ m.vt.q.n ≤ 40) (hk : m.k = 13) (hv : fitVsB c.vs m.vw = true) (hs : sameM m c (m.bare (partsOf m.k)) (c.bare (partsOf m.k)) = true) : Calls Tryz.prog 11 #[.agg m.cells.toArray] w fun e w' => e = .returned (.bool (isM m c)) ∧ Below w.heap.size w w' := by
  obtain ⟨W, hW, hbx, hbl, q22, q23, q24, q19, q20, q21, q0, d0, d1, d2, d3, d4, d5, hws, hmW, HC1, HC2, HC3, hld, hk0⟩ := rk_pre w m c hm hok hl
  obtain ⟨l0, l1, l2, l3, l4, l5⟩ := hl
  have HLD := Lib.hid hld
  have HK0 := Lib.hid hk0
  have HBX := Lib.hid hbx
  have HW := Lib.hid hW
  have HB := Lib.hid hbl
  have HWS := Lib.hid hws
  have HM := Lib.hid hmW
  obtain ⟨r, hr⟩ : ∃ r, r = isM m c := ⟨_, rfl⟩
  rw [← hr]
  rw [isM_k13 hk l2 hs] at hr
  have HRK := Lib.hid hr
  clear hr
  have HQ_k0 := Lib.hid (hq (show W.cell? ⟨w.heap.size, 0, none⟩ = some (.int .u8 m.k) from cell_box hbx 0))
  have HQ_f := Lib.hid (hq (show W.cell? ⟨w.heap.size, 1, none⟩ = some (.int .u8 m.f) from cell_box hbx 1))
  have HQ_t := Lib.hid (hq (show W.cell? ⟨w.heap.size, 2, none⟩ = some (.int .u8 m.t) from cell_box hbx 2))
  have HQ_e := Lib.hid (hq (show W.cell? ⟨w.heap.size, 3, none⟩ = some (.int .u8 m.e) from cell_box hbx 3))
  have HQ_sq := Lib.hid (hq (show W.cell? ⟨w.heap.size, 5, none⟩ = some (.int .u32 m.sq) from cell_box hbx 5))
  have HQ_pg := Lib.hid (hq (show W.cell? ⟨w.heap.size, 13, none⟩ = some (.int .u8 m.pg) from cell_box hbx 13))
  have HKH := Lib.hid hk
  have HVH := Lib.hid hv
  have HSH := Lib.hid hs
  generalize hkm : m.k = kk at *
  have HKM := Lib.hid hkm
  clear hkm
  generalize hsb : sameM m c (m.bare (partsOf kk)) (c.bare (partsOf kk)) = sb at *
  have HSB := Lib.hid hsb
  generalize hvb : fitVsB c.vs m.vw = vb at *
  have HVB := Lib.hid hvb
  clear hk hv hs hsb hvb hW hbx hbl hws hmW hld hk0 hm hok l0 l1 l2 l3 l4 l5
  generalize (m.bare (partsOf kk)).cells.toArray = BA at *
  generalize m.cells.toArray = A at *
  generalize m.vs.n = n0 at *
  generalize m.sm.n = n1 at *
  generalize m.dt.n = n2 at *
  generalize m.vt.ms.n = n3 at *
  generalize m.vt.p.n = n4 at *
  generalize m.vt.q.n = n5 at *
  go_enter Tryz.func11, Tryz.ntmps11
  go_upto_region 1 with fail
  rw [← HW.out]
  go_upto_region 3 with fail
  have hkk : kk = 13 := HKH.out
  subst hkk
  have e1 : ¬ (13 : Int) < 1 := by omega
  have e2 : ¬ (14 : Int) < 13 := by omega
  have C1 := Lib.hid (fun wx h => by have q := HC1.out wx h; rwa [show vb = true from HVH.out] at q)
  have C3 := Lib.hid (fun wx h => by have q := HC3.out wx h; rwa [show sb = true from HSH.out] at q)
  refine wp_region_held_drew (S := fun wx => Below W.heap.size W wx) (by kernel_rfl) (((Below.refl W.heap.size W).drew)) (fun hS => ?_)
  refine tg 0 (.pointer (some ⟨w.heap.size, 0, none⟩)) rfl hS ?_
  refine tk 1 (.int .u8 13) rfl (yi_load 5 (.tmp 43) (.pointer (some ⟨w.heap.size, 0, none⟩)) rfl rfl rfl (fun wq hw => by have q := HK0.out wq hw; go_simp)) hS ?_
  refine tg 2 (.bool false) rfl hS ?_
  refine tm 3 (.bool false) rfl hS ?_
  refine tg 4 (.pointer (some ⟨w.heap.size, 0, none⟩)) rfl hS ?_
  refine tk 5 (.int .u8 13) rfl (yi_load 5 (.tmp 47) (.pointer (some ⟨w.heap.size, 0, none⟩)) rfl rfl rfl (fun wq hw => by have q := HK0.out wq hw; go_simp)) hS ?_
  refine tg 6 (.bool false) rfl hS ?_
  refine tm 7 (.bool false) rfl hS ?_
  refine tm 8 (.bool false) rfl hS ?_
  refine tk 9 (.agg A) rfl (yi_load 37 (.tmp 1) (.pointer (some ⟨w.heap.size, 0, none⟩)) rfl rfl rfl (fun wq hw => HLD.out wq hw)) hS ?_
  refine rdy1 10 rfl (fun K hK => ?_)
  rw [if_pos (by rfl)]
  go_simp
  refine Calls.mono (C1.out _ hS) ?_
  rintro e w4 ⟨rfl, b4⟩
  have h4 : Below W.heap.size W w4 := hS.trans (b4.mono hS.size)
  refine hK.out _ _ (h4) (fun hS => ?_)
  clear hK K
  refine tm 11 (.bool false) rfl hS ?_
  refine tm 12 (.bool false) rfl hS ?_
  refine tm 13 (.bool false) rfl hS ?_
  refine tk 14 (.agg A) rfl (yi_load 37 (.tmp 1) (.pointer (some ⟨w.heap.size, 0, none⟩)) rfl rfl rfl (fun wq hw => HLD.out wq hw)) hS ?_
  refine tk 15 (.agg A) rfl (yi_load 37 (.tmp 1) (.pointer (some ⟨w.heap.size, 0, none⟩)) rfl rfl rfl (fun wq hw => HLD.out wq hw)) hS ?_
  refine rdy1 16 rfl (fun K hK => ?_)
  rw [if_pos (by rfl)]
  go_simp
  refine Calls.mono (HC2.out _) ?_
  rintro e w5 ⟨rfl, b5⟩
  have h5 : Below W.heap.size W w5 := hS.trans (b5.mono hS.size)
  refine hK.out _ _ (h5) (fun hS => ?_)
  clear hK K
  refine rdy1 17 rfl (fun K hK => ?_)
  rw [if_pos (by rfl)]
  go_simp
  refine Calls.mono (C3.out _ hS) ?_
  rintro e w6 ⟨rfl, b6⟩
  have h6 : Below W.heap.size W w6 := hS.trans (b6.mono hS.size)
  refine hK.out _ _ (h6) (fun hS => ?_)
  clear hK K
  refine tm 18 (.bool false) rfl hS ?_
  refine tm 19 (.bool false) rfl hS ?_
  refine wpAnyH_done (by kernel_rfl) ?_ _
  clear q0 q22 q23 q24 q19 q20 q21
  have qk0 := (HQ_k0.out w6 hS)
  have qf := (HQ_f.out w6 hS)
  have qt := (HQ_t.out w6 hS)
  have qe := (HQ_e.out w6 hS)
  have qsq := (HQ_sq.out w6 hS)
  have qpg := (HQ_pg.out w6 hS)
  go_upto_region 5 with fail
  obtain ⟨fr, hfr⟩ : ∃ fr, fr = (isRp m.f && isEp m.e) := ⟨_, rfl⟩
  rw [← hfr] at HRK
  have HFR := Lib.hid hfr
  clear hfr
  go_cut [3] from 63 to 75 (fun s3 wx => s3 = .bool fr ∧ wx = w6)
  case first =>
    by_cases x1 : m.f < 4
    · by_cases x2 : 1 ≤ m.e
      · by_cases x3 : m.e ≤ 200
        · go_wp2_with fail
          go_meet
          exact ⟨by rw [HFR.out]; first | (simp [isRp, isEp]; done) | (simp [isRp, isEp]; omega), rfl⟩
        · go_wp2_with fail
          go_meet
          exact ⟨by rw [HFR.out]; first | (simp [isRp, isEp]; done) | (simp [isRp, isEp]; omega), rfl⟩
      · go_wp2_with fail
        go_meet
        exact ⟨by rw [HFR.out]; first | (simp [isRp, isEp]; done) | (simp [isRp, isEp]; omega), rfl⟩
    · go_wp2_with fail
      go_meet
      exact ⟨by rw [HFR.out]; first | (simp [isRp, isEp]; done) | (simp [isRp, isEp]; omega), rfl⟩
  case rest =>
    obtain ⟨rfl, hwc⟩ := hcut
    obtain rfl := hwc.symm
    clear HFR
    cases fr with
    | false =>
      go_wp2_with fail
      exact bodyPost_ret (v := .bool false) (by simp [results, Tryz.results11, go_sem]) rfl ⟨by rw [HRK.out]; first | (simp; done) | (simp; omega), ht HB hS HWS⟩
    | true =>
      by_cases c1 : m.t < 4
      · have C1 := Lib.hid c1
        by_cases c2 : m.sq ≤ 1073741824
        · have C2 := Lib.hid c2
          by_cases c3 : m.pg < 8
          · have C3 := Lib.hid c3
            go_wp2_with fail
            exact bodyPost_ret (v := .bool true) (by simp [results, Tryz.results11, go_sem]) rfl ⟨by have t1 := C1.out; have t2 := C2.out; have t3 := C3.out; rw [HRK.out]; first | (simp; done) | (simp; omega), ht HB hS HWS⟩
          · have C3 := Lib.hid c3
            go_wp2_with fail
            exact bodyPost_ret (v := .bool false) (by have t := C3.out; simp [results, Tryz.results11, go_sem] <;> omega) rfl ⟨by have t1 := C1.out; have t2 := C2.out; have t3 := C3.out; rw [HRK.out]; first | (simp; done) | (simp; omega), ht HB hS HWS⟩
        · have C2 := Lib.hid c2
          go_wp2_with fail
          exact bodyPost_ret (v := .bool false) (by simp [results, Tryz.results11, go_sem]) rfl ⟨by have t1 := C1.out; have t2 := C2.out; rw [HRK.out]; first | (simp; done) | (simp; omega), ht HB hS HWS⟩
      · have C1 := Lib.hid c1
        go_wp2_with fail
        exact bodyPost_ret (v := .bool false) (by simp [results, Tryz.results11, go_sem]) rfl ⟨by have t1 := C1.out; rw [HRK.out]; first | (simp; done) | (simp; omega), ht HB hS HWS⟩

set_option maxHeartbeats 8000000 in
theorem refIs_k14 (w : World) (m : Mg) (c : Mc) (hm : MgAt w m c) (hok : ∀ x ∈ c.vs, (∀ y ∈ x.2.p, 0 ≤ y.s ∧ y.rq.ok) ∧ ∀ y ∈ x.2.q, 0 ≤ y.s ∧ y.rq.ok) (hl : m.vs.n ≤ 4 ∧ m.sm.n ≤ 8 ∧ m.dt.n ≤ 64 ∧ m.vt.ms.n ≤ 40 ∧ m.vt.p.n ≤ 40 ∧ m.vt.q.n ≤ 40) (hk : m.k = 14) (hf : 0 ≤ m.t ∧ m.t ≤ 255) (hv : fitVsB c.vs m.vw = true) (hs : sameM m c (m.bare (partsOf m.k)) (c.bare (partsOf m.k)) = true) : Calls Tryz.prog 11 #[.agg m.cells.toArray] w fun e w' => e = .returned (.bool (isM m c)) ∧ Below w.heap.size w w' := by
  obtain ⟨W, hW, hbx, hbl, q22, q23, q24, q19, q20, q21, q0, d0, d1, d2, d3, d4, d5, hws, hmW, HC1, HC2, HC3, hld, hk0⟩ := rk_pre w m c hm hok hl
  obtain ⟨l0, l1, l2, l3, l4, l5⟩ := hl
  have HLD := Lib.hid hld
  have HK0 := Lib.hid hk0
  have HBX := Lib.hid hbx
  have HW := Lib.hid hW
  have HB := Lib.hid hbl
  have HWS := Lib.hid hws
  have HM := Lib.hid hmW
  obtain ⟨r, hr⟩ : ∃ r, r = isM m c := ⟨_, rfl⟩
  rw [← hr]
  rw [isM_k14 hk hf hs] at hr
  have HRK := Lib.hid hr
  clear hr
  have HQ_k0 := Lib.hid (hq (show W.cell? ⟨w.heap.size, 0, none⟩ = some (.int .u8 m.k) from cell_box hbx 0))
  have HQ_f := Lib.hid (hq (show W.cell? ⟨w.heap.size, 1, none⟩ = some (.int .u8 m.f) from cell_box hbx 1))
  have HQ_t := Lib.hid (hq (show W.cell? ⟨w.heap.size, 2, none⟩ = some (.int .u8 m.t) from cell_box hbx 2))
  have HQ_e := Lib.hid (hq (show W.cell? ⟨w.heap.size, 3, none⟩ = some (.int .u8 m.e) from cell_box hbx 3))
  have HQ_sq := Lib.hid (hq (show W.cell? ⟨w.heap.size, 5, none⟩ = some (.int .u32 m.sq) from cell_box hbx 5))
  have HQ_vw := Lib.hid (hq (show W.cell? ⟨w.heap.size, 4, none⟩ = some (.int .u32 m.vw) from cell_box hbx 4))
  have HQ_rc := Lib.hid (hq (show W.cell? ⟨w.heap.size, 6, none⟩ = some (.int .u8 m.rq.c) from cell_box hbx 6))
  have HQ_rt := Lib.hid (hq (show W.cell? ⟨w.heap.size, 7, none⟩ = some (.int .u32 m.rq.t) from cell_box hbx 7))
  have HQ_rk := Lib.hid (hq (show W.cell? ⟨w.heap.size, 8, none⟩ = some (.int .u8 m.rq.k) from cell_box hbx 8))
  have HQ_ry := Lib.hid (hq (show W.cell? ⟨w.heap.size, 9, none⟩ = some (.int .u8 m.rq.y) from cell_box hbx 9))
  have HQ_rv := Lib.hid (hq (show W.cell? ⟨w.heap.size, 10, none⟩ = some (.int .u16 m.rq.v) from cell_box hbx 10))
  have HKH := Lib.hid hk
  have HVH := Lib.hid hv
  have HSH := Lib.hid hs
  generalize hkm : m.k = kk at *
  have HKM := Lib.hid hkm
  clear hkm
  generalize hsb : sameM m c (m.bare (partsOf kk)) (c.bare (partsOf kk)) = sb at *
  have HSB := Lib.hid hsb
  generalize hvb : fitVsB c.vs m.vw = vb at *
  have HVB := Lib.hid hvb
  clear hk hv hs hf hsb hvb hW hbx hbl hws hmW hld hk0 hm hok l0 l1 l2 l3 l4 l5
  generalize (m.bare (partsOf kk)).cells.toArray = BA at *
  generalize m.cells.toArray = A at *
  generalize m.vs.n = n0 at *
  generalize m.sm.n = n1 at *
  generalize m.dt.n = n2 at *
  generalize m.vt.ms.n = n3 at *
  generalize m.vt.p.n = n4 at *
  generalize m.vt.q.n = n5 at *
  go_enter Tryz.func11, Tryz.ntmps11
  go_upto_region 1 with fail
  rw [← HW.out]
  go_upto_region 3 with fail
  have hkk : kk = 14 := HKH.out
  subst hkk
  have e1 : ¬ (14 : Int) < 1 := by omega
  have e2 : ¬ (14 : Int) < 14 := by omega
  have C1 := Lib.hid (fun wx h => by have q := HC1.out wx h; rwa [show vb = true from HVH.out] at q)
  have C3 := Lib.hid (fun wx h => by have q := HC3.out wx h; rwa [show sb = true from HSH.out] at q)
  refine wp_region_held_drew (S := fun wx => Below W.heap.size W wx) (by kernel_rfl) (((Below.refl W.heap.size W).drew)) (fun hS => ?_)
  refine tg 0 (.pointer (some ⟨w.heap.size, 0, none⟩)) rfl hS ?_
  refine tk 1 (.int .u8 14) rfl (yi_load 5 (.tmp 43) (.pointer (some ⟨w.heap.size, 0, none⟩)) rfl rfl rfl (fun wq hw => by have q := HK0.out wq hw; go_simp)) hS ?_
  refine tg 2 (.bool false) rfl hS ?_
  refine tm 3 (.bool false) rfl hS ?_
  refine tg 4 (.pointer (some ⟨w.heap.size, 0, none⟩)) rfl hS ?_
  refine tk 5 (.int .u8 14) rfl (yi_load 5 (.tmp 47) (.pointer (some ⟨w.heap.size, 0, none⟩)) rfl rfl rfl (fun wq hw => by have q := HK0.out wq hw; go_simp)) hS ?_
  refine tg 6 (.bool false) rfl hS ?_
  refine tm 7 (.bool false) rfl hS ?_
  refine tm 8 (.bool false) rfl hS ?_
  refine tk 9 (.agg A) rfl (yi_load 37 (.tmp 1) (.pointer (some ⟨w.heap.size, 0, none⟩)) rfl rfl rfl (fun wq hw => HLD.out wq hw)) hS ?_
  refine rdy1 10 rfl (fun K hK => ?_)
  rw [if_pos (by rfl)]
  go_simp
  refine Calls.mono (C1.out _ hS) ?_
  rintro e w4 ⟨rfl, b4⟩
  have h4 : Below W.heap.size W w4 := hS.trans (b4.mono hS.size)
  refine hK.out _ _ (h4) (fun hS => ?_)
  clear hK K
  refine tm 11 (.bool false) rfl hS ?_
  refine tm 12 (.bool false) rfl hS ?_
  refine tm 13 (.bool false) rfl hS ?_
  refine tk 14 (.agg A) rfl (yi_load 37 (.tmp 1) (.pointer (some ⟨w.heap.size, 0, none⟩)) rfl rfl rfl (fun wq hw => HLD.out wq hw)) hS ?_
  refine tk 15 (.agg A) rfl (yi_load 37 (.tmp 1) (.pointer (some ⟨w.heap.size, 0, none⟩)) rfl rfl rfl (fun wq hw => HLD.out wq hw)) hS ?_
  refine rdy1 16 rfl (fun K hK => ?_)
  rw [if_pos (by rfl)]
  go_simp
  refine Calls.mono (HC2.out _) ?_
  rintro e w5 ⟨rfl, b5⟩
  have h5 : Below W.heap.size W w5 := hS.trans (b5.mono hS.size)
  refine hK.out _ _ (h5) (fun hS => ?_)
  clear hK K
  refine rdy1 17 rfl (fun K hK => ?_)
  rw [if_pos (by rfl)]
  go_simp
  refine Calls.mono (C3.out _ hS) ?_
  rintro e w6 ⟨rfl, b6⟩
  have h6 : Below W.heap.size W w6 := hS.trans (b6.mono hS.size)
  refine hK.out _ _ (h6) (fun hS => ?_)
  clear hK K
  refine tm 18 (.bool false) rfl hS ?_
  refine tm 19 (.bool false) rfl hS ?_
  refine wpAnyH_done (by kernel_rfl) ?_ _
  clear q0 q22 q23 q24 q19 q20 q21
  have qk0 := (HQ_k0.out w6 hS)
  have qf := (HQ_f.out w6 hS)
  have qt := (HQ_t.out w6 hS)
  have qe := (HQ_e.out w6 hS)
  have qsq := (HQ_sq.out w6 hS)
  have qvw := (HQ_vw.out w6 hS)
  have qrc := (HQ_rc.out w6 hS)
  have qrt := (HQ_rt.out w6 hS)
  have qrk := (HQ_rk.out w6 hS)
  have qry := (HQ_ry.out w6 hS)
  have qrv := (HQ_rv.out w6 hS)
  go_upto_region 5 with fail
  obtain ⟨fr, hfr⟩ : ∃ fr, fr = (isRp m.f && isEp m.e) := ⟨_, rfl⟩
  rw [← hfr] at HRK
  have HFR := Lib.hid hfr
  clear hfr
  go_cut [3] from 63 to 75 (fun s3 wx => s3 = .bool fr ∧ wx = w6)
  case first =>
    by_cases x1 : m.f < 4
    · by_cases x2 : 1 ≤ m.e
      · by_cases x3 : m.e ≤ 200
        · go_wp2_with fail
          go_meet
          exact ⟨by rw [HFR.out]; first | (simp [isRp, isEp]; done) | (simp [isRp, isEp]; omega), rfl⟩
        · go_wp2_with fail
          go_meet
          exact ⟨by rw [HFR.out]; first | (simp [isRp, isEp]; done) | (simp [isRp, isEp]; omega), rfl⟩
      · go_wp2_with fail
        go_meet
        exact ⟨by rw [HFR.out]; first | (simp [isRp, isEp]; done) | (simp [isRp, isEp]; omega), rfl⟩
    · go_wp2_with fail
      go_meet
      exact ⟨by rw [HFR.out]; first | (simp [isRp, isEp]; done) | (simp [isRp, isEp]; omega), rfl⟩
  case rest =>
    obtain ⟨rfl, hwc⟩ := hcut
    obtain rfl := hwc.symm
    clear HFR
    cases fr with
    | false =>
      go_wp2_with fail
      exact bodyPost_ret (v := .bool false) (by simp [results, Tryz.results11, go_sem]) rfl ⟨by rw [HRK.out]; first | (simp; done) | (simp; omega), ht HB hS HWS⟩
    | true =>
      have CL := Lib.hid (refClient_any (m.t) w6)
      go_wp2_with fail
      refine CL.out.mono ?_
      rintro e w8 ⟨rfl, e1⟩
      obtain rfl := e1.symm
      clear CL e1
      have hcl : (decide (11 ≤ m.t) && decide (m.t ≤ 14)) = cl (m.t) := rfl
      rw [hcl]
      clear hcl
      generalize cl (m.t) = bc at *
      cases bc with
      | false =>
        go_wp2_with fail
        exact bodyPost_ret (v := .bool false) (by simp [results, Tryz.results11, go_sem]) rfl ⟨by rw [HRK.out]; first | (simp; done) | (simp; omega), ht HB hS HWS⟩
      | true =>
        by_cases c2 : m.vw ≤ 1048576
        · have C2 := Lib.hid c2
          have RQ := Lib.hid (refIsReq_any m.rq w6)
          simp only [Rq.cells] at RQ
          go_wp2_with fail
          refine RQ.out.mono ?_
          rintro e w10 ⟨rfl, b7⟩
          have hw10 := hS.trans (b7.mono hS.size)
          clear RQ b7
          clear qk0 qf qt qe qsq qvw qrc qrt qrk qry qrv
          have qk0 := (HQ_k0.out w10 hw10)
          have qf := (HQ_f.out w10 hw10)
          have qt := (HQ_t.out w10 hw10)
          have qe := (HQ_e.out w10 hw10)
          have qsq := (HQ_sq.out w10 hw10)
          have qvw := (HQ_vw.out w10 hw10)
          have qrc := (HQ_rc.out w10 hw10)
          have qrt := (HQ_rt.out w10 hw10)
          have qrk := (HQ_rk.out w10 hw10)
          have qry := (HQ_ry.out w10 hw10)
          have qrv := (HQ_rv.out w10 hw10)
          generalize m.rq.is = bb3 at *
          cases bb3 with
          | false =>
            go_wp2_with fail
            exact bodyPost_ret (v := .bool false) (by simp [results, Tryz.results11, go_sem]) rfl ⟨by have t2 := C2.out; rw [HRK.out]; first | (simp; done) | (simp; omega), ht HB hw10 HWS⟩
          | true =>
            have RQ := Lib.hid (refNull_any m.rq w10)
            simp only [Rq.cells] at RQ
            go_wp2_with fail
            refine RQ.out.mono ?_
            rintro e w11 ⟨rfl, b7⟩
            have hw11 := hw10.trans (b7.mono hw10.size)
            clear RQ b7
            clear qk0 qf qt qe qsq qvw qrc qrt qrk qry qrv
            have qk0 := (HQ_k0.out w11 hw11)
            have qf := (HQ_f.out w11 hw11)
            have qt := (HQ_t.out w11 hw11)
            have qe := (HQ_e.out w11 hw11)
            have qsq := (HQ_sq.out w11 hw11)
            have qvw := (HQ_vw.out w11 hw11)
            have qrc := (HQ_rc.out w11 hw11)
            have qrt := (HQ_rt.out w11 hw11)
            have qrk := (HQ_rk.out w11 hw11)
            have qry := (HQ_ry.out w11 hw11)
            have qrv := (HQ_rv.out w11 hw11)
            generalize decide (m.rq = Rq.zero) = bb4 at *
            cases bb4 with
            | true =>
              go_wp2_with fail
              exact bodyPost_ret (v := .bool false) (by simp [results, Tryz.results11, go_sem]) rfl ⟨by have t2 := C2.out; rw [HRK.out]; first | (simp; done) | (simp; omega), ht HB hw11 HWS⟩
            | false =>
              have hw8 : ∀ x : Int, IntKind.u8.wrap x = x % 256 := fun _ => rfl
              by_cases c5 : m.rq.c = (m.t - 10) % 256
              · have C5 := Lib.hid c5
                go_wp2_with fail
                exact bodyPost_ret (v := .bool true) (by simp [results, Tryz.results11, go_sem]) rfl ⟨by have t2 := C2.out; have t5 := C5.out; rw [HRK.out]; first | (simp; done) | (simp; omega), ht HB hw11 HWS⟩
              · have C5 := Lib.hid c5
                go_wp2_with fail
                exact bodyPost_ret (v := .bool false) (by have t := C5.out; simp [results, Tryz.results11, go_sem] <;> omega) rfl ⟨by have t2 := C2.out; have t5 := C5.out; rw [HRK.out]; first | (simp; done) | (simp; omega), ht HB hw11 HWS⟩
        · have C2 := Lib.hid c2
          go_wp2_with fail
          exact bodyPost_ret (v := .bool false) (by simp [results, Tryz.results11, go_sem]) rfl ⟨by have t2 := C2.out; rw [HRK.out]; first | (simp; done) | (simp; omega), ht HB hS HWS⟩

theorem isM_same {m : Mg} {c : Mc} (h : isM m c = true) : sameM m c (m.bare (partsOf m.k)) (c.bare (partsOf m.k)) = true := by
  unfold isM isB at h
  simp only [Bool.and_eq_true] at h
  exact h.2.2.1
theorem isM_range {m : Mg} {c : Mc} (h : isM m c = true) : 1 ≤ m.k ∧ m.k ≤ 14 := by
  by_cases hk : 1 ≤ m.k ∧ m.k ≤ 14
  · exact hk
  · have e : partsOf m.k = [] := by
      unfold partsOf
      rw [if_neg (by omega), if_neg (by omega), if_neg (by omega), if_neg (by omega), if_neg (by omega), if_neg (by omega), if_neg (by omega), if_neg (by omega), if_neg (by omega), if_neg (by omega), if_neg (by omega), if_neg (by omega), if_neg (by omega), if_neg (by omega)]
    unfold isM isB at h
    rw [e] at h
    simp at h
/-- what a message of the kind hasn't is empty -/
theorem same_none {m : Mg} {c : Mc} (h : sameM m c (m.bare (partsOf m.k)) (c.bare (partsOf m.k)) = true) (hk : 1 ≤ m.k ∧ m.k ≤ 14) :
    (m.k ≠ 6 → c.vt.ms = [] ∧ c.vt.p = [] ∧ c.vt.q = []) ∧ (m.k ≠ 7 → c.vs = []) ∧ (m.k ≠ 12 → c.sm = []) ∧ (m.k ≠ 13 → c.dt = []) := by
  unfold sameM sameV sameVs at h
  simp only [Bool.and_eq_true, decide_eq_true_eq] at h
  obtain ⟨-, ⟨-, -, -, -, s1, s2, s3⟩, ⟨s4, -⟩, s5, s6⟩ := h
  have s4' : (c.bare (partsOf m.k)).vs = [] → c.vs = [] := fun e => by rw [e] at s4; exact List.eq_nil_of_length_eq_zero s4
  rcases (by omega : m.k = 1 ∨ m.k = 2 ∨ m.k = 3 ∨ m.k = 4 ∨ m.k = 5 ∨ m.k = 6 ∨ m.k = 7 ∨ m.k = 8 ∨ m.k = 9 ∨ m.k = 10 ∨ m.k = 11 ∨ m.k = 12 ∨ m.k = 13 ∨ m.k = 14) with hk | hk | hk | hk | hk | hk | hk | hk | hk | hk | hk | hk | hk | hk
  · have e : partsOf m.k = [2] := by rw [hk]; rfl
    rw [e] at s1 s2 s3 s4' s5 s6
    refine ⟨fun h => ⟨s1, s2, s3⟩, fun h => s4' rfl, fun h => s5, fun h => s6⟩
  · have e : partsOf m.k = [0, 1, 2] := by rw [hk]; rfl
    rw [e] at s1 s2 s3 s4' s5 s6
    refine ⟨fun h => ⟨s1, s2, s3⟩, fun h => s4' rfl, fun h => s5, fun h => s6⟩
  · have e : partsOf m.k = [0, 1, 2] := by rw [hk]; rfl
    rw [e] at s1 s2 s3 s4' s5 s6
    refine ⟨fun h => ⟨s1, s2, s3⟩, fun h => s4' rfl, fun h => s5, fun h => s6⟩
  · have e : partsOf m.k = [0, 1, 2] := by rw [hk]; rfl
    rw [e] at s1 s2 s3 s4' s5 s6
    refine ⟨fun h => ⟨s1, s2, s3⟩, fun h => s4' rfl, fun h => s5, fun h => s6⟩
  · have e : partsOf m.k = [1, 3] := by rw [hk]; rfl
    rw [e] at s1 s2 s3 s4' s5 s6
    refine ⟨fun h => ⟨s1, s2, s3⟩, fun h => s4' rfl, fun h => s5, fun h => s6⟩
  · have e : partsOf m.k = [7] := by rw [hk]; rfl
    rw [e] at s1 s2 s3 s4' s5 s6
    refine ⟨fun h => absurd hk h, fun h => s4' rfl, fun h => s5, fun h => s6⟩
  · have e : partsOf m.k = [0, 8] := by rw [hk]; rfl
    rw [e] at s1 s2 s3 s4' s5 s6
    refine ⟨fun h => ⟨s1, s2, s3⟩, fun h => absurd hk h, fun h => s5, fun h => s6⟩
  · have e : partsOf m.k = [4] := by rw [hk]; rfl
    rw [e] at s1 s2 s3 s4' s5 s6
    refine ⟨fun h => ⟨s1, s2, s3⟩, fun h => s4' rfl, fun h => s5, fun h => s6⟩
  · have e : partsOf m.k = [4] := by rw [hk]; rfl
    rw [e] at s1 s2 s3 s4' s5 s6
    refine ⟨fun h => ⟨s1, s2, s3⟩, fun h => s4' rfl, fun h => s5, fun h => s6⟩
  · have e : partsOf m.k = [4, 1] := by rw [hk]; rfl
    rw [e] at s1 s2 s3 s4' s5 s6
    refine ⟨fun h => ⟨s1, s2, s3⟩, fun h => s4' rfl, fun h => s5, fun h => s6⟩
  · have e : partsOf m.k = [1, 5] := by rw [hk]; rfl
    rw [e] at s1 s2 s3 s4' s5 s6
    refine ⟨fun h => ⟨s1, s2, s3⟩, fun h => s4' rfl, fun h => s5, fun h => s6⟩
  · have e : partsOf m.k = [1, 9] := by rw [hk]; rfl
    rw [e] at s1 s2 s3 s4' s5 s6
    refine ⟨fun h => ⟨s1, s2, s3⟩, fun h => s4' rfl, fun h => absurd hk h, fun h => s6⟩
  · have e : partsOf m.k = [1, 5, 10] := by rw [hk]; rfl
    rw [e] at s1 s2 s3 s4' s5 s6
    refine ⟨fun h => ⟨s1, s2, s3⟩, fun h => s4' rfl, fun h => s5, fun h => absurd hk h⟩
  · have e : partsOf m.k = [0, 2, 6] := by rw [hk]; rfl
    rw [e] at s1 s2 s3 s4' s5 s6
    refine ⟨fun h => ⟨s1, s2, s3⟩, fun h => s4' rfl, fun h => s5, fun h => s6⟩
theorem isM_lens {w : World} {m : Mg} {c : Mc} (hm : MgAt w m c) (h : isM m c = true) : m.vs.n ≤ 4 ∧ m.sm.n ≤ 8 ∧ m.dt.n ≤ 64 ∧ m.vt.ms.n ≤ 40 ∧ m.vt.p.n ≤ 40 ∧ m.vt.q.n ≤ 40 := by
  have hk := isM_range h
  have n1 : m.vs.n = c.vs.length := by obtain ⟨a, k, e, _⟩ := hm.vs.1; simp only [Sl.val, Value.slice.injEq] at e; exact e.2.1
  have n2 : m.sm.n = c.sm.length := by obtain ⟨a, k, e, _⟩ := hm.sm; simp only [Sl.val, Value.slice.injEq] at e; exact e.2.1
  have n3 := hm.dt.1
  have n4 : m.vt.ms.n = c.vt.ms.length := by obtain ⟨a, k, e, _⟩ := hm.vt.1; simp only [Sl.val, Value.slice.injEq] at e; exact e.2.1
  have n5 : m.vt.p.n = c.vt.p.length := by obtain ⟨a, k, e, _⟩ := hm.vt.2.1; simp only [Sl.val, Value.slice.injEq] at e; exact e.2.1
  have n6 : m.vt.q.n = c.vt.q.length := by obtain ⟨a, k, e, _⟩ := hm.vt.2.2; simp only [Sl.val, Value.slice.injEq] at e; exact e.2.1
  obtain ⟨h6, h7, h12, h13⟩ := same_none (isM_same h) hk
  have few : c.vt.few := by
    by_cases k6 : m.k = 6
    · exact isM_7 h (by rw [k6]; decide)
    · obtain ⟨a, b, d⟩ := h6 k6
      unfold Vc.few
      rw [a, b, d]; simp
  have v4 : c.vs.length ≤ 4 := by
    by_cases k7 : m.k = 7
    · exact (isM_8 h (by rw [k7]; decide)).1
    · rw [h7 k7]; simp
  have s8 : c.sm.length ≤ 8 := by
    by_cases k12 : m.k = 12
    · have := isM_9 hm h (by rw [k12]; decide)
      omega
    · rw [h12 k12]; simp
  have d64 : c.dt.length ≤ 64 := by
    by_cases k13 : m.k = 13
    · exact isM_10 hm h (by rw [k13]; decide)
    · rw [h13 k13]; simp
  obtain ⟨f1, f2, f3⟩ := few
  omega
theorem isM_votes {m : Mg} {c : Mc} (h : isM m c = true) : fitVsB c.vs m.vw = true := by
  by_cases k7 : m.k = 7
  · have := isM_fit h (p := 8) (by rw [k7]; decide)
    simpa [fitB] using this
  · rw [(same_none (isM_same h) (isM_range h)).2.1 k7]
    rfl

theorem refIs_any (w : World) (m : Mg) (c : Mc) (hm : MgAt w m c) (hok : ∀ x ∈ c.vs, (∀ y ∈ x.2.p, 0 ≤ y.s ∧ y.rq.ok) ∧ ∀ y ∈ x.2.q, 0 ≤ y.s ∧ y.rq.ok) (hvo : (∀ y ∈ c.vt.p, 0 ≤ y.s ∧ y.rq.ok) ∧ ∀ y ∈ c.vt.q, 0 ≤ y.s ∧ y.rq.ok)
    (hf : 0 ≤ m.f ∧ m.f ≤ 255) (ht : 0 ≤ m.t ∧ m.t ≤ 255) : Calls Tryz.prog 11 #[.agg m.cells.toArray] w fun e w' => e = .returned (.bool (isM m c)) ∧ Below w.heap.size w w' := by
  have no : ¬ isM m c = true → isM m c = false := Bool.eq_false_iff.2
  by_cases h0 : m.vs.n ≤ 4
  · by_cases h1 : m.sm.n ≤ 8
    · by_cases h2 : m.dt.n ≤ 64
      · by_cases h3 : m.vt.ms.n ≤ 40
        · by_cases h4 : m.vt.p.n ≤ 40
          · by_cases h5 : m.vt.q.n ≤ 40
            · have hl : m.vs.n ≤ 4 ∧ m.sm.n ≤ 8 ∧ m.dt.n ≤ 64 ∧ m.vt.ms.n ≤ 40 ∧ m.vt.p.n ≤ 40 ∧ m.vt.q.n ≤ 40 := ⟨h0, h1, h2, h3, h4, h5⟩
              by_cases hlo : m.k < 1
              · rw [no (fun h => by have := isM_range h; omega)]
                exact refIs_lo w m c hm hok hl hlo
              by_cases hhi : 14 < m.k
              · rw [no (fun h => by have := isM_range h; omega)]
                exact refIs_hi w m c hm hok hl hhi
              have hk : 1 ≤ m.k ∧ m.k ≤ 14 := by omega
              cases hv : fitVsB c.vs m.vw with
              | false =>
                rw [no (fun h => by have := isM_votes h; rw [hv] at this; cases this)]
                exact refIs_votes w m c hm hok hl hk hv
              | true =>
                cases hs : sameM m c (m.bare (partsOf m.k)) (c.bare (partsOf m.k)) with
                | false =>
                  rw [no (fun h => by have := isM_same h; rw [hs] at this; cases this)]
                  exact refIs_same w m c hm hok hl hk hv hs
                | true =>
                  rcases (by omega : m.k = 1 ∨ m.k = 2 ∨ m.k = 3 ∨ m.k = 4 ∨ m.k = 5 ∨ m.k = 6 ∨ m.k = 7 ∨ m.k = 8 ∨ m.k = 9 ∨ m.k = 10 ∨ m.k = 11 ∨ m.k = 12 ∨ m.k = 13 ∨ m.k = 14) with e | e | e | e | e | e | e | e | e | e | e | e | e | e
                  · exact refIs_k1 w m c hm hok hl e hf hv hs
                  · exact refIs_k2 w m c hm hok hl e hv hs
                  · exact refIs_k3 w m c hm hok hl e hv hs
                  · exact refIs_k4 w m c hm hok hl e hv hs
                  · exact refIs_k5 w m c hm hok hl e hv hs
                  · exact refIs_k6 w m c hm hok hl e hvo hv hs
                  · exact refIs_k7 w m c hm hok hl e hv hs
                  · exact refIs_k8 w m c hm hok hl e hv hs
                  · exact refIs_k9 w m c hm hok hl e hv hs
                  · exact refIs_k10 w m c hm hok hl e hv hs
                  · exact refIs_k11 w m c hm hok hl e hv hs
                  · exact refIs_k12 w m c hm hok hl e hv hs
                  · exact refIs_k13 w m c hm hok hl e hv hs
                  · exact refIs_k14 w m c hm hok hl e ht hv hs
            · rw [no (fun h => by have := isM_lens hm h; omega)]
              exact refIs_long5 w m h0 h1 h2 h3 h4 (by omega)
          · rw [no (fun h => by have := isM_lens hm h; omega)]
            exact refIs_long4 w m h0 h1 h2 h3 (by omega)
        · rw [no (fun h => by have := isM_lens hm h; omega)]
          exact refIs_long3 w m h0 h1 h2 (by omega)
      · rw [no (fun h => by have := isM_lens hm h; omega)]
        exact refIs_long2 w m h0 h1 (by omega)
    · rw [no (fun h => by have := isM_lens hm h; omega)]
      exact refIs_long1 w m h0 (by omega)
  · rw [no (fun h => by have := isM_lens hm h; omega)]
    exact refIs_long0 w m (by omega)

theorem own_lit (w : World) (l : List Int) (n : Nat) (hn : l.length = n) (hm : n ≤ maxLen) : (w.alloc (.cells (vals l).toArray 5)).ownsRow 0 5 1 (.slice (some ⟨w.heap.size, 0, none⟩) n n) n (vals l) := by
  have hl : (vals l).length = n := by simp [vals, hn]
  refine ⟨by rw [hl, Nat.mul_one], .inr ⟨w.heap.size, n, (vals l).toArray, rfl, Nat.zero_le _, heap_alloc_new _ _, Nat.le_refl _, hm, by simp [hl], ?_⟩⟩
  rw [Nat.mul_one, List.take_of_length_le (by simp [hl])]
theorem bytes_block {w : World} {g : Nat} {l : List Int} (h : w.heap[g]? = some (.cells (vals l).toArray 5 (0, 0))) : Bytes w (some ⟨g, 0, none⟩) l := fun i hi => by
  refine ⟨_, rfl, ?_⟩
  rw [Addr.add_mid, Nat.zero_add, cell_of_row w g i _ 5 (0, 0) h]
  simp [vals, List.getElem?_eq_getElem hi, List.getD_eq_getElem?_getD]
/-- what the message's cells are, out of its block -/
theorem mg_cell {wx : World} {E : Nat} {m : Mg} (h : wx.heap[E]? = some (.cells m.cells.toArray 37 (0, 0))) (i : Nat) : wx.cell? ⟨E, i, none⟩ = m.cells[i]? := cell_box h i
theorem mg_rq {wx : World} {E : Nat} {m : Mg} (h : wx.heap[E]? = some (.cells m.cells.toArray 37 (0, 0))) : (Instr.loadAt 27 (.pointer (some ⟨E, 6, none⟩))).run Tryz.prog wx = .ok (.agg m.rq.cells.toArray) wx :=
  rqm_load (fun i u hu => by
    rw [mg_cell h (6 + i)]
    have hi : i < 5 := by have := (List.getElem?_eq_some_iff.1 hu).1; simpa [Rq.cells] using this
    rcases (by omega : i = 0 ∨ i = 1 ∨ i = 2 ∨ i = 3 ∨ i = 4) with rfl | rfl | rfl | rfl | rfl <;> exact hu)
theorem GR.new {H : Nat} {w w2 wx : World} {g n0 n c : Nat} {ao : Option Addr} {l : List Int} (h : GR w2 (.slice (some ⟨g, 0, none⟩) n0 n0) wx ao n c l) (hn : n = l.length) (hg : H ≤ g) (hH : H ≤ w2.heap.size) (hb : Below H w w2) : New H wx ao c l ∧ Below H w wx := by
  subst hn
  refine ⟨⟨h.own, fun ad e => ?_⟩, hb.trans (h.kept.below hH (fun k e => by simp [Value.ownBlock] at e; omega))⟩
  subst e
  rcases h.grew with e | ⟨k, e, hk⟩
  · simp [Value.ownBlock] at e; omega
  · simp [Value.ownBlock] at e; omega

set_option maxHeartbeats 8000000 in
theorem refEnc_k1 (w : World) (m : Mg) (c : Mc) (hm : MgAt w m c) (hok : ∀ x ∈ c.vs, (∀ y ∈ x.2.p, 0 ≤ y.s ∧ y.rq.ok) ∧ ∀ y ∈ x.2.q, 0 ≤ y.s ∧ y.rq.ok) (hvo : (∀ y ∈ c.vt.p, 0 ≤ y.s ∧ y.rq.ok) ∧ ∀ y ∈ c.vt.q, 0 ≤ y.s ∧ y.rq.ok)
    (hf : 0 ≤ m.f ∧ m.f ≤ 255) (ht : 0 ≤ m.t ∧ m.t ≤ 255) (hg : ((0 ≤ m.vw ∧ m.vw ≤ 4294967295) ∧ (0 ≤ m.sq ∧ m.sq ≤ 4294967295) ∧ (0 ≤ m.rs ∧ m.rs ≤ 4294967295) ∧ m.rq.ok ∧ VtR m.vt c.vt ∧ (∀ x ∈ c.vs, VtR x.1 x.2) ∧ (∀ x ∈ c.sm, 0 ≤ x ∧ x ≤ 18446744073709551615))) (hk : m.k = 1) (hi : isM m c = true) :
    Calls Tryz.prog 9 #[.agg m.cells.toArray] w fun e w' => ∃ ao z, e = .returned (.tuple #[.slice ao (encM m c).length z, .int .i64 0]) ∧ New w.heap.size w' ao z (encM m c) ∧ Below w.heap.size w w' := by
  obtain ⟨W, hW⟩ : ∃ W, W = w.alloc (.cells m.cells.toArray 37) := ⟨_, rfl⟩
  have hbx := bx1 hW
  have hbl := bl1 hW
  have hs : W.heap.size = w.heap.size + 1 := by rw [hW]; simp
  have IS := refIs_any W m c (hm.below hbl) hok hvo hf ht
  rw [hi] at IS
  have IS := Lib.hid IS
  have HM := Lib.hid hm
  have HI := Lib.hid hi
  have HG := Lib.hid hg
  have HK := Lib.hid hk
  have HW := Lib.hid hW
  have HBX := Lib.hid hbx
  have HBL := Lib.hid hbl
  have HSZ := Lib.hid hs
  have hwvw : IntKind.u64.wrap m.vw = m.vw := by rw [IntKind.wrap_u64]; omega
  have hwsq : IntKind.u64.wrap m.sq = m.sq := by rw [IntKind.wrap_u64]; omega
  have hwrs : IntKind.u64.wrap m.rs = m.rs := by rw [IntKind.wrap_u64]; omega
  clear hm hok hvo hf ht hg hk hi hW hbx hbl hs
  obtain ⟨A, hA⟩ : ∃ A, A = m.cells.toArray := ⟨_, rfl⟩
  rw [← hA] at IS HW ⊢
  have HA := Lib.hid hA
  clear hA
  go_enter Tryz.func9, Tryz.ntmps9
  go_upto_region 1 with fail
  rw [← HW.out]
  refine wp_region_lit ?_
  refine wpList_load_row rfl 37 (.tmp 1) rfl w.heap.size rfl 37 A (0, 0) _ (by rw [HA.out]; exact HBX.out) Tryz.underlying37 rfl (by rw [HA.out]; exact size37) ?_
  dsimp only
  go_wp2_with fail
  refine IS.out.mono ?_
  rintro e w1 ⟨rfl, b1⟩
  have hb1 : w1.heap[w.heap.size]? = some (.cells m.cells.toArray 37 (0, 0)) := by rw [b1.block _ (by have := HSZ.out; omega)]; exact HBX.out
  have k0 : w1.cell? ⟨w.heap.size, 0, none⟩ = some (.int .u8 1) := by rw [mg_cell hb1 0, ← HK.out]; rfl
  have k1 : w1.cell? ⟨w.heap.size, 1, none⟩ = some (.int .u8 m.f) := by rw [mg_cell hb1 1]; rfl
  have k2 : w1.cell? ⟨w.heap.size, 2, none⟩ = some (.int .u8 m.t) := by rw [mg_cell hb1 2]; rfl
  have k3 : w1.cell? ⟨w.heap.size, 3, none⟩ = some (.int .u8 m.e) := by rw [mg_cell hb1 3]; rfl
  have HB1 := Lib.hid (And.intro b1 hb1)
  have B2 : Below w1.heap.size w1 (w1.alloc (.cells #[.int .u8 1, .int .u8 m.f, .int .u8 m.t, .int .u8 m.e] 5)) := (Below.refl _ _).alloc (Nat.le_refl _) _
  have O2 : (w1.alloc (.cells #[.int .u8 1, .int .u8 m.f, .int .u8 m.t, .int .u8 m.e] 5)).ownsRow 0 5 1 (.slice (some ⟨w1.heap.size, 0, none⟩) 4 4) 4 (vals [(1 : Int), m.f, m.t, m.e]) := own_lit w1 [(1 : Int), m.f, m.t, m.e] 4 rfl (by decide)
  have H2 := Lib.hid (And.intro B2 O2)
  clear b1 hb1 B2 O2 IS
  go_upto_region 4 with fail
  obtain ⟨w2, hw2⟩ : ∃ w2, w2 = w1.alloc (.cells #[.int .u8 1, .int .u8 m.f, .int .u8 m.t, .int .u8 m.e] 5) := ⟨_, rfl⟩
  rw [← hw2] at H2 ⊢
  have hs2 : w2.heap.size = w1.heap.size + 1 := by rw [hw2]; simp
  clear k0 k1 k2 k3 hw2
  have G0 := GR.start H2.out.2
  have BX := Lib.hid (fun wx a n' c' l' (g : GR w2 (.slice (some ⟨w1.heap.size, 0, none⟩) 4 4) wx a n' c' l') => show wx.heap[w.heap.size]? = some (.cells m.cells.toArray 37 (0, 0)) by
    have h1 := HB1.out.1.size
    have h2 := HSZ.out
    rw [g.block (by omega) (by simp [Value.ownBlock]; omega), H2.out.1.block _ (by omega)]
    exact HB1.out.2)
  have k0 : w2.cell? ⟨w.heap.size, 0, none⟩ = some (.int .u8 1) := by rw [mg_cell (BX.out _ _ _ _ _ G0) 0, ← HK.out]; rfl
  have HS2 := Lib.hid hs2
  have HG0 := Lib.hid G0
  clear hs2
  obtain ⟨g0, hg0⟩ : ∃ g0, g0 = w1.heap.size := ⟨_, rfl⟩
  rw [← hg0] at G0 BX HG0 H2 ⊢
  have HG0E := Lib.hid hg0
  clear hg0
  go_upto_region 6 with fail
  have q6 : w2.cell? ⟨w.heap.size, 6, none⟩ = some (.int .u8 m.rq.c) := (mg_cell (BX.out _ _ _ _ _ G0) 6).trans rfl
  have q7 : w2.cell? ⟨w.heap.size, 7, none⟩ = some (.int .u32 m.rq.t) := (mg_cell (BX.out _ _ _ _ _ G0) 7).trans rfl
  have q8 : w2.cell? ⟨w.heap.size, 8, none⟩ = some (.int .u8 m.rq.k) := (mg_cell (BX.out _ _ _ _ _ G0) 8).trans rfl
  have q9 : w2.cell? ⟨w.heap.size, 9, none⟩ = some (.int .u8 m.rq.y) := (mg_cell (BX.out _ _ _ _ _ G0) 9).trans rfl
  have q10 : w2.cell? ⟨w.heap.size, 10, none⟩ = some (.int .u16 m.rq.v) := (mg_cell (BX.out _ _ _ _ _ G0) 10).trans rfl
  have RC := refReq_any HG0.out.own m.rq HG.out.2.2.2.1 (by decide)
  simp only [Rq.cells, Nat.reduceAdd] at RC
  have RC := Lib.hid RC
  clear G0 k0
  go_wp2_with fail
  refine RC.out.mono ?_
  rintro e v1 ⟨a1, z1, rfl, R1⟩
  have MM := Lib.hid (HG0.out.trans R1)
  clear R1 RC
  go_wp2_with fail
  have hE : encM m c = [(1 : Int), m.f, m.t, m.e] ++ m.rq.bytes := by
    unfold encM encUp
    rw [HK.out]
    simp [partsOf, partY, wordB, Rq.bytes]
  have q := MM.out
  obtain ⟨qn, qb⟩ := q.new (H := w.heap.size) (w := w) (by simp [Rq.bytes, b4, b2]) (by have := HG0E.out; have := HB1.out.1.size; have := HSZ.out; omega) (by have := HS2.out; have := HB1.out.1.size; have := HSZ.out; omega) ((HBL.out.trans (HB1.out.1.mono HBL.out.size)).trans (H2.out.1.mono (by have := HG0E.out; have := HB1.out.1.size; have := HSZ.out; omega)))
  rw [hE]
  refine bodyPost_ret (v := .tuple #[.slice _ 13 _, .int .i64 0]) (by simp [results, Tryz.results9, go_sem]; exact ⟨rfl, rfl⟩) rfl ⟨_, _, by rw [show ([(1 : Int), m.f, m.t, m.e] ++ m.rq.bytes).length = 13 by simp [Rq.bytes, b4, b2]], qn, qb⟩
end Go.Proofs.YtbpfkeeikhhlnaaGreatDoor
