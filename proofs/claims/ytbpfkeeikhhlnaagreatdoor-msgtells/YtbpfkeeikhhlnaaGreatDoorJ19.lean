/- The document's Is, kind by kind. The document's Is, kind by kind. The document's Is, kind by kind. The document's Is, kind by kind. -/
import Derived.Test.YtbpfkeeikhhlnaaGreatDoorJ17
namespace Go.Proofs.YtbpfkeeikhhlnaaGreatDoor
open Go.RowKit
set_option maxRecDepth 100000

set_option maxHeartbeats 8000000 in
theorem refIs_k6 (w : World) (m : Mg) (c : Mc) (hm : MgAt w m c) (hok : ∀ x ∈ c.vs, (∀ y ∈ x.2.p, 0 ≤ y.s ∧ y.rq.ok) ∧ ∀ y ∈ x.2.q, 0 ≤ y.s ∧ y.rq.ok) (hl : m.vs.n ≤ 4 ∧ m.sm.n ≤ 8 ∧ m.dt.n ≤ 64 ∧ m.vt.ms.n ≤ 40 ∧ m.vt.p.n ≤ 40 ∧ m.vt.q.n ≤ 40) (hk : m.k = 6) (hvo : (∀ y ∈ c.vt.p, 0 ≤ y.s ∧ y.rq.ok) ∧ ∀ y ∈ c.vt.q, 0 ≤ y.s ∧ y.rq.ok) (hv : fitVsB c.vs m.vw = true) (hs : sameM m c (m.bare (partsOf m.k)) (c.bare (partsOf m.k)) = true) : Calls Tryz.prog 11 #[.agg m.cells.toArray] w fun e w' => e = .returned (.bool (isM m c)) ∧ Below w.heap.size w w' := by
  obtain ⟨W, hW⟩ : ∃ W, W = w.alloc (.cells m.cells.toArray 37) := ⟨_, rfl⟩
  have hbx : W.heap[w.heap.size]? = some (.cells m.cells.toArray 37 (0, 0)) := by rw [hW]; exact heap_alloc_new _ _
  have hbl : Below w.heap.size w W := by rw [hW]; exact (Below.refl _ _).alloc (Nat.le_refl _) _
  have q22 : W.cell? ⟨w.heap.size, 22, none⟩ = some (.slice m.vs.a m.vs.n m.vs.c) := cell_box hbx 22
  have q23 : W.cell? ⟨w.heap.size, 23, none⟩ = some (.slice m.sm.a m.sm.n m.sm.c) := cell_box hbx 23
  have q24 : W.cell? ⟨w.heap.size, 24, none⟩ = some (.slice m.dt.a m.dt.n m.dt.c) := cell_box hbx 24
  have q19 : W.cell? ⟨w.heap.size, 19, none⟩ = some (.slice m.vt.ms.a m.vt.ms.n m.vt.ms.c) := cell_box hbx 19
  have q20 : W.cell? ⟨w.heap.size, 20, none⟩ = some (.slice m.vt.p.a m.vt.p.n m.vt.p.c) := cell_box hbx 20
  have q21 : W.cell? ⟨w.heap.size, 21, none⟩ = some (.slice m.vt.q.a m.vt.q.n m.vt.q.c) := cell_box hbx 21
  have q0 : W.cell? ⟨w.heap.size, 0, none⟩ = some (.int .u8 m.k) := cell_box hbx 0
  obtain ⟨l0, l1, l2, l3, l4, l5⟩ := hl
  have d0 : decide (4 < (m.vs.n : Int)) = false := by rw [decide_eq_false_iff_not]; omega
  have d1 : decide (8 < (m.sm.n : Int)) = false := by rw [decide_eq_false_iff_not]; omega
  have d2 : decide (64 < (m.dt.n : Int)) = false := by rw [decide_eq_false_iff_not]; omega
  have d3 : decide (40 < (m.vt.ms.n : Int)) = false := by rw [decide_eq_false_iff_not]; omega
  have d4 : decide (40 < (m.vt.p.n : Int)) = false := by rw [decide_eq_false_iff_not]; omega
  have d5 : decide (40 < (m.vt.q.n : Int)) = false := by rw [decide_eq_false_iff_not]; omega
  have hws : W.heap.size = w.heap.size + 1 := by rw [hW]; simp
  have hmW := hm.below hbl
  have HC1 := Lib.hid (fun wx (h : Below W.heap.size W wx) => refVotes_any wx m c (hmW.below h) hok)
  have HC2 := Lib.hid (fun wx => refBare_any wx m)
  have HC3 := Lib.hid (fun wx (h : Below W.heap.size W wx) => refSame_any wx m (m.bare (partsOf m.k)) c (c.bare (partsOf m.k)) (hmW.below h) ((hmW.below h).bare _ (partsOf_le m.k)))
  have hld : ∀ wx, Below W.heap.size W wx → (Instr.loadAt 37 (.pointer (some ⟨w.heap.size, 0, none⟩))).run Tryz.prog wx = .ok (.agg m.cells.toArray) wx := fun wx h => by
    have hb : wx.heap[w.heap.size]? = some (.cells m.cells.toArray 37 (0, 0)) := by rw [h.block _ (by omega)]; exact hbx
    simp only [Instr.loadAt, Instr.sureAddr, Sem.run_bind, Sem.run_pure, Result.andThen_ok, run_loadVar_row (P := Tryz.prog) wx w.heap.size 37 37 m.cells.toArray (0, 0) _ hb Tryz.underlying37 rfl (by kernel_rfl)]
  have HLD := Lib.hid hld
  have hk0 : ∀ wx, Below W.heap.size W wx → wx.cell? ⟨w.heap.size, 0, none⟩ = some (.int .u8 m.k) := fun wx h => by rw [h.cell (cell_block q0)]; exact q0
  have HK0 := Lib.hid hk0
  have HBX := Lib.hid hbx
  have HW := Lib.hid hW
  have HB := Lib.hid hbl
  have HWS := Lib.hid hws
  have HM := Lib.hid hmW
  obtain ⟨r, hr⟩ : ∃ r, r = isM m c := ⟨_, rfl⟩
  rw [← hr]
  rw [isM_k6 hk hs] at hr
  have HRK := Lib.hid hr
  clear hr
  have HQ_k0 := Lib.hid (fun wx (h : Below W.heap.size W wx) => show wx.cell? ⟨w.heap.size, 0, none⟩ = some (.int .u8 m.k) by
    have q : W.cell? ⟨w.heap.size, 0, none⟩ = some (.int .u8 m.k) := cell_box hbx 0
    rw [h.cell (cell_block q)]; exact q)
  have HQ_f := Lib.hid (fun wx (h : Below W.heap.size W wx) => show wx.cell? ⟨w.heap.size, 1, none⟩ = some (.int .u8 m.f) by
    have q : W.cell? ⟨w.heap.size, 1, none⟩ = some (.int .u8 m.f) := cell_box hbx 1
    rw [h.cell (cell_block q)]; exact q)
  have HQ_t := Lib.hid (fun wx (h : Below W.heap.size W wx) => show wx.cell? ⟨w.heap.size, 2, none⟩ = some (.int .u8 m.t) by
    have q : W.cell? ⟨w.heap.size, 2, none⟩ = some (.int .u8 m.t) := cell_box hbx 2
    rw [h.cell (cell_block q)]; exact q)
  have HQ_e := Lib.hid (fun wx (h : Below W.heap.size W wx) => show wx.cell? ⟨w.heap.size, 3, none⟩ = some (.int .u8 m.e) by
    have q : W.cell? ⟨w.heap.size, 3, none⟩ = some (.int .u8 m.e) := cell_box hbx 3
    rw [h.cell (cell_block q)]; exact q)
  have HQ_sq := Lib.hid (fun wx (h : Below W.heap.size W wx) => show wx.cell? ⟨w.heap.size, 5, none⟩ = some (.int .u32 m.sq) by
    have q : W.cell? ⟨w.heap.size, 5, none⟩ = some (.int .u32 m.sq) := cell_box hbx 5
    rw [h.cell (cell_block q)]; exact q)
  have HQ_vf := Lib.hid (fun wx (h : Below W.heap.size W wx) => show wx.cell? ⟨w.heap.size, 15, none⟩ = some (.int .u8 m.vt.f) by
    have q : W.cell? ⟨w.heap.size, 15, none⟩ = some (.int .u8 m.vt.f) := cell_box hbx 15
    rw [h.cell (cell_block q)]; exact q)
  have HQ_ve := Lib.hid (fun wx (h : Below W.heap.size W wx) => show wx.cell? ⟨w.heap.size, 16, none⟩ = some (.int .u8 m.vt.e) by
    have q : W.cell? ⟨w.heap.size, 16, none⟩ = some (.int .u8 m.vt.e) := cell_box hbx 16
    rw [h.cell (cell_block q)]; exact q)
  have HQ_vv := Lib.hid (fun wx (h : Below W.heap.size W wx) => show wx.cell? ⟨w.heap.size, 17, none⟩ = some (.int .u32 m.vt.vw) by
    have q : W.cell? ⟨w.heap.size, 17, none⟩ = some (.int .u32 m.vt.vw) := cell_box hbx 17
    rw [h.cell (cell_block q)]; exact q)
  have HQ_vl := Lib.hid (fun wx (h : Below W.heap.size W wx) => show wx.cell? ⟨w.heap.size, 18, none⟩ = some (.int .u32 m.vt.lo) by
    have q : W.cell? ⟨w.heap.size, 18, none⟩ = some (.int .u32 m.vt.lo) := cell_box hbx 18
    rw [h.cell (cell_block q)]; exact q)
  have HQ_v4 := Lib.hid (fun wx (h : Below W.heap.size W wx) => show wx.cell? ⟨w.heap.size, 19, none⟩ = some (.slice m.vt.ms.a m.vt.ms.n m.vt.ms.c) by
    have q : W.cell? ⟨w.heap.size, 19, none⟩ = some (.slice m.vt.ms.a m.vt.ms.n m.vt.ms.c) := cell_box hbx 19
    rw [h.cell (cell_block q)]; exact q)
  have HQ_v5 := Lib.hid (fun wx (h : Below W.heap.size W wx) => show wx.cell? ⟨w.heap.size, 20, none⟩ = some (.slice m.vt.p.a m.vt.p.n m.vt.p.c) by
    have q : W.cell? ⟨w.heap.size, 20, none⟩ = some (.slice m.vt.p.a m.vt.p.n m.vt.p.c) := cell_box hbx 20
    rw [h.cell (cell_block q)]; exact q)
  have HQ_v6 := Lib.hid (fun wx (h : Below W.heap.size W wx) => show wx.cell? ⟨w.heap.size, 21, none⟩ = some (.slice m.vt.q.a m.vt.q.n m.vt.q.c) by
    have q : W.cell? ⟨w.heap.size, 21, none⟩ = some (.slice m.vt.q.a m.vt.q.n m.vt.q.c) := cell_box hbx 21
    rw [h.cell (cell_block q)]; exact q)
  have HCV := Lib.hid (fun wx (h : Below W.heap.size W wx) => refIsVote_any wx m.vt c.vt ((hmW.below h).vt) hvo)
  simp only [Vt.cells] at HCV
  generalize hvtb : voteB m.vt c.vt = vtb at *
  have HKH := Lib.hid hk
  have HVH := Lib.hid hv
  have HSH := Lib.hid hs
  generalize hkm : m.k = kk at *
  have HKM := Lib.hid hkm
  clear hkm
  generalize hsb : sameM m c (m.bare (partsOf kk)) (c.bare (partsOf kk)) = sb at *
  have HSB := Lib.hid hsb
  generalize hvb : fitVsB c.vs m.vw = vb at *
  have HVB := Lib.hid hvb
  clear hk hv hs hvo hvtb hsb hvb hW hbx hbl hws hmW hld hk0 hm hok l0 l1 l2 l3 l4 l5
  generalize (m.bare (partsOf kk)).cells.toArray = BA at *
  generalize m.cells.toArray = A at *
  generalize m.vs.n = n0 at *
  generalize m.sm.n = n1 at *
  generalize m.dt.n = n2 at *
  generalize m.vt.ms.n = n3 at *
  generalize m.vt.p.n = n4 at *
  generalize m.vt.q.n = n5 at *
  go_enter Tryz.func11, Tryz.ntmps11
  go_upto_region 1 with fail
  rw [← HW.out]
  go_upto_region 3 with fail
  have hkk : kk = 6 := HKH.out
  subst hkk
  have e1 : ¬ (6 : Int) < 1 := by omega
  have e2 : ¬ (14 : Int) < 6 := by omega
  have C1 := Lib.hid (fun wx h => by have q := HC1.out wx h; rwa [show vb = true from HVH.out] at q)
  have C3 := Lib.hid (fun wx h => by have q := HC3.out wx h; rwa [show sb = true from HSH.out] at q)
  refine wp_region_held_drew (S := fun wx => Below W.heap.size W wx) (by kernel_rfl) (((Below.refl W.heap.size W).drew)) (fun hS => ?_)
  refine tg 0 (.pointer (some ⟨w.heap.size, 0, none⟩)) rfl hS ?_
  refine tk 1 (.int .u8 6) rfl (yi_load 5 (.tmp 43) (.pointer (some ⟨w.heap.size, 0, none⟩)) rfl rfl rfl (fun wq hw => by have q := HK0.out wq hw; go_simp)) hS ?_
  refine tg 2 (.bool false) rfl hS ?_
  refine tm 3 (.bool false) rfl hS ?_
  refine tg 4 (.pointer (some ⟨w.heap.size, 0, none⟩)) rfl hS ?_
  refine tk 5 (.int .u8 6) rfl (yi_load 5 (.tmp 47) (.pointer (some ⟨w.heap.size, 0, none⟩)) rfl rfl rfl (fun wq hw => by have q := HK0.out wq hw; go_simp)) hS ?_
  refine tg 6 (.bool false) rfl hS ?_
  refine tm 7 (.bool false) rfl hS ?_
  refine tm 8 (.bool false) rfl hS ?_
  refine tk 9 (.agg A) rfl (yi_load 37 (.tmp 1) (.pointer (some ⟨w.heap.size, 0, none⟩)) rfl rfl rfl (fun wq hw => HLD.out wq hw)) hS ?_
  refine wpAnyH_ready (rs := [10]) (by kernel_rfl) (by simp) ?_
  refine AllReadyH.cons rfl (fun K hK => ?_) AllReadyH.nil
  rw [if_pos (by rfl)]
  go_simp
  refine Calls.mono (C1.out _ hS) ?_
  rintro e w4 ⟨rfl, b4⟩
  have h4 : Below W.heap.size W w4 := hS.trans (b4.mono hS.size)
  refine hK.out _ _ (h4) (fun hS => ?_)
  clear hK K
  refine tm 11 (.bool false) rfl hS ?_
  refine tm 12 (.bool false) rfl hS ?_
  refine tm 13 (.bool false) rfl hS ?_
  refine tk 14 (.agg A) rfl (yi_load 37 (.tmp 1) (.pointer (some ⟨w.heap.size, 0, none⟩)) rfl rfl rfl (fun wq hw => HLD.out wq hw)) hS ?_
  refine tk 15 (.agg A) rfl (yi_load 37 (.tmp 1) (.pointer (some ⟨w.heap.size, 0, none⟩)) rfl rfl rfl (fun wq hw => HLD.out wq hw)) hS ?_
  refine wpAnyH_ready (rs := [16]) (by kernel_rfl) (by simp) ?_
  refine AllReadyH.cons rfl (fun K hK => ?_) AllReadyH.nil
  rw [if_pos (by rfl)]
  go_simp
  refine Calls.mono (HC2.out _) ?_
  rintro e w5 ⟨rfl, b5⟩
  have h5 : Below W.heap.size W w5 := hS.trans (b5.mono hS.size)
  refine hK.out _ _ (h5) (fun hS => ?_)
  clear hK K
  refine wpAnyH_ready (rs := [17]) (by kernel_rfl) (by simp) ?_
  refine AllReadyH.cons rfl (fun K hK => ?_) AllReadyH.nil
  rw [if_pos (by rfl)]
  go_simp
  refine Calls.mono (C3.out _ hS) ?_
  rintro e w6 ⟨rfl, b6⟩
  have h6 : Below W.heap.size W w6 := hS.trans (b6.mono hS.size)
  refine hK.out _ _ (h6) (fun hS => ?_)
  clear hK K
  refine tm 18 (.bool false) rfl hS ?_
  refine tm 19 (.bool false) rfl hS ?_
  refine wpAnyH_done (by kernel_rfl) ?_ _
  clear q0 q22 q23 q24 q19 q20 q21
  have qk0 := (HQ_k0.out w6 hS)
  have qf := (HQ_f.out w6 hS)
  have qt := (HQ_t.out w6 hS)
  have qe := (HQ_e.out w6 hS)
  have qsq := (HQ_sq.out w6 hS)
  have qvf := (HQ_vf.out w6 hS)
  have qve := (HQ_ve.out w6 hS)
  have qvv := (HQ_vv.out w6 hS)
  have qvl := (HQ_vl.out w6 hS)
  have qv4 := (HQ_v4.out w6 hS)
  have qv5 := (HQ_v5.out w6 hS)
  have qv6 := (HQ_v6.out w6 hS)
  go_upto_region 5 with fail
  obtain ⟨fr, hfr⟩ : ∃ fr, fr = (isRp m.f && isEp m.e) := ⟨_, rfl⟩
  rw [← hfr] at HRK
  have HFR := Lib.hid hfr
  clear hfr
  go_cut [3] from 63 to 75 (fun s3 wx => s3 = .bool fr ∧ wx = w6)
  case first =>
    by_cases x1 : m.f < 4
    · by_cases x2 : 1 ≤ m.e
      · by_cases x3 : m.e ≤ 200
        · go_wp2_with fail
          go_meet
          exact ⟨by rw [HFR.out]; first | (simp [isRp, isEp]; done) | (simp [isRp, isEp]; omega), rfl⟩
        · go_wp2_with fail
          go_meet
          exact ⟨by rw [HFR.out]; first | (simp [isRp, isEp]; done) | (simp [isRp, isEp]; omega), rfl⟩
      · go_wp2_with fail
        go_meet
        exact ⟨by rw [HFR.out]; first | (simp [isRp, isEp]; done) | (simp [isRp, isEp]; omega), rfl⟩
    · go_wp2_with fail
      go_meet
      exact ⟨by rw [HFR.out]; first | (simp [isRp, isEp]; done) | (simp [isRp, isEp]; omega), rfl⟩
  case rest =>
    obtain ⟨rfl, hwc⟩ := hcut
    obtain rfl := hwc.symm
    clear HFR
    cases fr with
    | false =>
      go_wp2_with fail
      exact bodyPost_ret (v := .bool false) (by simp [results, Tryz.results11, go_sem]) rfl ⟨by rw [HRK.out]; first | (simp; done) | (simp; omega), HB.out.trans (hS.mono (by have := HWS.out; omega))⟩
    | true =>
      by_cases c1 : m.t < 4
      · have C1 := Lib.hid c1
        have RQ := Lib.hid (HCV.out w6 hS)
        go_wp2_with fail
        refine RQ.out.mono ?_
        rintro e w9 ⟨rfl, b7⟩
        have hw9 := hS.trans (b7.mono hS.size)
        clear RQ b7
        clear qk0 qf qt qe qsq qvf qve qvv qvl qv4 qv5 qv6
        have qk0 := (HQ_k0.out w9 hw9)
        have qf := (HQ_f.out w9 hw9)
        have qt := (HQ_t.out w9 hw9)
        have qe := (HQ_e.out w9 hw9)
        have qsq := (HQ_sq.out w9 hw9)
        have qvf := (HQ_vf.out w9 hw9)
        have qve := (HQ_ve.out w9 hw9)
        have qvv := (HQ_vv.out w9 hw9)
        have qvl := (HQ_vl.out w9 hw9)
        have qv4 := (HQ_v4.out w9 hw9)
        have qv5 := (HQ_v5.out w9 hw9)
        have qv6 := (HQ_v6.out w9 hw9)
        generalize vtb = bb2 at *
        cases bb2 with
        | false =>
          go_wp2_with fail
          exact bodyPost_ret (v := .bool false) (by simp [results, Tryz.results11, go_sem]) rfl ⟨by have t1 := C1.out; rw [HRK.out]; first | (simp; done) | (simp; omega), HB.out.trans (hw9.mono (by have := HWS.out; omega))⟩
        | true =>
          by_cases c3 : m.vt.f = m.f
          · have C3 := Lib.hid c3
            by_cases c4 : m.vt.e = m.e
            · have C4 := Lib.hid c4
              go_wp2_with fail
              exact bodyPost_ret (v := .bool true) (by simp [results, Tryz.results11, go_sem]) rfl ⟨by have t1 := C1.out; have t3 := C3.out; have t4 := C4.out; rw [HRK.out]; first | (simp; done) | (simp; omega), HB.out.trans (hw9.mono (by have := HWS.out; omega))⟩
            · have C4 := Lib.hid c4
              go_wp2_with fail
              exact bodyPost_ret (v := .bool false) (by have t := C4.out; simp [results, Tryz.results11, go_sem] <;> omega) rfl ⟨by have t1 := C1.out; have t3 := C3.out; have t4 := C4.out; rw [HRK.out]; first | (simp; done) | (simp; omega), HB.out.trans (hw9.mono (by have := HWS.out; omega))⟩
          · have C3 := Lib.hid c3
            go_wp2_with fail
            exact bodyPost_ret (v := .bool false) (by simp [results, Tryz.results11, go_sem]) rfl ⟨by have t1 := C1.out; have t3 := C3.out; rw [HRK.out]; first | (simp; done) | (simp; omega), HB.out.trans (hw9.mono (by have := HWS.out; omega))⟩
      · have C1 := Lib.hid c1
        go_wp2_with fail
        exact bodyPost_ret (v := .bool false) (by simp [results, Tryz.results11, go_sem]) rfl ⟨by have t1 := C1.out; rw [HRK.out]; first | (simp; done) | (simp; omega), HB.out.trans (hS.mono (by have := HWS.out; omega))⟩
end Go.Proofs.YtbpfkeeikhhlnaaGreatDoor
namespace Go.Proofs.YtbpfkeeikhhlnaaGreatDoor
open Go.RowKit
set_option maxRecDepth 100000

set_option maxHeartbeats 8000000 in
theorem refIs_k7 (w : World) (m : Mg) (c : Mc) (hm : MgAt w m c) (hok : ∀ x ∈ c.vs, (∀ y ∈ x.2.p, 0 ≤ y.s ∧ y.rq.ok) ∧ ∀ y ∈ x.2.q, 0 ≤ y.s ∧ y.rq.ok) (hl : m.vs.n ≤ 4 ∧ m.sm.n ≤ 8 ∧ m.dt.n ≤ 64 ∧ m.vt.ms.n ≤ 40 ∧ m.vt.p.n ≤ 40 ∧ m.vt.q.n ≤ 40) (hk : m.k = 7) (hv : fitVsB c.vs m.vw = true) (hs : sameM m c (m.bare (partsOf m.k)) (c.bare (partsOf m.k)) = true) : Calls Tryz.prog 11 #[.agg m.cells.toArray] w fun e w' => e = .returned (.bool (isM m c)) ∧ Below w.heap.size w w' := by
  obtain ⟨W, hW⟩ : ∃ W, W = w.alloc (.cells m.cells.toArray 37) := ⟨_, rfl⟩
  have hbx : W.heap[w.heap.size]? = some (.cells m.cells.toArray 37 (0, 0)) := by rw [hW]; exact heap_alloc_new _ _
  have hbl : Below w.heap.size w W := by rw [hW]; exact (Below.refl _ _).alloc (Nat.le_refl _) _
  have q22 : W.cell? ⟨w.heap.size, 22, none⟩ = some (.slice m.vs.a m.vs.n m.vs.c) := cell_box hbx 22
  have q23 : W.cell? ⟨w.heap.size, 23, none⟩ = some (.slice m.sm.a m.sm.n m.sm.c) := cell_box hbx 23
  have q24 : W.cell? ⟨w.heap.size, 24, none⟩ = some (.slice m.dt.a m.dt.n m.dt.c) := cell_box hbx 24
  have q19 : W.cell? ⟨w.heap.size, 19, none⟩ = some (.slice m.vt.ms.a m.vt.ms.n m.vt.ms.c) := cell_box hbx 19
  have q20 : W.cell? ⟨w.heap.size, 20, none⟩ = some (.slice m.vt.p.a m.vt.p.n m.vt.p.c) := cell_box hbx 20
  have q21 : W.cell? ⟨w.heap.size, 21, none⟩ = some (.slice m.vt.q.a m.vt.q.n m.vt.q.c) := cell_box hbx 21
  have q0 : W.cell? ⟨w.heap.size, 0, none⟩ = some (.int .u8 m.k) := cell_box hbx 0
  obtain ⟨l0, l1, l2, l3, l4, l5⟩ := hl
  have d0 : decide (4 < (m.vs.n : Int)) = false := by rw [decide_eq_false_iff_not]; omega
  have d1 : decide (8 < (m.sm.n : Int)) = false := by rw [decide_eq_false_iff_not]; omega
  have d2 : decide (64 < (m.dt.n : Int)) = false := by rw [decide_eq_false_iff_not]; omega
  have d3 : decide (40 < (m.vt.ms.n : Int)) = false := by rw [decide_eq_false_iff_not]; omega
  have d4 : decide (40 < (m.vt.p.n : Int)) = false := by rw [decide_eq_false_iff_not]; omega
  have d5 : decide (40 < (m.vt.q.n : Int)) = false := by rw [decide_eq_false_iff_not]; omega
  have hws : W.heap.size = w.heap.size + 1 := by rw [hW]; simp
  have hmW := hm.below hbl
  have HC1 := Lib.hid (fun wx (h : Below W.heap.size W wx) => refVotes_any wx m c (hmW.below h) hok)
  have HC2 := Lib.hid (fun wx => refBare_any wx m)
  have HC3 := Lib.hid (fun wx (h : Below W.heap.size W wx) => refSame_any wx m (m.bare (partsOf m.k)) c (c.bare (partsOf m.k)) (hmW.below h) ((hmW.below h).bare _ (partsOf_le m.k)))
  have hld : ∀ wx, Below W.heap.size W wx → (Instr.loadAt 37 (.pointer (some ⟨w.heap.size, 0, none⟩))).run Tryz.prog wx = .ok (.agg m.cells.toArray) wx := fun wx h => by
    have hb : wx.heap[w.heap.size]? = some (.cells m.cells.toArray 37 (0, 0)) := by rw [h.block _ (by omega)]; exact hbx
    simp only [Instr.loadAt, Instr.sureAddr, Sem.run_bind, Sem.run_pure, Result.andThen_ok, run_loadVar_row (P := Tryz.prog) wx w.heap.size 37 37 m.cells.toArray (0, 0) _ hb Tryz.underlying37 rfl (by kernel_rfl)]
  have HLD := Lib.hid hld
  have hk0 : ∀ wx, Below W.heap.size W wx → wx.cell? ⟨w.heap.size, 0, none⟩ = some (.int .u8 m.k) := fun wx h => by rw [h.cell (cell_block q0)]; exact q0
  have HK0 := Lib.hid hk0
  have HBX := Lib.hid hbx
  have HW := Lib.hid hW
  have HB := Lib.hid hbl
  have HWS := Lib.hid hws
  have HM := Lib.hid hmW
  obtain ⟨r, hr⟩ : ∃ r, r = isM m c := ⟨_, rfl⟩
  rw [← hr]
  rw [isM_k7 hk hv hs] at hr
  have HRK := Lib.hid hr
  clear hr
  have HQ_k0 := Lib.hid (fun wx (h : Below W.heap.size W wx) => show wx.cell? ⟨w.heap.size, 0, none⟩ = some (.int .u8 m.k) by
    have q : W.cell? ⟨w.heap.size, 0, none⟩ = some (.int .u8 m.k) := cell_box hbx 0
    rw [h.cell (cell_block q)]; exact q)
  have HQ_f := Lib.hid (fun wx (h : Below W.heap.size W wx) => show wx.cell? ⟨w.heap.size, 1, none⟩ = some (.int .u8 m.f) by
    have q : W.cell? ⟨w.heap.size, 1, none⟩ = some (.int .u8 m.f) := cell_box hbx 1
    rw [h.cell (cell_block q)]; exact q)
  have HQ_t := Lib.hid (fun wx (h : Below W.heap.size W wx) => show wx.cell? ⟨w.heap.size, 2, none⟩ = some (.int .u8 m.t) by
    have q : W.cell? ⟨w.heap.size, 2, none⟩ = some (.int .u8 m.t) := cell_box hbx 2
    rw [h.cell (cell_block q)]; exact q)
  have HQ_e := Lib.hid (fun wx (h : Below W.heap.size W wx) => show wx.cell? ⟨w.heap.size, 3, none⟩ = some (.int .u8 m.e) by
    have q : W.cell? ⟨w.heap.size, 3, none⟩ = some (.int .u8 m.e) := cell_box hbx 3
    rw [h.cell (cell_block q)]; exact q)
  have HQ_sq := Lib.hid (fun wx (h : Below W.heap.size W wx) => show wx.cell? ⟨w.heap.size, 5, none⟩ = some (.int .u32 m.sq) by
    have q : W.cell? ⟨w.heap.size, 5, none⟩ = some (.int .u32 m.sq) := cell_box hbx 5
    rw [h.cell (cell_block q)]; exact q)
  have HQ_vw := Lib.hid (fun wx (h : Below W.heap.size W wx) => show wx.cell? ⟨w.heap.size, 4, none⟩ = some (.int .u32 m.vw) by
    have q : W.cell? ⟨w.heap.size, 4, none⟩ = some (.int .u32 m.vw) := cell_box hbx 4
    rw [h.cell (cell_block q)]; exact q)
  have HKH := Lib.hid hk
  have HVH := Lib.hid hv
  have HSH := Lib.hid hs
  generalize hkm : m.k = kk at *
  have HKM := Lib.hid hkm
  clear hkm
  generalize hsb : sameM m c (m.bare (partsOf kk)) (c.bare (partsOf kk)) = sb at *
  have HSB := Lib.hid hsb
  generalize hvb : fitVsB c.vs m.vw = vb at *
  have HVB := Lib.hid hvb
  clear hk hv hs hsb hvb hW hbx hbl hws hmW hld hk0 hm hok l0 l1 l2 l3 l4 l5
  generalize (m.bare (partsOf kk)).cells.toArray = BA at *
  generalize m.cells.toArray = A at *
  generalize m.vs.n = n0 at *
  generalize m.sm.n = n1 at *
  generalize m.dt.n = n2 at *
  generalize m.vt.ms.n = n3 at *
  generalize m.vt.p.n = n4 at *
  generalize m.vt.q.n = n5 at *
  go_enter Tryz.func11, Tryz.ntmps11
  go_upto_region 1 with fail
  rw [← HW.out]
  go_upto_region 3 with fail
  have hkk : kk = 7 := HKH.out
  subst hkk
  have e1 : ¬ (7 : Int) < 1 := by omega
  have e2 : ¬ (14 : Int) < 7 := by omega
  have C1 := Lib.hid (fun wx h => by have q := HC1.out wx h; rwa [show vb = true from HVH.out] at q)
  have C3 := Lib.hid (fun wx h => by have q := HC3.out wx h; rwa [show sb = true from HSH.out] at q)
  refine wp_region_held_drew (S := fun wx => Below W.heap.size W wx) (by kernel_rfl) (((Below.refl W.heap.size W).drew)) (fun hS => ?_)
  refine tg 0 (.pointer (some ⟨w.heap.size, 0, none⟩)) rfl hS ?_
  refine tk 1 (.int .u8 7) rfl (yi_load 5 (.tmp 43) (.pointer (some ⟨w.heap.size, 0, none⟩)) rfl rfl rfl (fun wq hw => by have q := HK0.out wq hw; go_simp)) hS ?_
  refine tg 2 (.bool false) rfl hS ?_
  refine tm 3 (.bool false) rfl hS ?_
  refine tg 4 (.pointer (some ⟨w.heap.size, 0, none⟩)) rfl hS ?_
  refine tk 5 (.int .u8 7) rfl (yi_load 5 (.tmp 47) (.pointer (some ⟨w.heap.size, 0, none⟩)) rfl rfl rfl (fun wq hw => by have q := HK0.out wq hw; go_simp)) hS ?_
  refine tg 6 (.bool false) rfl hS ?_
  refine tm 7 (.bool false) rfl hS ?_
  refine tm 8 (.bool false) rfl hS ?_
  refine tk 9 (.agg A) rfl (yi_load 37 (.tmp 1) (.pointer (some ⟨w.heap.size, 0, none⟩)) rfl rfl rfl (fun wq hw => HLD.out wq hw)) hS ?_
  refine wpAnyH_ready (rs := [10]) (by kernel_rfl) (by simp) ?_
  refine AllReadyH.cons rfl (fun K hK => ?_) AllReadyH.nil
  rw [if_pos (by rfl)]
  go_simp
  refine Calls.mono (C1.out _ hS) ?_
  rintro e w4 ⟨rfl, b4⟩
  have h4 : Below W.heap.size W w4 := hS.trans (b4.mono hS.size)
  refine hK.out _ _ (h4) (fun hS => ?_)
  clear hK K
  refine tm 11 (.bool false) rfl hS ?_
  refine tm 12 (.bool false) rfl hS ?_
  refine tm 13 (.bool false) rfl hS ?_
  refine tk 14 (.agg A) rfl (yi_load 37 (.tmp 1) (.pointer (some ⟨w.heap.size, 0, none⟩)) rfl rfl rfl (fun wq hw => HLD.out wq hw)) hS ?_
  refine tk 15 (.agg A) rfl (yi_load 37 (.tmp 1) (.pointer (some ⟨w.heap.size, 0, none⟩)) rfl rfl rfl (fun wq hw => HLD.out wq hw)) hS ?_
  refine wpAnyH_ready (rs := [16]) (by kernel_rfl) (by simp) ?_
  refine AllReadyH.cons rfl (fun K hK => ?_) AllReadyH.nil
  rw [if_pos (by rfl)]
  go_simp
  refine Calls.mono (HC2.out _) ?_
  rintro e w5 ⟨rfl, b5⟩
  have h5 : Below W.heap.size W w5 := hS.trans (b5.mono hS.size)
  refine hK.out _ _ (h5) (fun hS => ?_)
  clear hK K
  refine wpAnyH_ready (rs := [17]) (by kernel_rfl) (by simp) ?_
  refine AllReadyH.cons rfl (fun K hK => ?_) AllReadyH.nil
  rw [if_pos (by rfl)]
  go_simp
  refine Calls.mono (C3.out _ hS) ?_
  rintro e w6 ⟨rfl, b6⟩
  have h6 : Below W.heap.size W w6 := hS.trans (b6.mono hS.size)
  refine hK.out _ _ (h6) (fun hS => ?_)
  clear hK K
  refine tm 18 (.bool false) rfl hS ?_
  refine tm 19 (.bool false) rfl hS ?_
  refine wpAnyH_done (by kernel_rfl) ?_ _
  clear q0 q22 q23 q24 q19 q20 q21
  have qk0 := (HQ_k0.out w6 hS)
  have qf := (HQ_f.out w6 hS)
  have qt := (HQ_t.out w6 hS)
  have qe := (HQ_e.out w6 hS)
  have qsq := (HQ_sq.out w6 hS)
  have qvw := (HQ_vw.out w6 hS)
  go_upto_region 5 with fail
  obtain ⟨fr, hfr⟩ : ∃ fr, fr = (isRp m.f && isEp m.e) := ⟨_, rfl⟩
  rw [← hfr] at HRK
  have HFR := Lib.hid hfr
  clear hfr
  go_cut [3] from 63 to 75 (fun s3 wx => s3 = .bool fr ∧ wx = w6)
  case first =>
    by_cases x1 : m.f < 4
    · by_cases x2 : 1 ≤ m.e
      · by_cases x3 : m.e ≤ 200
        · go_wp2_with fail
          go_meet
          exact ⟨by rw [HFR.out]; first | (simp [isRp, isEp]; done) | (simp [isRp, isEp]; omega), rfl⟩
        · go_wp2_with fail
          go_meet
          exact ⟨by rw [HFR.out]; first | (simp [isRp, isEp]; done) | (simp [isRp, isEp]; omega), rfl⟩
      · go_wp2_with fail
        go_meet
        exact ⟨by rw [HFR.out]; first | (simp [isRp, isEp]; done) | (simp [isRp, isEp]; omega), rfl⟩
    · go_wp2_with fail
      go_meet
      exact ⟨by rw [HFR.out]; first | (simp [isRp, isEp]; done) | (simp [isRp, isEp]; omega), rfl⟩
  case rest =>
    obtain ⟨rfl, hwc⟩ := hcut
    obtain rfl := hwc.symm
    clear HFR
    cases fr with
    | false =>
      go_wp2_with fail
      exact bodyPost_ret (v := .bool false) (by simp [results, Tryz.results11, go_sem]) rfl ⟨by rw [HRK.out]; first | (simp; done) | (simp; omega), HB.out.trans (hS.mono (by have := HWS.out; omega))⟩
    | true =>
      by_cases c1 : m.t < 4
      · have C1 := Lib.hid c1
        by_cases c2 : 1 ≤ m.vw
        · have C2 := Lib.hid c2
          by_cases c3 : m.vw ≤ 1048576
          · have C3 := Lib.hid c3
            go_wp2_with fail
            exact bodyPost_ret (v := .bool true) (by simp [results, Tryz.results11, go_sem]) rfl ⟨by have t1 := C1.out; have t2 := C2.out; have t3 := C3.out; rw [HRK.out]; first | (simp; done) | (simp; omega), HB.out.trans (hS.mono (by have := HWS.out; omega))⟩
          · have C3 := Lib.hid c3
            go_wp2_with fail
            exact bodyPost_ret (v := .bool false) (by have t := C3.out; simp [results, Tryz.results11, go_sem] <;> omega) rfl ⟨by have t1 := C1.out; have t2 := C2.out; have t3 := C3.out; rw [HRK.out]; first | (simp; done) | (simp; omega), HB.out.trans (hS.mono (by have := HWS.out; omega))⟩
        · have C2 := Lib.hid c2
          go_wp2_with fail
          exact bodyPost_ret (v := .bool false) (by simp [results, Tryz.results11, go_sem]) rfl ⟨by have t1 := C1.out; have t2 := C2.out; rw [HRK.out]; first | (simp; done) | (simp; omega), HB.out.trans (hS.mono (by have := HWS.out; omega))⟩
      · have C1 := Lib.hid c1
        go_wp2_with fail
        exact bodyPost_ret (v := .bool false) (by simp [results, Tryz.results11, go_sem]) rfl ⟨by have t1 := C1.out; rw [HRK.out]; first | (simp; done) | (simp; omega), HB.out.trans (hS.mono (by have := HWS.out; omega))⟩
end Go.Proofs.YtbpfkeeikhhlnaaGreatDoor
namespace Go.Proofs.YtbpfkeeikhhlnaaGreatDoor
open Go.RowKit
set_option maxRecDepth 100000

set_option maxHeartbeats 8000000 in
theorem refIs_k8 (w : World) (m : Mg) (c : Mc) (hm : MgAt w m c) (hok : ∀ x ∈ c.vs, (∀ y ∈ x.2.p, 0 ≤ y.s ∧ y.rq.ok) ∧ ∀ y ∈ x.2.q, 0 ≤ y.s ∧ y.rq.ok) (hl : m.vs.n ≤ 4 ∧ m.sm.n ≤ 8 ∧ m.dt.n ≤ 64 ∧ m.vt.ms.n ≤ 40 ∧ m.vt.p.n ≤ 40 ∧ m.vt.q.n ≤ 40) (hk : m.k = 8) (hv : fitVsB c.vs m.vw = true) (hs : sameM m c (m.bare (partsOf m.k)) (c.bare (partsOf m.k)) = true) : Calls Tryz.prog 11 #[.agg m.cells.toArray] w fun e w' => e = .returned (.bool (isM m c)) ∧ Below w.heap.size w w' := by
  obtain ⟨W, hW⟩ : ∃ W, W = w.alloc (.cells m.cells.toArray 37) := ⟨_, rfl⟩
  have hbx : W.heap[w.heap.size]? = some (.cells m.cells.toArray 37 (0, 0)) := by rw [hW]; exact heap_alloc_new _ _
  have hbl : Below w.heap.size w W := by rw [hW]; exact (Below.refl _ _).alloc (Nat.le_refl _) _
  have q22 : W.cell? ⟨w.heap.size, 22, none⟩ = some (.slice m.vs.a m.vs.n m.vs.c) := cell_box hbx 22
  have q23 : W.cell? ⟨w.heap.size, 23, none⟩ = some (.slice m.sm.a m.sm.n m.sm.c) := cell_box hbx 23
  have q24 : W.cell? ⟨w.heap.size, 24, none⟩ = some (.slice m.dt.a m.dt.n m.dt.c) := cell_box hbx 24
  have q19 : W.cell? ⟨w.heap.size, 19, none⟩ = some (.slice m.vt.ms.a m.vt.ms.n m.vt.ms.c) := cell_box hbx 19
  have q20 : W.cell? ⟨w.heap.size, 20, none⟩ = some (.slice m.vt.p.a m.vt.p.n m.vt.p.c) := cell_box hbx 20
  have q21 : W.cell? ⟨w.heap.size, 21, none⟩ = some (.slice m.vt.q.a m.vt.q.n m.vt.q.c) := cell_box hbx 21
  have q0 : W.cell? ⟨w.heap.size, 0, none⟩ = some (.int .u8 m.k) := cell_box hbx 0
  obtain ⟨l0, l1, l2, l3, l4, l5⟩ := hl
  have d0 : decide (4 < (m.vs.n : Int)) = false := by rw [decide_eq_false_iff_not]; omega
  have d1 : decide (8 < (m.sm.n : Int)) = false := by rw [decide_eq_false_iff_not]; omega
  have d2 : decide (64 < (m.dt.n : Int)) = false := by rw [decide_eq_false_iff_not]; omega
  have d3 : decide (40 < (m.vt.ms.n : Int)) = false := by rw [decide_eq_false_iff_not]; omega
  have d4 : decide (40 < (m.vt.p.n : Int)) = false := by rw [decide_eq_false_iff_not]; omega
  have d5 : decide (40 < (m.vt.q.n : Int)) = false := by rw [decide_eq_false_iff_not]; omega
  have hws : W.heap.size = w.heap.size + 1 := by rw [hW]; simp
  have hmW := hm.below hbl
  have HC1 := Lib.hid (fun wx (h : Below W.heap.size W wx) => refVotes_any wx m c (hmW.below h) hok)
  have HC2 := Lib.hid (fun wx => refBare_any wx m)
  have HC3 := Lib.hid (fun wx (h : Below W.heap.size W wx) => refSame_any wx m (m.bare (partsOf m.k)) c (c.bare (partsOf m.k)) (hmW.below h) ((hmW.below h).bare _ (partsOf_le m.k)))
  have hld : ∀ wx, Below W.heap.size W wx → (Instr.loadAt 37 (.pointer (some ⟨w.heap.size, 0, none⟩))).run Tryz.prog wx = .ok (.agg m.cells.toArray) wx := fun wx h => by
    have hb : wx.heap[w.heap.size]? = some (.cells m.cells.toArray 37 (0, 0)) := by rw [h.block _ (by omega)]; exact hbx
    simp only [Instr.loadAt, Instr.sureAddr, Sem.run_bind, Sem.run_pure, Result.andThen_ok, run_loadVar_row (P := Tryz.prog) wx w.heap.size 37 37 m.cells.toArray (0, 0) _ hb Tryz.underlying37 rfl (by kernel_rfl)]
  have HLD := Lib.hid hld
  have hk0 : ∀ wx, Below W.heap.size W wx → wx.cell? ⟨w.heap.size, 0, none⟩ = some (.int .u8 m.k) := fun wx h => by rw [h.cell (cell_block q0)]; exact q0
  have HK0 := Lib.hid hk0
  have HBX := Lib.hid hbx
  have HW := Lib.hid hW
  have HB := Lib.hid hbl
  have HWS := Lib.hid hws
  have HM := Lib.hid hmW
  obtain ⟨r, hr⟩ : ∃ r, r = isM m c := ⟨_, rfl⟩
  rw [← hr]
  rw [isM_k8 hk hs] at hr
  have HRK := Lib.hid hr
  clear hr
  have HQ_k0 := Lib.hid (fun wx (h : Below W.heap.size W wx) => show wx.cell? ⟨w.heap.size, 0, none⟩ = some (.int .u8 m.k) by
    have q : W.cell? ⟨w.heap.size, 0, none⟩ = some (.int .u8 m.k) := cell_box hbx 0
    rw [h.cell (cell_block q)]; exact q)
  have HQ_f := Lib.hid (fun wx (h : Below W.heap.size W wx) => show wx.cell? ⟨w.heap.size, 1, none⟩ = some (.int .u8 m.f) by
    have q : W.cell? ⟨w.heap.size, 1, none⟩ = some (.int .u8 m.f) := cell_box hbx 1
    rw [h.cell (cell_block q)]; exact q)
  have HQ_t := Lib.hid (fun wx (h : Below W.heap.size W wx) => show wx.cell? ⟨w.heap.size, 2, none⟩ = some (.int .u8 m.t) by
    have q : W.cell? ⟨w.heap.size, 2, none⟩ = some (.int .u8 m.t) := cell_box hbx 2
    rw [h.cell (cell_block q)]; exact q)
  have HQ_e := Lib.hid (fun wx (h : Below W.heap.size W wx) => show wx.cell? ⟨w.heap.size, 3, none⟩ = some (.int .u8 m.e) by
    have q : W.cell? ⟨w.heap.size, 3, none⟩ = some (.int .u8 m.e) := cell_box hbx 3
    rw [h.cell (cell_block q)]; exact q)
  have HQ_sq := Lib.hid (fun wx (h : Below W.heap.size W wx) => show wx.cell? ⟨w.heap.size, 5, none⟩ = some (.int .u32 m.sq) by
    have q : W.cell? ⟨w.heap.size, 5, none⟩ = some (.int .u32 m.sq) := cell_box hbx 5
    rw [h.cell (cell_block q)]; exact q)
  have HQ_ct := Lib.hid (fun wx (h : Below W.heap.size W wx) => show wx.cell? ⟨w.heap.size, 12, none⟩ = some (.int .u8 m.ct) by
    have q : W.cell? ⟨w.heap.size, 12, none⟩ = some (.int .u8 m.ct) := cell_box hbx 12
    rw [h.cell (cell_block q)]; exact q)
  have HKH := Lib.hid hk
  have HVH := Lib.hid hv
  have HSH := Lib.hid hs
  generalize hkm : m.k = kk at *
  have HKM := Lib.hid hkm
  clear hkm
  generalize hsb : sameM m c (m.bare (partsOf kk)) (c.bare (partsOf kk)) = sb at *
  have HSB := Lib.hid hsb
  generalize hvb : fitVsB c.vs m.vw = vb at *
  have HVB := Lib.hid hvb
  clear hk hv hs hsb hvb hW hbx hbl hws hmW hld hk0 hm hok l0 l1 l2 l3 l4 l5
  generalize (m.bare (partsOf kk)).cells.toArray = BA at *
  generalize m.cells.toArray = A at *
  generalize m.vs.n = n0 at *
  generalize m.sm.n = n1 at *
  generalize m.dt.n = n2 at *
  generalize m.vt.ms.n = n3 at *
  generalize m.vt.p.n = n4 at *
  generalize m.vt.q.n = n5 at *
  go_enter Tryz.func11, Tryz.ntmps11
  go_upto_region 1 with fail
  rw [← HW.out]
  go_upto_region 3 with fail
  have hkk : kk = 8 := HKH.out
  subst hkk
  have e1 : ¬ (8 : Int) < 1 := by omega
  have e2 : ¬ (14 : Int) < 8 := by omega
  have C1 := Lib.hid (fun wx h => by have q := HC1.out wx h; rwa [show vb = true from HVH.out] at q)
  have C3 := Lib.hid (fun wx h => by have q := HC3.out wx h; rwa [show sb = true from HSH.out] at q)
  refine wp_region_held_drew (S := fun wx => Below W.heap.size W wx) (by kernel_rfl) (((Below.refl W.heap.size W).drew)) (fun hS => ?_)
  refine tg 0 (.pointer (some ⟨w.heap.size, 0, none⟩)) rfl hS ?_
  refine tk 1 (.int .u8 8) rfl (yi_load 5 (.tmp 43) (.pointer (some ⟨w.heap.size, 0, none⟩)) rfl rfl rfl (fun wq hw => by have q := HK0.out wq hw; go_simp)) hS ?_
  refine tg 2 (.bool false) rfl hS ?_
  refine tm 3 (.bool false) rfl hS ?_
  refine tg 4 (.pointer (some ⟨w.heap.size, 0, none⟩)) rfl hS ?_
  refine tk 5 (.int .u8 8) rfl (yi_load 5 (.tmp 47) (.pointer (some ⟨w.heap.size, 0, none⟩)) rfl rfl rfl (fun wq hw => by have q := HK0.out wq hw; go_simp)) hS ?_
  refine tg 6 (.bool false) rfl hS ?_
  refine tm 7 (.bool false) rfl hS ?_
  refine tm 8 (.bool false) rfl hS ?_
  refine tk 9 (.agg A) rfl (yi_load 37 (.tmp 1) (.pointer (some ⟨w.heap.size, 0, none⟩)) rfl rfl rfl (fun wq hw => HLD.out wq hw)) hS ?_
  refine wpAnyH_ready (rs := [10]) (by kernel_rfl) (by simp) ?_
  refine AllReadyH.cons rfl (fun K hK => ?_) AllReadyH.nil
  rw [if_pos (by rfl)]
  go_simp
  refine Calls.mono (C1.out _ hS) ?_
  rintro e w4 ⟨rfl, b4⟩
  have h4 : Below W.heap.size W w4 := hS.trans (b4.mono hS.size)
  refine hK.out _ _ (h4) (fun hS => ?_)
  clear hK K
  refine tm 11 (.bool false) rfl hS ?_
  refine tm 12 (.bool false) rfl hS ?_
  refine tm 13 (.bool false) rfl hS ?_
  refine tk 14 (.agg A) rfl (yi_load 37 (.tmp 1) (.pointer (some ⟨w.heap.size, 0, none⟩)) rfl rfl rfl (fun wq hw => HLD.out wq hw)) hS ?_
  refine tk 15 (.agg A) rfl (yi_load 37 (.tmp 1) (.pointer (some ⟨w.heap.size, 0, none⟩)) rfl rfl rfl (fun wq hw => HLD.out wq hw)) hS ?_
  refine wpAnyH_ready (rs := [16]) (by kernel_rfl) (by simp) ?_
  refine AllReadyH.cons rfl (fun K hK => ?_) AllReadyH.nil
  rw [if_pos (by rfl)]
  go_simp
  refine Calls.mono (HC2.out _) ?_
  rintro e w5 ⟨rfl, b5⟩
  have h5 : Below W.heap.size W w5 := hS.trans (b5.mono hS.size)
  refine hK.out _ _ (h5) (fun hS => ?_)
  clear hK K
  refine wpAnyH_ready (rs := [17]) (by kernel_rfl) (by simp) ?_
  refine AllReadyH.cons rfl (fun K hK => ?_) AllReadyH.nil
  rw [if_pos (by rfl)]
  go_simp
  refine Calls.mono (C3.out _ hS) ?_
  rintro e w6 ⟨rfl, b6⟩
  have h6 : Below W.heap.size W w6 := hS.trans (b6.mono hS.size)
  refine hK.out _ _ (h6) (fun hS => ?_)
  clear hK K
  refine tm 18 (.bool false) rfl hS ?_
  refine tm 19 (.bool false) rfl hS ?_
  refine wpAnyH_done (by kernel_rfl) ?_ _
  clear q0 q22 q23 q24 q19 q20 q21
  have qk0 := (HQ_k0.out w6 hS)
  have qf := (HQ_f.out w6 hS)
  have qt := (HQ_t.out w6 hS)
  have qe := (HQ_e.out w6 hS)
  have qsq := (HQ_sq.out w6 hS)
  have qct := (HQ_ct.out w6 hS)
  go_upto_region 5 with fail
  obtain ⟨fr, hfr⟩ : ∃ fr, fr = (isRp m.f && isEp m.e) := ⟨_, rfl⟩
  rw [← hfr] at HRK
  have HFR := Lib.hid hfr
  clear hfr
  go_cut [3] from 63 to 75 (fun s3 wx => s3 = .bool fr ∧ wx = w6)
  case first =>
    by_cases x1 : m.f < 4
    · by_cases x2 : 1 ≤ m.e
      · by_cases x3 : m.e ≤ 200
        · go_wp2_with fail
          go_meet
          exact ⟨by rw [HFR.out]; first | (simp [isRp, isEp]; done) | (simp [isRp, isEp]; omega), rfl⟩
        · go_wp2_with fail
          go_meet
          exact ⟨by rw [HFR.out]; first | (simp [isRp, isEp]; done) | (simp [isRp, isEp]; omega), rfl⟩
      · go_wp2_with fail
        go_meet
        exact ⟨by rw [HFR.out]; first | (simp [isRp, isEp]; done) | (simp [isRp, isEp]; omega), rfl⟩
    · go_wp2_with fail
      go_meet
      exact ⟨by rw [HFR.out]; first | (simp [isRp, isEp]; done) | (simp [isRp, isEp]; omega), rfl⟩
  case rest =>
    obtain ⟨rfl, hwc⟩ := hcut
    obtain rfl := hwc.symm
    clear HFR
    cases fr with
    | false =>
      go_wp2_with fail
      exact bodyPost_ret (v := .bool false) (by simp [results, Tryz.results11, go_sem]) rfl ⟨by rw [HRK.out]; first | (simp; done) | (simp; omega), HB.out.trans (hS.mono (by have := HWS.out; omega))⟩
    | true =>
      by_cases c1 : m.t < 4
      · have C1 := Lib.hid c1
        by_cases c2 : m.ct = m.e
        · have C2 := Lib.hid c2
          go_wp2_with fail
          exact bodyPost_ret (v := .bool true) (by simp [results, Tryz.results11, go_sem]) rfl ⟨by have t1 := C1.out; have t2 := C2.out; rw [HRK.out]; first | (simp; done) | (simp; omega), HB.out.trans (hS.mono (by have := HWS.out; omega))⟩
        · have C2 := Lib.hid c2
          go_wp2_with fail
          exact bodyPost_ret (v := .bool false) (by have t := C2.out; simp [results, Tryz.results11, go_sem] <;> omega) rfl ⟨by have t1 := C1.out; have t2 := C2.out; rw [HRK.out]; first | (simp; done) | (simp; omega), HB.out.trans (hS.mono (by have := HWS.out; omega))⟩
      · have C1 := Lib.hid c1
        go_wp2_with fail
        exact bodyPost_ret (v := .bool false) (by simp [results, Tryz.results11, go_sem]) rfl ⟨by have t1 := C1.out; rw [HRK.out]; first | (simp; done) | (simp; omega), HB.out.trans (hS.mono (by have := HWS.out; omega))⟩
end Go.Proofs.YtbpfkeeikhhlnaaGreatDoor
namespace Go.Proofs.YtbpfkeeikhhlnaaGreatDoor
open Go.RowKit
set_option maxRecDepth 100000

set_option maxHeartbeats 8000000 in
theorem refIs_k9 (w : World) (m : Mg) (c : Mc) (hm : MgAt w m c) (hok : ∀ x ∈ c.vs, (∀ y ∈ x.2.p, 0 ≤ y.s ∧ y.rq.ok) ∧ ∀ y ∈ x.2.q, 0 ≤ y.s ∧ y.rq.ok) (hl : m.vs.n ≤ 4 ∧ m.sm.n ≤ 8 ∧ m.dt.n ≤ 64 ∧ m.vt.ms.n ≤ 40 ∧ m.vt.p.n ≤ 40 ∧ m.vt.q.n ≤ 40) (hk : m.k = 9) (hv : fitVsB c.vs m.vw = true) (hs : sameM m c (m.bare (partsOf m.k)) (c.bare (partsOf m.k)) = true) : Calls Tryz.prog 11 #[.agg m.cells.toArray] w fun e w' => e = .returned (.bool (isM m c)) ∧ Below w.heap.size w w' := by
  obtain ⟨W, hW⟩ : ∃ W, W = w.alloc (.cells m.cells.toArray 37) := ⟨_, rfl⟩
  have hbx : W.heap[w.heap.size]? = some (.cells m.cells.toArray 37 (0, 0)) := by rw [hW]; exact heap_alloc_new _ _
  have hbl : Below w.heap.size w W := by rw [hW]; exact (Below.refl _ _).alloc (Nat.le_refl _) _
  have q22 : W.cell? ⟨w.heap.size, 22, none⟩ = some (.slice m.vs.a m.vs.n m.vs.c) := cell_box hbx 22
  have q23 : W.cell? ⟨w.heap.size, 23, none⟩ = some (.slice m.sm.a m.sm.n m.sm.c) := cell_box hbx 23
  have q24 : W.cell? ⟨w.heap.size, 24, none⟩ = some (.slice m.dt.a m.dt.n m.dt.c) := cell_box hbx 24
  have q19 : W.cell? ⟨w.heap.size, 19, none⟩ = some (.slice m.vt.ms.a m.vt.ms.n m.vt.ms.c) := cell_box hbx 19
  have q20 : W.cell? ⟨w.heap.size, 20, none⟩ = some (.slice m.vt.p.a m.vt.p.n m.vt.p.c) := cell_box hbx 20
  have q21 : W.cell? ⟨w.heap.size, 21, none⟩ = some (.slice m.vt.q.a m.vt.q.n m.vt.q.c) := cell_box hbx 21
  have q0 : W.cell? ⟨w.heap.size, 0, none⟩ = some (.int .u8 m.k) := cell_box hbx 0
  obtain ⟨l0, l1, l2, l3, l4, l5⟩ := hl
  have d0 : decide (4 < (m.vs.n : Int)) = false := by rw [decide_eq_false_iff_not]; omega
  have d1 : decide (8 < (m.sm.n : Int)) = false := by rw [decide_eq_false_iff_not]; omega
  have d2 : decide (64 < (m.dt.n : Int)) = false := by rw [decide_eq_false_iff_not]; omega
  have d3 : decide (40 < (m.vt.ms.n : Int)) = false := by rw [decide_eq_false_iff_not]; omega
  have d4 : decide (40 < (m.vt.p.n : Int)) = false := by rw [decide_eq_false_iff_not]; omega
  have d5 : decide (40 < (m.vt.q.n : Int)) = false := by rw [decide_eq_false_iff_not]; omega
  have hws : W.heap.size = w.heap.size + 1 := by rw [hW]; simp
  have hmW := hm.below hbl
  have HC1 := Lib.hid (fun wx (h : Below W.heap.size W wx) => refVotes_any wx m c (hmW.below h) hok)
  have HC2 := Lib.hid (fun wx => refBare_any wx m)
  have HC3 := Lib.hid (fun wx (h : Below W.heap.size W wx) => refSame_any wx m (m.bare (partsOf m.k)) c (c.bare (partsOf m.k)) (hmW.below h) ((hmW.below h).bare _ (partsOf_le m.k)))
  have hld : ∀ wx, Below W.heap.size W wx → (Instr.loadAt 37 (.pointer (some ⟨w.heap.size, 0, none⟩))).run Tryz.prog wx = .ok (.agg m.cells.toArray) wx := fun wx h => by
    have hb : wx.heap[w.heap.size]? = some (.cells m.cells.toArray 37 (0, 0)) := by rw [h.block _ (by omega)]; exact hbx
    simp only [Instr.loadAt, Instr.sureAddr, Sem.run_bind, Sem.run_pure, Result.andThen_ok, run_loadVar_row (P := Tryz.prog) wx w.heap.size 37 37 m.cells.toArray (0, 0) _ hb Tryz.underlying37 rfl (by kernel_rfl)]
  have HLD := Lib.hid hld
  have hk0 : ∀ wx, Below W.heap.size W wx → wx.cell? ⟨w.heap.size, 0, none⟩ = some (.int .u8 m.k) := fun wx h => by rw [h.cell (cell_block q0)]; exact q0
  have HK0 := Lib.hid hk0
  have HBX := Lib.hid hbx
  have HW := Lib.hid hW
  have HB := Lib.hid hbl
  have HWS := Lib.hid hws
  have HM := Lib.hid hmW
  obtain ⟨r, hr⟩ : ∃ r, r = isM m c := ⟨_, rfl⟩
  rw [← hr]
  rw [isM_k9 hk hs] at hr
  have HRK := Lib.hid hr
  clear hr
  have HQ_k0 := Lib.hid (fun wx (h : Below W.heap.size W wx) => show wx.cell? ⟨w.heap.size, 0, none⟩ = some (.int .u8 m.k) by
    have q : W.cell? ⟨w.heap.size, 0, none⟩ = some (.int .u8 m.k) := cell_box hbx 0
    rw [h.cell (cell_block q)]; exact q)
  have HQ_f := Lib.hid (fun wx (h : Below W.heap.size W wx) => show wx.cell? ⟨w.heap.size, 1, none⟩ = some (.int .u8 m.f) by
    have q : W.cell? ⟨w.heap.size, 1, none⟩ = some (.int .u8 m.f) := cell_box hbx 1
    rw [h.cell (cell_block q)]; exact q)
  have HQ_t := Lib.hid (fun wx (h : Below W.heap.size W wx) => show wx.cell? ⟨w.heap.size, 2, none⟩ = some (.int .u8 m.t) by
    have q : W.cell? ⟨w.heap.size, 2, none⟩ = some (.int .u8 m.t) := cell_box hbx 2
    rw [h.cell (cell_block q)]; exact q)
  have HQ_e := Lib.hid (fun wx (h : Below W.heap.size W wx) => show wx.cell? ⟨w.heap.size, 3, none⟩ = some (.int .u8 m.e) by
    have q : W.cell? ⟨w.heap.size, 3, none⟩ = some (.int .u8 m.e) := cell_box hbx 3
    rw [h.cell (cell_block q)]; exact q)
  have HQ_sq := Lib.hid (fun wx (h : Below W.heap.size W wx) => show wx.cell? ⟨w.heap.size, 5, none⟩ = some (.int .u32 m.sq) by
    have q : W.cell? ⟨w.heap.size, 5, none⟩ = some (.int .u32 m.sq) := cell_box hbx 5
    rw [h.cell (cell_block q)]; exact q)
  have HQ_ct := Lib.hid (fun wx (h : Below W.heap.size W wx) => show wx.cell? ⟨w.heap.size, 12, none⟩ = some (.int .u8 m.ct) by
    have q : W.cell? ⟨w.heap.size, 12, none⟩ = some (.int .u8 m.ct) := cell_box hbx 12
    rw [h.cell (cell_block q)]; exact q)
  have HKH := Lib.hid hk
  have HVH := Lib.hid hv
  have HSH := Lib.hid hs
  generalize hkm : m.k = kk at *
  have HKM := Lib.hid hkm
  clear hkm
  generalize hsb : sameM m c (m.bare (partsOf kk)) (c.bare (partsOf kk)) = sb at *
  have HSB := Lib.hid hsb
  generalize hvb : fitVsB c.vs m.vw = vb at *
  have HVB := Lib.hid hvb
  clear hk hv hs hsb hvb hW hbx hbl hws hmW hld hk0 hm hok l0 l1 l2 l3 l4 l5
  generalize (m.bare (partsOf kk)).cells.toArray = BA at *
  generalize m.cells.toArray = A at *
  generalize m.vs.n = n0 at *
  generalize m.sm.n = n1 at *
  generalize m.dt.n = n2 at *
  generalize m.vt.ms.n = n3 at *
  generalize m.vt.p.n = n4 at *
  generalize m.vt.q.n = n5 at *
  go_enter Tryz.func11, Tryz.ntmps11
  go_upto_region 1 with fail
  rw [← HW.out]
  go_upto_region 3 with fail
  have hkk : kk = 9 := HKH.out
  subst hkk
  have e1 : ¬ (9 : Int) < 1 := by omega
  have e2 : ¬ (14 : Int) < 9 := by omega
  have C1 := Lib.hid (fun wx h => by have q := HC1.out wx h; rwa [show vb = true from HVH.out] at q)
  have C3 := Lib.hid (fun wx h => by have q := HC3.out wx h; rwa [show sb = true from HSH.out] at q)
  refine wp_region_held_drew (S := fun wx => Below W.heap.size W wx) (by kernel_rfl) (((Below.refl W.heap.size W).drew)) (fun hS => ?_)
  refine tg 0 (.pointer (some ⟨w.heap.size, 0, none⟩)) rfl hS ?_
  refine tk 1 (.int .u8 9) rfl (yi_load 5 (.tmp 43) (.pointer (some ⟨w.heap.size, 0, none⟩)) rfl rfl rfl (fun wq hw => by have q := HK0.out wq hw; go_simp)) hS ?_
  refine tg 2 (.bool false) rfl hS ?_
  refine tm 3 (.bool false) rfl hS ?_
  refine tg 4 (.pointer (some ⟨w.heap.size, 0, none⟩)) rfl hS ?_
  refine tk 5 (.int .u8 9) rfl (yi_load 5 (.tmp 47) (.pointer (some ⟨w.heap.size, 0, none⟩)) rfl rfl rfl (fun wq hw => by have q := HK0.out wq hw; go_simp)) hS ?_
  refine tg 6 (.bool false) rfl hS ?_
  refine tm 7 (.bool false) rfl hS ?_
  refine tm 8 (.bool false) rfl hS ?_
  refine tk 9 (.agg A) rfl (yi_load 37 (.tmp 1) (.pointer (some ⟨w.heap.size, 0, none⟩)) rfl rfl rfl (fun wq hw => HLD.out wq hw)) hS ?_
  refine wpAnyH_ready (rs := [10]) (by kernel_rfl) (by simp) ?_
  refine AllReadyH.cons rfl (fun K hK => ?_) AllReadyH.nil
  rw [if_pos (by rfl)]
  go_simp
  refine Calls.mono (C1.out _ hS) ?_
  rintro e w4 ⟨rfl, b4⟩
  have h4 : Below W.heap.size W w4 := hS.trans (b4.mono hS.size)
  refine hK.out _ _ (h4) (fun hS => ?_)
  clear hK K
  refine tm 11 (.bool false) rfl hS ?_
  refine tm 12 (.bool false) rfl hS ?_
  refine tm 13 (.bool false) rfl hS ?_
  refine tk 14 (.agg A) rfl (yi_load 37 (.tmp 1) (.pointer (some ⟨w.heap.size, 0, none⟩)) rfl rfl rfl (fun wq hw => HLD.out wq hw)) hS ?_
  refine tk 15 (.agg A) rfl (yi_load 37 (.tmp 1) (.pointer (some ⟨w.heap.size, 0, none⟩)) rfl rfl rfl (fun wq hw => HLD.out wq hw)) hS ?_
  refine wpAnyH_ready (rs := [16]) (by kernel_rfl) (by simp) ?_
  refine AllReadyH.cons rfl (fun K hK => ?_) AllReadyH.nil
  rw [if_pos (by rfl)]
  go_simp
  refine Calls.mono (HC2.out _) ?_
  rintro e w5 ⟨rfl, b5⟩
  have h5 : Below W.heap.size W w5 := hS.trans (b5.mono hS.size)
  refine hK.out _ _ (h5) (fun hS => ?_)
  clear hK K
  refine wpAnyH_ready (rs := [17]) (by kernel_rfl) (by simp) ?_
  refine AllReadyH.cons rfl (fun K hK => ?_) AllReadyH.nil
  rw [if_pos (by rfl)]
  go_simp
  refine Calls.mono (C3.out _ hS) ?_
  rintro e w6 ⟨rfl, b6⟩
  have h6 : Below W.heap.size W w6 := hS.trans (b6.mono hS.size)
  refine hK.out _ _ (h6) (fun hS => ?_)
  clear hK K
  refine tm 18 (.bool false) rfl hS ?_
  refine tm 19 (.bool false) rfl hS ?_
  refine wpAnyH_done (by kernel_rfl) ?_ _
  clear q0 q22 q23 q24 q19 q20 q21
  have qk0 := (HQ_k0.out w6 hS)
  have qf := (HQ_f.out w6 hS)
  have qt := (HQ_t.out w6 hS)
  have qe := (HQ_e.out w6 hS)
  have qsq := (HQ_sq.out w6 hS)
  have qct := (HQ_ct.out w6 hS)
  go_upto_region 5 with fail
  obtain ⟨fr, hfr⟩ : ∃ fr, fr = (isRp m.f && isEp m.e) := ⟨_, rfl⟩
  rw [← hfr] at HRK
  have HFR := Lib.hid hfr
  clear hfr
  go_cut [3] from 63 to 75 (fun s3 wx => s3 = .bool fr ∧ wx = w6)
  case first =>
    by_cases x1 : m.f < 4
    · by_cases x2 : 1 ≤ m.e
      · by_cases x3 : m.e ≤ 200
        · go_wp2_with fail
          go_meet
          exact ⟨by rw [HFR.out]; first | (simp [isRp, isEp]; done) | (simp [isRp, isEp]; omega), rfl⟩
        · go_wp2_with fail
          go_meet
          exact ⟨by rw [HFR.out]; first | (simp [isRp, isEp]; done) | (simp [isRp, isEp]; omega), rfl⟩
      · go_wp2_with fail
        go_meet
        exact ⟨by rw [HFR.out]; first | (simp [isRp, isEp]; done) | (simp [isRp, isEp]; omega), rfl⟩
    · go_wp2_with fail
      go_meet
      exact ⟨by rw [HFR.out]; first | (simp [isRp, isEp]; done) | (simp [isRp, isEp]; omega), rfl⟩
  case rest =>
    obtain ⟨rfl, hwc⟩ := hcut
    obtain rfl := hwc.symm
    clear HFR
    cases fr with
    | false =>
      go_wp2_with fail
      exact bodyPost_ret (v := .bool false) (by simp [results, Tryz.results11, go_sem]) rfl ⟨by rw [HRK.out]; first | (simp; done) | (simp; omega), HB.out.trans (hS.mono (by have := HWS.out; omega))⟩
    | true =>
      by_cases c1 : m.t < 4
      · have C1 := Lib.hid c1
        by_cases c2 : m.ct = m.e
        · have C2 := Lib.hid c2
          go_wp2_with fail
          exact bodyPost_ret (v := .bool true) (by simp [results, Tryz.results11, go_sem]) rfl ⟨by have t1 := C1.out; have t2 := C2.out; rw [HRK.out]; first | (simp; done) | (simp; omega), HB.out.trans (hS.mono (by have := HWS.out; omega))⟩
        · have C2 := Lib.hid c2
          go_wp2_with fail
          exact bodyPost_ret (v := .bool false) (by have t := C2.out; simp [results, Tryz.results11, go_sem] <;> omega) rfl ⟨by have t1 := C1.out; have t2 := C2.out; rw [HRK.out]; first | (simp; done) | (simp; omega), HB.out.trans (hS.mono (by have := HWS.out; omega))⟩
      · have C1 := Lib.hid c1
        go_wp2_with fail
        exact bodyPost_ret (v := .bool false) (by simp [results, Tryz.results11, go_sem]) rfl ⟨by have t1 := C1.out; rw [HRK.out]; first | (simp; done) | (simp; omega), HB.out.trans (hS.mono (by have := HWS.out; omega))⟩
end Go.Proofs.YtbpfkeeikhhlnaaGreatDoor
