/- The document's Is: its votes, its bare, its Same. Which messages there may be, kind by kind, in the document's order. The document's Is, kind by kind. The document's Is, kind by kind. -/
import Derived.Test.YtbpfkeeikhhlnaaGreatDoorC08
import Derived.Test.YtbpfkeeikhhlnaaGreatDoorC11
import Derived.Test.YtbpfkeeikhhlnaaGreatDoorC13
import Derived.Test.YtbpfkeeikhhlnaaGreatDoorC16
import Derived.Test.YtbpfkeeikhhlnaaGreatDoorC03
import Derived.Test.YtbpfkeeikhhlnaaGreatDoorC07
namespace Go.Proofs.YtbpfkeeikhhlnaaGreatDoor
open Go.RowKit
set_option maxRecDepth 100000

set_option maxHeartbeats 8000000 in
theorem refIs_lo (w : World) (m : Mg) (c : Mc) (hm : MgAt w m c) (hok : ∀ x ∈ c.vs, (∀ y ∈ x.2.p, 0 ≤ y.s ∧ y.rq.ok) ∧ ∀ y ∈ x.2.q, 0 ≤ y.s ∧ y.rq.ok) (hl : m.vs.n ≤ 4 ∧ m.sm.n ≤ 8 ∧ m.dt.n ≤ 64 ∧ m.vt.ms.n ≤ 40 ∧ m.vt.p.n ≤ 40 ∧ m.vt.q.n ≤ 40) (hk : m.k < 1) : Calls Tryz.prog 11 #[.agg m.cells.toArray] w fun e w' => e = .returned (.bool false) ∧ Below w.heap.size w w' := by
  obtain ⟨W, hW⟩ : ∃ W, W = w.alloc (.cells m.cells.toArray 37) := ⟨_, rfl⟩
  have hbx := bx1 hW
  have hbl := bl1 hW
  have q22 : W.cell? ⟨w.heap.size, 22, none⟩ = some (.slice m.vs.a m.vs.n m.vs.c) := cell_box hbx 22
  have q23 : W.cell? ⟨w.heap.size, 23, none⟩ = some (.slice m.sm.a m.sm.n m.sm.c) := cell_box hbx 23
  have q24 : W.cell? ⟨w.heap.size, 24, none⟩ = some (.slice m.dt.a m.dt.n m.dt.c) := cell_box hbx 24
  have q19 : W.cell? ⟨w.heap.size, 19, none⟩ = some (.slice m.vt.ms.a m.vt.ms.n m.vt.ms.c) := cell_box hbx 19
  have q20 : W.cell? ⟨w.heap.size, 20, none⟩ = some (.slice m.vt.p.a m.vt.p.n m.vt.p.c) := cell_box hbx 20
  have q21 : W.cell? ⟨w.heap.size, 21, none⟩ = some (.slice m.vt.q.a m.vt.q.n m.vt.q.c) := cell_box hbx 21
  have q0 : W.cell? ⟨w.heap.size, 0, none⟩ = some (.int .u8 m.k) := cell_box hbx 0
  obtain ⟨l0, l1, l2, l3, l4, l5⟩ := hl
  have d0 : decide (4 < (m.vs.n : Int)) = false := by rw [decide_eq_false_iff_not]; omega
  have d1 : decide (8 < (m.sm.n : Int)) = false := by rw [decide_eq_false_iff_not]; omega
  have d2 : decide (64 < (m.dt.n : Int)) = false := by rw [decide_eq_false_iff_not]; omega
  have d3 : decide (40 < (m.vt.ms.n : Int)) = false := by rw [decide_eq_false_iff_not]; omega
  have d4 : decide (40 < (m.vt.p.n : Int)) = false := by rw [decide_eq_false_iff_not]; omega
  have d5 : decide (40 < (m.vt.q.n : Int)) = false := by rw [decide_eq_false_iff_not]; omega
  have hws : W.heap.size = w.heap.size + 1 := by rw [hW]; simp
  have hmW := hm.below hbl
  have HC1 := Lib.hid (fun wx (h : Below W.heap.size W wx) => refVotes_any wx m c (hmW.below h) hok)
  have HC2 := Lib.hid (fun wx => refBare_any wx m)
  have HC3 := Lib.hid (fun wx (h : Below W.heap.size W wx) => refSame_any wx m (m.bare (partsOf m.k)) c (c.bare (partsOf m.k)) (hmW.below h) ((hmW.below h).bare _ (partsOf_le m.k)))
  have hld : ∀ wx, Below W.heap.size W wx → (Instr.loadAt 37 (.pointer (some ⟨w.heap.size, 0, none⟩))).run Tryz.prog wx = .ok (.agg m.cells.toArray) wx := fun wx h => by
    have hb : wx.heap[w.heap.size]? = some (.cells m.cells.toArray 37 (0, 0)) := by rw [h.block _ (by omega)]; exact hbx
    simp only [Instr.loadAt, Instr.sureAddr, Sem.run_bind, Sem.run_pure, Result.andThen_ok, run_loadVar_row (P := Tryz.prog) wx w.heap.size 37 37 m.cells.toArray (0, 0) _ hb Tryz.underlying37 rfl (by kernel_rfl)]
  have HLD := Lib.hid hld
  have hk0 : ∀ wx, Below W.heap.size W wx → wx.cell? ⟨w.heap.size, 0, none⟩ = some (.int .u8 m.k) := fun wx h => by rw [h.cell (cell_block q0)]; exact q0
  have HK0 := Lib.hid hk0
  have HBX := Lib.hid hbx
  have HW := Lib.hid hW
  have HB := Lib.hid hbl
  have HWS := Lib.hid hws
  have HM := Lib.hid hmW
  have HKH := Lib.hid hk
  generalize hkm : m.k = kk at *
  have HKM := Lib.hid hkm
  clear hkm
  generalize hsb : sameM m c (m.bare (partsOf kk)) (c.bare (partsOf kk)) = sb at *
  have HSB := Lib.hid hsb
  generalize hvb : fitVsB c.vs m.vw = vb at *
  have HVB := Lib.hid hvb
  clear hk hsb hvb hW hbx hbl hws hmW hld hk0 hm hok l0 l1 l2 l3 l4 l5
  generalize (m.bare (partsOf kk)).cells.toArray = BA at *
  generalize m.cells.toArray = A at *
  generalize m.vs.n = n0 at *
  generalize m.sm.n = n1 at *
  generalize m.dt.n = n2 at *
  generalize m.vt.ms.n = n3 at *
  generalize m.vt.p.n = n4 at *
  generalize m.vt.q.n = n5 at *
  go_enter Tryz.func11, Tryz.ntmps11
  go_upto_region 1 with fail
  rw [← HW.out]
  go_upto_region 3 with fail
  have e1 : kk < 1 := HKH.out
  refine wp_region_held_drew (S := fun wx => Below W.heap.size W wx) (by kernel_rfl) (((Below.refl W.heap.size W).drew)) (fun hS => ?_)
  refine tg 0 (.pointer (some ⟨w.heap.size, 0, none⟩)) rfl hS ?_
  refine tk 1 (.int .u8 kk) rfl (yi_load 5 (.tmp 43) (.pointer (some ⟨w.heap.size, 0, none⟩)) rfl rfl rfl (fun wq hw => by have q := HK0.out wq hw; go_simp)) hS ?_
  refine tg 2 (.bool true) rfl hS ?_
  refine tm 3 (.bool true) rfl hS ?_
  refine tn 4 rfl hS ?_
  refine tn 5 rfl hS ?_
  refine tn 6 rfl hS ?_
  refine tm 7 (.bool true) rfl hS ?_
  refine tm 8 (.bool true) rfl hS ?_
  refine tn 9 rfl hS ?_
  refine tn 10 rfl hS ?_
  refine tn 11 rfl hS ?_
  refine tm 12 (.bool true) rfl hS ?_
  refine tm 13 (.bool true) rfl hS ?_
  refine tn 14 rfl hS ?_
  refine tn 15 rfl hS ?_
  refine tn 16 rfl hS ?_
  refine tn 17 rfl hS ?_
  refine tn 18 rfl hS ?_
  refine tm 19 (.bool true) rfl hS ?_
  refine wpAnyH_done (by kernel_rfl) ?_ _
  go_wp2_with fail
  exact bodyPost_ret (v := .bool false) (by simp [results, Tryz.results11, go_sem]) rfl ⟨rfl, HB.out.trans (hS.mono (by have := HWS.out; omega))⟩

set_option maxHeartbeats 8000000 in
theorem refIs_hi (w : World) (m : Mg) (c : Mc) (hm : MgAt w m c) (hok : ∀ x ∈ c.vs, (∀ y ∈ x.2.p, 0 ≤ y.s ∧ y.rq.ok) ∧ ∀ y ∈ x.2.q, 0 ≤ y.s ∧ y.rq.ok) (hl : m.vs.n ≤ 4 ∧ m.sm.n ≤ 8 ∧ m.dt.n ≤ 64 ∧ m.vt.ms.n ≤ 40 ∧ m.vt.p.n ≤ 40 ∧ m.vt.q.n ≤ 40) (hk : 14 < m.k) : Calls Tryz.prog 11 #[.agg m.cells.toArray] w fun e w' => e = .returned (.bool false) ∧ Below w.heap.size w w' := by
  obtain ⟨W, hW⟩ : ∃ W, W = w.alloc (.cells m.cells.toArray 37) := ⟨_, rfl⟩
  have hbx := bx1 hW
  have hbl := bl1 hW
  have q22 : W.cell? ⟨w.heap.size, 22, none⟩ = some (.slice m.vs.a m.vs.n m.vs.c) := cell_box hbx 22
  have q23 : W.cell? ⟨w.heap.size, 23, none⟩ = some (.slice m.sm.a m.sm.n m.sm.c) := cell_box hbx 23
  have q24 : W.cell? ⟨w.heap.size, 24, none⟩ = some (.slice m.dt.a m.dt.n m.dt.c) := cell_box hbx 24
  have q19 : W.cell? ⟨w.heap.size, 19, none⟩ = some (.slice m.vt.ms.a m.vt.ms.n m.vt.ms.c) := cell_box hbx 19
  have q20 : W.cell? ⟨w.heap.size, 20, none⟩ = some (.slice m.vt.p.a m.vt.p.n m.vt.p.c) := cell_box hbx 20
  have q21 : W.cell? ⟨w.heap.size, 21, none⟩ = some (.slice m.vt.q.a m.vt.q.n m.vt.q.c) := cell_box hbx 21
  have q0 : W.cell? ⟨w.heap.size, 0, none⟩ = some (.int .u8 m.k) := cell_box hbx 0
  obtain ⟨l0, l1, l2, l3, l4, l5⟩ := hl
  have d0 : decide (4 < (m.vs.n : Int)) = false := by rw [decide_eq_false_iff_not]; omega
  have d1 : decide (8 < (m.sm.n : Int)) = false := by rw [decide_eq_false_iff_not]; omega
  have d2 : decide (64 < (m.dt.n : Int)) = false := by rw [decide_eq_false_iff_not]; omega
  have d3 : decide (40 < (m.vt.ms.n : Int)) = false := by rw [decide_eq_false_iff_not]; omega
  have d4 : decide (40 < (m.vt.p.n : Int)) = false := by rw [decide_eq_false_iff_not]; omega
  have d5 : decide (40 < (m.vt.q.n : Int)) = false := by rw [decide_eq_false_iff_not]; omega
  have hws : W.heap.size = w.heap.size + 1 := by rw [hW]; simp
  have hmW := hm.below hbl
  have HC1 := Lib.hid (fun wx (h : Below W.heap.size W wx) => refVotes_any wx m c (hmW.below h) hok)
  have HC2 := Lib.hid (fun wx => refBare_any wx m)
  have HC3 := Lib.hid (fun wx (h : Below W.heap.size W wx) => refSame_any wx m (m.bare (partsOf m.k)) c (c.bare (partsOf m.k)) (hmW.below h) ((hmW.below h).bare _ (partsOf_le m.k)))
  have hld : ∀ wx, Below W.heap.size W wx → (Instr.loadAt 37 (.pointer (some ⟨w.heap.size, 0, none⟩))).run Tryz.prog wx = .ok (.agg m.cells.toArray) wx := fun wx h => by
    have hb : wx.heap[w.heap.size]? = some (.cells m.cells.toArray 37 (0, 0)) := by rw [h.block _ (by omega)]; exact hbx
    simp only [Instr.loadAt, Instr.sureAddr, Sem.run_bind, Sem.run_pure, Result.andThen_ok, run_loadVar_row (P := Tryz.prog) wx w.heap.size 37 37 m.cells.toArray (0, 0) _ hb Tryz.underlying37 rfl (by kernel_rfl)]
  have HLD := Lib.hid hld
  have hk0 : ∀ wx, Below W.heap.size W wx → wx.cell? ⟨w.heap.size, 0, none⟩ = some (.int .u8 m.k) := fun wx h => by rw [h.cell (cell_block q0)]; exact q0
  have HK0 := Lib.hid hk0
  have HBX := Lib.hid hbx
  have HW := Lib.hid hW
  have HB := Lib.hid hbl
  have HWS := Lib.hid hws
  have HM := Lib.hid hmW
  have HKH := Lib.hid hk
  generalize hkm : m.k = kk at *
  have HKM := Lib.hid hkm
  clear hkm
  generalize hsb : sameM m c (m.bare (partsOf kk)) (c.bare (partsOf kk)) = sb at *
  have HSB := Lib.hid hsb
  generalize hvb : fitVsB c.vs m.vw = vb at *
  have HVB := Lib.hid hvb
  clear hk hsb hvb hW hbx hbl hws hmW hld hk0 hm hok l0 l1 l2 l3 l4 l5
  generalize (m.bare (partsOf kk)).cells.toArray = BA at *
  generalize m.cells.toArray = A at *
  generalize m.vs.n = n0 at *
  generalize m.sm.n = n1 at *
  generalize m.dt.n = n2 at *
  generalize m.vt.ms.n = n3 at *
  generalize m.vt.p.n = n4 at *
  generalize m.vt.q.n = n5 at *
  go_enter Tryz.func11, Tryz.ntmps11
  go_upto_region 1 with fail
  rw [← HW.out]
  go_upto_region 3 with fail
  have e1 : ¬ kk < 1 := by have := HKH.out; have := HKM.out; omega
  have e2 : 14 < kk := by have := HKH.out; have := HKM.out; omega
  refine wp_region_held_drew (S := fun wx => Below W.heap.size W wx) (by kernel_rfl) (((Below.refl W.heap.size W).drew)) (fun hS => ?_)
  refine tg 0 (.pointer (some ⟨w.heap.size, 0, none⟩)) rfl hS ?_
  refine tk 1 (.int .u8 kk) rfl (yi_load 5 (.tmp 43) (.pointer (some ⟨w.heap.size, 0, none⟩)) rfl rfl rfl (fun wq hw => by have q := HK0.out wq hw; go_simp)) hS ?_
  refine tg 2 (.bool false) rfl hS ?_
  refine tm 3 (.bool false) rfl hS ?_
  refine tg 4 (.pointer (some ⟨w.heap.size, 0, none⟩)) rfl hS ?_
  refine tk 5 (.int .u8 kk) rfl (yi_load 5 (.tmp 47) (.pointer (some ⟨w.heap.size, 0, none⟩)) rfl rfl rfl (fun wq hw => by have q := HK0.out wq hw; go_simp)) hS ?_
  refine tg 6 (.bool true) rfl hS ?_
  refine tm 7 (.bool true) rfl hS ?_
  refine tm 8 (.bool true) rfl hS ?_
  refine tn 9 rfl hS ?_
  refine tn 10 rfl hS ?_
  refine tn 11 rfl hS ?_
  refine tm 12 (.bool true) rfl hS ?_
  refine tm 13 (.bool true) rfl hS ?_
  refine tn 14 rfl hS ?_
  refine tn 15 rfl hS ?_
  refine tn 16 rfl hS ?_
  refine tn 17 rfl hS ?_
  refine tn 18 rfl hS ?_
  refine tm 19 (.bool true) rfl hS ?_
  refine wpAnyH_done (by kernel_rfl) ?_ _
  go_wp2_with fail
  exact bodyPost_ret (v := .bool false) (by simp [results, Tryz.results11, go_sem]) rfl ⟨rfl, HB.out.trans (hS.mono (by have := HWS.out; omega))⟩

set_option maxHeartbeats 8000000 in
theorem refIs_votes (w : World) (m : Mg) (c : Mc) (hm : MgAt w m c) (hok : ∀ x ∈ c.vs, (∀ y ∈ x.2.p, 0 ≤ y.s ∧ y.rq.ok) ∧ ∀ y ∈ x.2.q, 0 ≤ y.s ∧ y.rq.ok) (hl : m.vs.n ≤ 4 ∧ m.sm.n ≤ 8 ∧ m.dt.n ≤ 64 ∧ m.vt.ms.n ≤ 40 ∧ m.vt.p.n ≤ 40 ∧ m.vt.q.n ≤ 40) (hk : 1 ≤ m.k ∧ m.k ≤ 14) (hv : fitVsB c.vs m.vw = false) : Calls Tryz.prog 11 #[.agg m.cells.toArray] w fun e w' => e = .returned (.bool false) ∧ Below w.heap.size w w' := by
  obtain ⟨W, hW⟩ : ∃ W, W = w.alloc (.cells m.cells.toArray 37) := ⟨_, rfl⟩
  have hbx := bx1 hW
  have hbl := bl1 hW
  have q22 : W.cell? ⟨w.heap.size, 22, none⟩ = some (.slice m.vs.a m.vs.n m.vs.c) := cell_box hbx 22
  have q23 : W.cell? ⟨w.heap.size, 23, none⟩ = some (.slice m.sm.a m.sm.n m.sm.c) := cell_box hbx 23
  have q24 : W.cell? ⟨w.heap.size, 24, none⟩ = some (.slice m.dt.a m.dt.n m.dt.c) := cell_box hbx 24
  have q19 : W.cell? ⟨w.heap.size, 19, none⟩ = some (.slice m.vt.ms.a m.vt.ms.n m.vt.ms.c) := cell_box hbx 19
  have q20 : W.cell? ⟨w.heap.size, 20, none⟩ = some (.slice m.vt.p.a m.vt.p.n m.vt.p.c) := cell_box hbx 20
  have q21 : W.cell? ⟨w.heap.size, 21, none⟩ = some (.slice m.vt.q.a m.vt.q.n m.vt.q.c) := cell_box hbx 21
  have q0 : W.cell? ⟨w.heap.size, 0, none⟩ = some (.int .u8 m.k) := cell_box hbx 0
  obtain ⟨l0, l1, l2, l3, l4, l5⟩ := hl
  have d0 : decide (4 < (m.vs.n : Int)) = false := by rw [decide_eq_false_iff_not]; omega
  have d1 : decide (8 < (m.sm.n : Int)) = false := by rw [decide_eq_false_iff_not]; omega
  have d2 : decide (64 < (m.dt.n : Int)) = false := by rw [decide_eq_false_iff_not]; omega
  have d3 : decide (40 < (m.vt.ms.n : Int)) = false := by rw [decide_eq_false_iff_not]; omega
  have d4 : decide (40 < (m.vt.p.n : Int)) = false := by rw [decide_eq_false_iff_not]; omega
  have d5 : decide (40 < (m.vt.q.n : Int)) = false := by rw [decide_eq_false_iff_not]; omega
  have hws : W.heap.size = w.heap.size + 1 := by rw [hW]; simp
  have hmW := hm.below hbl
  have HC1 := Lib.hid (fun wx (h : Below W.heap.size W wx) => refVotes_any wx m c (hmW.below h) hok)
  have HC2 := Lib.hid (fun wx => refBare_any wx m)
  have HC3 := Lib.hid (fun wx (h : Below W.heap.size W wx) => refSame_any wx m (m.bare (partsOf m.k)) c (c.bare (partsOf m.k)) (hmW.below h) ((hmW.below h).bare _ (partsOf_le m.k)))
  have hld : ∀ wx, Below W.heap.size W wx → (Instr.loadAt 37 (.pointer (some ⟨w.heap.size, 0, none⟩))).run Tryz.prog wx = .ok (.agg m.cells.toArray) wx := fun wx h => by
    have hb : wx.heap[w.heap.size]? = some (.cells m.cells.toArray 37 (0, 0)) := by rw [h.block _ (by omega)]; exact hbx
    simp only [Instr.loadAt, Instr.sureAddr, Sem.run_bind, Sem.run_pure, Result.andThen_ok, run_loadVar_row (P := Tryz.prog) wx w.heap.size 37 37 m.cells.toArray (0, 0) _ hb Tryz.underlying37 rfl (by kernel_rfl)]
  have HLD := Lib.hid hld
  have hk0 : ∀ wx, Below W.heap.size W wx → wx.cell? ⟨w.heap.size, 0, none⟩ = some (.int .u8 m.k) := fun wx h => by rw [h.cell (cell_block q0)]; exact q0
  have HK0 := Lib.hid hk0
  have HBX := Lib.hid hbx
  have HW := Lib.hid hW
  have HB := Lib.hid hbl
  have HWS := Lib.hid hws
  have HM := Lib.hid hmW
  have HKH := Lib.hid hk
  have HVH := Lib.hid hv
  generalize hkm : m.k = kk at *
  have HKM := Lib.hid hkm
  clear hkm
  generalize hsb : sameM m c (m.bare (partsOf kk)) (c.bare (partsOf kk)) = sb at *
  have HSB := Lib.hid hsb
  generalize hvb : fitVsB c.vs m.vw = vb at *
  have HVB := Lib.hid hvb
  clear hk hv hsb hvb hW hbx hbl hws hmW hld hk0 hm hok l0 l1 l2 l3 l4 l5
  generalize (m.bare (partsOf kk)).cells.toArray = BA at *
  generalize m.cells.toArray = A at *
  generalize m.vs.n = n0 at *
  generalize m.sm.n = n1 at *
  generalize m.dt.n = n2 at *
  generalize m.vt.ms.n = n3 at *
  generalize m.vt.p.n = n4 at *
  generalize m.vt.q.n = n5 at *
  go_enter Tryz.func11, Tryz.ntmps11
  go_upto_region 1 with fail
  rw [← HW.out]
  go_upto_region 3 with fail
  have e1 : ¬ kk < 1 := by have := HKH.out; have := HKM.out; omega
  have e2 : ¬ 14 < kk := by have := HKH.out; have := HKM.out; omega
  have C1 := Lib.hid (fun wx h => by have q := HC1.out wx h; rwa [show vb = false from HVH.out] at q)
  refine wp_region_held_drew (S := fun wx => Below W.heap.size W wx) (by kernel_rfl) (((Below.refl W.heap.size W).drew)) (fun hS => ?_)
  refine tg 0 (.pointer (some ⟨w.heap.size, 0, none⟩)) rfl hS ?_
  refine tk 1 (.int .u8 kk) rfl (yi_load 5 (.tmp 43) (.pointer (some ⟨w.heap.size, 0, none⟩)) rfl rfl rfl (fun wq hw => by have q := HK0.out wq hw; go_simp)) hS ?_
  refine tg 2 (.bool false) rfl hS ?_
  refine tm 3 (.bool false) rfl hS ?_
  refine tg 4 (.pointer (some ⟨w.heap.size, 0, none⟩)) rfl hS ?_
  refine tk 5 (.int .u8 kk) rfl (yi_load 5 (.tmp 47) (.pointer (some ⟨w.heap.size, 0, none⟩)) rfl rfl rfl (fun wq hw => by have q := HK0.out wq hw; go_simp)) hS ?_
  refine tg 6 (.bool false) rfl hS ?_
  refine tm 7 (.bool false) rfl hS ?_
  refine tm 8 (.bool false) rfl hS ?_
  refine tk 9 (.agg A) rfl (yi_load 37 (.tmp 1) (.pointer (some ⟨w.heap.size, 0, none⟩)) rfl rfl rfl (fun wq hw => HLD.out wq hw)) hS ?_
  refine rdy1 10 rfl (fun K hK => ?_)
  rw [if_pos (by rfl)]
  go_simp
  refine Calls.mono (C1.out _ hS) ?_
  rintro e w4 ⟨rfl, b4⟩
  have h4 : Below W.heap.size W w4 := hS.trans (b4.mono hS.size)
  refine hK.out _ _ (h4) (fun hS => ?_)
  clear hK K
  refine tm 11 (.bool true) rfl hS ?_
  refine tm 12 (.bool true) rfl hS ?_
  refine tm 13 (.bool true) rfl hS ?_
  refine tn 14 rfl hS ?_
  refine tn 15 rfl hS ?_
  refine tn 16 rfl hS ?_
  refine tn 17 rfl hS ?_
  refine tn 18 rfl hS ?_
  refine tm 19 (.bool true) rfl hS ?_
  refine wpAnyH_done (by kernel_rfl) ?_ _
  go_wp2_with fail
  exact bodyPost_ret (v := .bool false) (by simp [results, Tryz.results11, go_sem]) rfl ⟨rfl, HB.out.trans (hS.mono (by have := HWS.out; omega))⟩

set_option maxHeartbeats 8000000 in
theorem refIs_same (w : World) (m : Mg) (c : Mc) (hm : MgAt w m c) (hok : ∀ x ∈ c.vs, (∀ y ∈ x.2.p, 0 ≤ y.s ∧ y.rq.ok) ∧ ∀ y ∈ x.2.q, 0 ≤ y.s ∧ y.rq.ok) (hl : m.vs.n ≤ 4 ∧ m.sm.n ≤ 8 ∧ m.dt.n ≤ 64 ∧ m.vt.ms.n ≤ 40 ∧ m.vt.p.n ≤ 40 ∧ m.vt.q.n ≤ 40) (hk : 1 ≤ m.k ∧ m.k ≤ 14) (hv : fitVsB c.vs m.vw = true) (hs : sameM m c (m.bare (partsOf m.k)) (c.bare (partsOf m.k)) = false) : Calls Tryz.prog 11 #[.agg m.cells.toArray] w fun e w' => e = .returned (.bool false) ∧ Below w.heap.size w w' := by
  obtain ⟨W, hW⟩ : ∃ W, W = w.alloc (.cells m.cells.toArray 37) := ⟨_, rfl⟩
  have hbx := bx1 hW
  have hbl := bl1 hW
  have q22 : W.cell? ⟨w.heap.size, 22, none⟩ = some (.slice m.vs.a m.vs.n m.vs.c) := cell_box hbx 22
  have q23 : W.cell? ⟨w.heap.size, 23, none⟩ = some (.slice m.sm.a m.sm.n m.sm.c) := cell_box hbx 23
  have q24 : W.cell? ⟨w.heap.size, 24, none⟩ = some (.slice m.dt.a m.dt.n m.dt.c) := cell_box hbx 24
  have q19 : W.cell? ⟨w.heap.size, 19, none⟩ = some (.slice m.vt.ms.a m.vt.ms.n m.vt.ms.c) := cell_box hbx 19
  have q20 : W.cell? ⟨w.heap.size, 20, none⟩ = some (.slice m.vt.p.a m.vt.p.n m.vt.p.c) := cell_box hbx 20
  have q21 : W.cell? ⟨w.heap.size, 21, none⟩ = some (.slice m.vt.q.a m.vt.q.n m.vt.q.c) := cell_box hbx 21
  have q0 : W.cell? ⟨w.heap.size, 0, none⟩ = some (.int .u8 m.k) := cell_box hbx 0
  obtain ⟨l0, l1, l2, l3, l4, l5⟩ := hl
  have d0 : decide (4 < (m.vs.n : Int)) = false := by rw [decide_eq_false_iff_not]; omega
  have d1 : decide (8 < (m.sm.n : Int)) = false := by rw [decide_eq_false_iff_not]; omega
  have d2 : decide (64 < (m.dt.n : Int)) = false := by rw [decide_eq_false_iff_not]; omega
  have d3 : decide (40 < (m.vt.ms.n : Int)) = false := by rw [decide_eq_false_iff_not]; omega
  have d4 : decide (40 < (m.vt.p.n : Int)) = false := by rw [decide_eq_false_iff_not]; omega
  have d5 : decide (40 < (m.vt.q.n : Int)) = false := by rw [decide_eq_false_iff_not]; omega
  have hws : W.heap.size = w.heap.size + 1 := by rw [hW]; simp
  have hmW := hm.below hbl
  have HC1 := Lib.hid (fun wx (h : Below W.heap.size W wx) => refVotes_any wx m c (hmW.below h) hok)
  have HC2 := Lib.hid (fun wx => refBare_any wx m)
  have HC3 := Lib.hid (fun wx (h : Below W.heap.size W wx) => refSame_any wx m (m.bare (partsOf m.k)) c (c.bare (partsOf m.k)) (hmW.below h) ((hmW.below h).bare _ (partsOf_le m.k)))
  have hld : ∀ wx, Below W.heap.size W wx → (Instr.loadAt 37 (.pointer (some ⟨w.heap.size, 0, none⟩))).run Tryz.prog wx = .ok (.agg m.cells.toArray) wx := fun wx h => by
    have hb : wx.heap[w.heap.size]? = some (.cells m.cells.toArray 37 (0, 0)) := by rw [h.block _ (by omega)]; exact hbx
    simp only [Instr.loadAt, Instr.sureAddr, Sem.run_bind, Sem.run_pure, Result.andThen_ok, run_loadVar_row (P := Tryz.prog) wx w.heap.size 37 37 m.cells.toArray (0, 0) _ hb Tryz.underlying37 rfl (by kernel_rfl)]
  have HLD := Lib.hid hld
  have hk0 : ∀ wx, Below W.heap.size W wx → wx.cell? ⟨w.heap.size, 0, none⟩ = some (.int .u8 m.k) := fun wx h => by rw [h.cell (cell_block q0)]; exact q0
  have HK0 := Lib.hid hk0
  have HBX := Lib.hid hbx
  have HW := Lib.hid hW
  have HB := Lib.hid hbl
  have HWS := Lib.hid hws
  have HM := Lib.hid hmW
  have HKH := Lib.hid hk
  have HVH := Lib.hid hv
  have HSH := Lib.hid hs
  generalize hkm : m.k = kk at *
  have HKM := Lib.hid hkm
  clear hkm
  generalize hsb : sameM m c (m.bare (partsOf kk)) (c.bare (partsOf kk)) = sb at *
  have HSB := Lib.hid hsb
  generalize hvb : fitVsB c.vs m.vw = vb at *
  have HVB := Lib.hid hvb
  clear hk hv hs hsb hvb hW hbx hbl hws hmW hld hk0 hm hok l0 l1 l2 l3 l4 l5
  generalize (m.bare (partsOf kk)).cells.toArray = BA at *
  generalize m.cells.toArray = A at *
  generalize m.vs.n = n0 at *
  generalize m.sm.n = n1 at *
  generalize m.dt.n = n2 at *
  generalize m.vt.ms.n = n3 at *
  generalize m.vt.p.n = n4 at *
  generalize m.vt.q.n = n5 at *
  go_enter Tryz.func11, Tryz.ntmps11
  go_upto_region 1 with fail
  rw [← HW.out]
  go_upto_region 3 with fail
  have e1 : ¬ kk < 1 := by have := HKH.out; have := HKM.out; omega
  have e2 : ¬ 14 < kk := by have := HKH.out; have := HKM.out; omega
  have C1 := Lib.hid (fun wx h => by have q := HC1.out wx h; rwa [show vb = true from HVH.out] at q)
  have C3 := Lib.hid (fun wx h => by have q := HC3.out wx h; rwa [show sb = false from HSH.out] at q)
  refine wp_region_held_drew (S := fun wx => Below W.heap.size W wx) (by kernel_rfl) (((Below.refl W.heap.size W).drew)) (fun hS => ?_)
  refine tg 0 (.pointer (some ⟨w.heap.size, 0, none⟩)) rfl hS ?_
  refine tk 1 (.int .u8 kk) rfl (yi_load 5 (.tmp 43) (.pointer (some ⟨w.heap.size, 0, none⟩)) rfl rfl rfl (fun wq hw => by have q := HK0.out wq hw; go_simp)) hS ?_
  refine tg 2 (.bool false) rfl hS ?_
  refine tm 3 (.bool false) rfl hS ?_
  refine tg 4 (.pointer (some ⟨w.heap.size, 0, none⟩)) rfl hS ?_
  refine tk 5 (.int .u8 kk) rfl (yi_load 5 (.tmp 47) (.pointer (some ⟨w.heap.size, 0, none⟩)) rfl rfl rfl (fun wq hw => by have q := HK0.out wq hw; go_simp)) hS ?_
  refine tg 6 (.bool false) rfl hS ?_
  refine tm 7 (.bool false) rfl hS ?_
  refine tm 8 (.bool false) rfl hS ?_
  refine tk 9 (.agg A) rfl (yi_load 37 (.tmp 1) (.pointer (some ⟨w.heap.size, 0, none⟩)) rfl rfl rfl (fun wq hw => HLD.out wq hw)) hS ?_
  refine rdy1 10 rfl (fun K hK => ?_)
  rw [if_pos (by rfl)]
  go_simp
  refine Calls.mono (C1.out _ hS) ?_
  rintro e w4 ⟨rfl, b4⟩
  have h4 : Below W.heap.size W w4 := hS.trans (b4.mono hS.size)
  refine hK.out _ _ (h4) (fun hS => ?_)
  clear hK K
  refine tm 11 (.bool false) rfl hS ?_
  refine tm 12 (.bool false) rfl hS ?_
  refine tm 13 (.bool false) rfl hS ?_
  refine tk 14 (.agg A) rfl (yi_load 37 (.tmp 1) (.pointer (some ⟨w.heap.size, 0, none⟩)) rfl rfl rfl (fun wq hw => HLD.out wq hw)) hS ?_
  refine tk 15 (.agg A) rfl (yi_load 37 (.tmp 1) (.pointer (some ⟨w.heap.size, 0, none⟩)) rfl rfl rfl (fun wq hw => HLD.out wq hw)) hS ?_
  refine rdy1 16 rfl (fun K hK => ?_)
  rw [if_pos (by rfl)]
  go_simp
  refine Calls.mono (HC2.out _) ?_
  rintro e w5 ⟨rfl, b5⟩
  have h5 : Below W.heap.size W w5 := hS.trans (b5.mono hS.size)
  refine hK.out _ _ (h5) (fun hS => ?_)
  clear hK K
  refine rdy1 17 rfl (fun K hK => ?_)
  rw [if_pos (by rfl)]
  go_simp
  refine Calls.mono (C3.out _ hS) ?_
  rintro e w6 ⟨rfl, b6⟩
  have h6 : Below W.heap.size W w6 := hS.trans (b6.mono hS.size)
  refine hK.out _ _ (h6) (fun hS => ?_)
  clear hK K
  refine tm 18 (.bool true) rfl hS ?_
  refine tm 19 (.bool true) rfl hS ?_
  refine wpAnyH_done (by kernel_rfl) ?_ _
  go_wp2_with fail
  exact bodyPost_ret (v := .bool false) (by simp [results, Tryz.results11, go_sem]) rfl ⟨rfl, HB.out.trans (hS.mono (by have := HWS.out; omega))⟩

theorem rk_pre (w : World) (m : Mg) (c : Mc) (hm : MgAt w m c) (hok : ∀ x ∈ c.vs, (∀ y ∈ x.2.p, 0 ≤ y.s ∧ y.rq.ok) ∧ ∀ y ∈ x.2.q, 0 ≤ y.s ∧ y.rq.ok) (hl : m.vs.n ≤ 4 ∧ m.sm.n ≤ 8 ∧ m.dt.n ≤ 64 ∧ m.vt.ms.n ≤ 40 ∧ m.vt.p.n ≤ 40 ∧ m.vt.q.n ≤ 40) : ∃ W, W = w.alloc (.cells m.cells.toArray 37) ∧ W.heap[w.heap.size]? = some (.cells m.cells.toArray 37 (0, 0)) ∧ Below w.heap.size w W ∧ W.cell? ⟨w.heap.size, 22, none⟩ = some (.slice m.vs.a m.vs.n m.vs.c) ∧ W.cell? ⟨w.heap.size, 23, none⟩ = some (.slice m.sm.a m.sm.n m.sm.c) ∧ W.cell? ⟨w.heap.size, 24, none⟩ = some (.slice m.dt.a m.dt.n m.dt.c) ∧ W.cell? ⟨w.heap.size, 19, none⟩ = some (.slice m.vt.ms.a m.vt.ms.n m.vt.ms.c) ∧ W.cell? ⟨w.heap.size, 20, none⟩ = some (.slice m.vt.p.a m.vt.p.n m.vt.p.c) ∧ W.cell? ⟨w.heap.size, 21, none⟩ = some (.slice m.vt.q.a m.vt.q.n m.vt.q.c) ∧ W.cell? ⟨w.heap.size, 0, none⟩ = some (.int .u8 m.k) ∧ decide (4 < (m.vs.n : Int)) = false ∧ decide (8 < (m.sm.n : Int)) = false ∧ decide (64 < (m.dt.n : Int)) = false ∧ decide (40 < (m.vt.ms.n : Int)) = false ∧ decide (40 < (m.vt.p.n : Int)) = false ∧ decide (40 < (m.vt.q.n : Int)) = false ∧ W.heap.size = w.heap.size + 1 ∧ MgAt W m c ∧ Hid (∀ wx, Below W.heap.size W wx → Calls Tryz.prog 34 #[.agg m.cells.toArray] wx fun e w' => e = .returned (.bool (fitVsB c.vs m.vw)) ∧ Below wx.heap.size wx w') ∧ Hid (∀ wx, Calls Tryz.prog 35 #[.agg m.cells.toArray] wx fun e w' => e = .returned (.agg (m.bare (partsOf m.k)).cells.toArray) ∧ Below wx.heap.size wx w') ∧ Hid (∀ wx, Below W.heap.size W wx → Calls Tryz.prog 17 #[.agg m.cells.toArray, .agg (m.bare (partsOf m.k)).cells.toArray] wx fun e w' => e = .returned (.bool (sameM m c (m.bare (partsOf m.k)) (c.bare (partsOf m.k)))) ∧ Below wx.heap.size wx w') ∧ (∀ wx, Below W.heap.size W wx → (Instr.loadAt 37 (.pointer (some ⟨w.heap.size, 0, none⟩))).run Tryz.prog wx = .ok (.agg m.cells.toArray) wx) ∧ ∀ wx, Below W.heap.size W wx → wx.cell? ⟨w.heap.size, 0, none⟩ = some (.int .u8 m.k) := by
  obtain ⟨W, hW⟩ : ∃ W, W = w.alloc (.cells m.cells.toArray 37) := ⟨_, rfl⟩
  have hbx := bx1 hW
  have hbl := bl1 hW
  have q22 : W.cell? ⟨w.heap.size, 22, none⟩ = some (.slice m.vs.a m.vs.n m.vs.c) := cell_box hbx 22
  have q23 : W.cell? ⟨w.heap.size, 23, none⟩ = some (.slice m.sm.a m.sm.n m.sm.c) := cell_box hbx 23
  have q24 : W.cell? ⟨w.heap.size, 24, none⟩ = some (.slice m.dt.a m.dt.n m.dt.c) := cell_box hbx 24
  have q19 : W.cell? ⟨w.heap.size, 19, none⟩ = some (.slice m.vt.ms.a m.vt.ms.n m.vt.ms.c) := cell_box hbx 19
  have q20 : W.cell? ⟨w.heap.size, 20, none⟩ = some (.slice m.vt.p.a m.vt.p.n m.vt.p.c) := cell_box hbx 20
  have q21 : W.cell? ⟨w.heap.size, 21, none⟩ = some (.slice m.vt.q.a m.vt.q.n m.vt.q.c) := cell_box hbx 21
  have q0 : W.cell? ⟨w.heap.size, 0, none⟩ = some (.int .u8 m.k) := cell_box hbx 0
  obtain ⟨l0, l1, l2, l3, l4, l5⟩ := hl
  have d0 : decide (4 < (m.vs.n : Int)) = false := by rw [decide_eq_false_iff_not]; omega
  have d1 : decide (8 < (m.sm.n : Int)) = false := by rw [decide_eq_false_iff_not]; omega
  have d2 : decide (64 < (m.dt.n : Int)) = false := by rw [decide_eq_false_iff_not]; omega
  have d3 : decide (40 < (m.vt.ms.n : Int)) = false := by rw [decide_eq_false_iff_not]; omega
  have d4 : decide (40 < (m.vt.p.n : Int)) = false := by rw [decide_eq_false_iff_not]; omega
  have d5 : decide (40 < (m.vt.q.n : Int)) = false := by rw [decide_eq_false_iff_not]; omega
  have hws : W.heap.size = w.heap.size + 1 := by rw [hW]; simp
  have hmW := hm.below hbl
  have HC1 := Lib.hid (fun wx (h : Below W.heap.size W wx) => refVotes_any wx m c (hmW.below h) hok)
  have HC2 := Lib.hid (fun wx => refBare_any wx m)
  have HC3 := Lib.hid (fun wx (h : Below W.heap.size W wx) => refSame_any wx m (m.bare (partsOf m.k)) c (c.bare (partsOf m.k)) (hmW.below h) ((hmW.below h).bare _ (partsOf_le m.k)))
  have hld : ∀ wx, Below W.heap.size W wx → (Instr.loadAt 37 (.pointer (some ⟨w.heap.size, 0, none⟩))).run Tryz.prog wx = .ok (.agg m.cells.toArray) wx := fun wx h => by
    have hb : wx.heap[w.heap.size]? = some (.cells m.cells.toArray 37 (0, 0)) := by rw [h.block _ (by omega)]; exact hbx
    simp only [Instr.loadAt, Instr.sureAddr, Sem.run_bind, Sem.run_pure, Result.andThen_ok, run_loadVar_row (P := Tryz.prog) wx w.heap.size 37 37 m.cells.toArray (0, 0) _ hb Tryz.underlying37 rfl (by kernel_rfl)]
  have hk0 : ∀ wx, Below W.heap.size W wx → wx.cell? ⟨w.heap.size, 0, none⟩ = some (.int .u8 m.k) := fun wx h => by rw [h.cell (cell_block q0)]; exact q0
  exact ⟨W, hW, hbx, hbl, q22, q23, q24, q19, q20, q21, q0, d0, d1, d2, d3, d4, d5, hws, hmW, HC1, HC2, HC3, hld, hk0⟩

/-- a client's place -/
def cl (x : Int) : Bool := decide (11 ≤ x) && decide (x ≤ 14)
theorem isM_by {m : Mg} {c : Mc} (hs : sameM m c (m.bare (partsOf m.k)) (c.bare (partsOf m.k)) = true) : isM m c = (!decide (partsOf m.k = []) && (headB m && (partsOf m.k).all (fitB m (voteB m.vt c.vt) (fitVsB c.vs m.vw)))) := by
  unfold isM isB
  rw [hs, Bool.true_and]
theorem rq_client {r : Rq} (hi : r.is = true) (h0 : ¬ r = Rq.zero) : 1 ≤ r.c ∧ r.c ≤ 4 := by
  unfold Rq.is at hi
  rw [decide_eq_false h0] at hi
  simp only [Bool.false_or, Bool.and_eq_true, decide_eq_true_eq] at hi
  exact hi.1
theorem real_is (r : Rq) (f : Int) (hf : 0 ≤ f ∧ f ≤ 255) : realB r f = (cl f && (r.is && (!decide (r = Rq.zero) && decide (r.c = (f - 10) % 256)))) := by
  unfold realB
  by_cases h0 : r = Rq.zero
  · rw [decide_eq_true h0]; simp
  · rw [decide_eq_false h0]
    cases hi : r.is with
    | false => simp
    | true =>
      have hc : 1 ≤ r.c ∧ r.c ≤ 4 := rq_client hi h0
      simp only [Bool.not_false, Bool.true_and]
      unfold cl
      rw [Bool.eq_iff_iff]
      simp only [Bool.and_eq_true, decide_eq_true_eq]
      omega
theorem isM_k1 {m : Mg} {c : Mc} (hk : m.k = 1) (hf : 0 ≤ m.f ∧ m.f ≤ 255) (hs : sameM m c (m.bare (partsOf m.k)) (c.bare (partsOf m.k)) = true) : isM m c = ((cl m.f) && ((decide (m.e = 0)) && ((decide (m.t < 4)) && ((m.rq.is) && ((!decide (m.rq = Rq.zero)) && (decide (m.rq.c = (m.f - 10) % 256))))))) := by
  rw [isM_by hs]
  unfold headB fitB reqB
  rw [hk]
  simp only [partsOf, real_is _ _ hf]
  simp [isRp, isVw, isNv, isSq, isPl, isPh]
  rw [Bool.eq_iff_iff]
  simp only [Bool.and_eq_true, decide_eq_true_eq, Bool.not_eq_true', decide_eq_false_iff_not]
  first | omega | (constructor <;> (intro h; simp_all <;> omega)) | grind
theorem isM_k2 {m : Mg} {c : Mc} (hk : m.k = 2) (hs : sameM m c (m.bare (partsOf m.k)) (c.bare (partsOf m.k)) = true) : isM m c = ((isRp m.f && isEp m.e) && ((decide (m.t < 4)) && ((decide (m.vw ≤ 1048576)) && ((decide (1 ≤ m.sq)) && ((decide (m.sq ≤ 1073741824)) && (m.rq.is)))))) := by
  rw [isM_by hs]
  unfold headB fitB reqB
  rw [hk]
  simp [partsOf, isRp, isEp, isVw, isNv, isSq, isPl, isPh]
  rw [Bool.eq_iff_iff]
  simp only [Bool.and_eq_true, decide_eq_true_eq]
  first | omega | (constructor <;> (intro h; simp_all <;> omega)) | grind
theorem isM_k3 {m : Mg} {c : Mc} (hk : m.k = 3) (hs : sameM m c (m.bare (partsOf m.k)) (c.bare (partsOf m.k)) = true) : isM m c = ((isRp m.f && isEp m.e) && ((decide (m.t < 4)) && ((decide (m.vw ≤ 1048576)) && ((decide (1 ≤ m.sq)) && ((decide (m.sq ≤ 1073741824)) && (m.rq.is)))))) := by
  rw [isM_by hs]
  unfold headB fitB reqB
  rw [hk]
  simp [partsOf, isRp, isEp, isVw, isNv, isSq, isPl, isPh]
  rw [Bool.eq_iff_iff]
  simp only [Bool.and_eq_true, decide_eq_true_eq]
  first | omega | (constructor <;> (intro h; simp_all <;> omega)) | grind
theorem isM_k4 {m : Mg} {c : Mc} (hk : m.k = 4) (hs : sameM m c (m.bare (partsOf m.k)) (c.bare (partsOf m.k)) = true) : isM m c = ((isRp m.f && isEp m.e) && ((decide (m.t < 4)) && ((decide (m.vw ≤ 1048576)) && ((decide (1 ≤ m.sq)) && ((decide (m.sq ≤ 1073741824)) && (m.rq.is)))))) := by
  rw [isM_by hs]
  unfold headB fitB reqB
  rw [hk]
  simp [partsOf, isRp, isEp, isVw, isNv, isSq, isPl, isPh]
  rw [Bool.eq_iff_iff]
  simp only [Bool.and_eq_true, decide_eq_true_eq]
  first | omega | (constructor <;> (intro h; simp_all <;> omega)) | grind
theorem isM_k5 {m : Mg} {c : Mc} (hk : m.k = 5) (hs : sameM m c (m.bare (partsOf m.k)) (c.bare (partsOf m.k)) = true) : isM m c = ((isRp m.f && isEp m.e) && ((decide (m.t < 4)) && (decide (m.sq ≤ 1073741824)))) := by
  rw [isM_by hs]
  unfold headB fitB reqB
  rw [hk]
  simp [partsOf, isRp, isEp, isVw, isNv, isSq, isPl, isPh]
  rw [Bool.eq_iff_iff]
  simp only [Bool.and_eq_true, decide_eq_true_eq]
  first | omega | (constructor <;> (intro h; simp_all <;> omega)) | grind
theorem isM_k6 {m : Mg} {c : Mc} (hk : m.k = 6) (hs : sameM m c (m.bare (partsOf m.k)) (c.bare (partsOf m.k)) = true) : isM m c = ((isRp m.f && isEp m.e) && ((decide (m.t < 4)) && ((voteB m.vt c.vt) && ((decide (m.vt.f = m.f)) && (decide (m.vt.e = m.e)))))) := by
  rw [isM_by hs]
  unfold headB fitB reqB
  rw [hk]
  simp [partsOf, isRp, isEp, isVw, isNv, isSq, isPl, isPh]
  rw [Bool.eq_iff_iff]
  simp only [Bool.and_eq_true, decide_eq_true_eq]
  first | omega | (constructor <;> (intro h; simp_all <;> omega)) | grind
theorem isM_k7 {m : Mg} {c : Mc} (hk : m.k = 7) (hv : fitVsB c.vs m.vw = true) (hs : sameM m c (m.bare (partsOf m.k)) (c.bare (partsOf m.k)) = true) : isM m c = ((isRp m.f && isEp m.e) && ((decide (m.t < 4)) && ((decide (1 ≤ m.vw)) && (decide (m.vw ≤ 1048576))))) := by
  rw [isM_by hs]
  unfold headB fitB reqB
  rw [hk]
  rw [hv]
  simp [partsOf, isRp, isEp, isVw, isNv, isSq, isPl, isPh]
  rw [Bool.eq_iff_iff]
  simp only [Bool.and_eq_true, decide_eq_true_eq]
  first | omega | (constructor <;> (intro h; simp_all <;> omega)) | grind
theorem isM_k8 {m : Mg} {c : Mc} (hk : m.k = 8) (hs : sameM m c (m.bare (partsOf m.k)) (c.bare (partsOf m.k)) = true) : isM m c = ((isRp m.f && isEp m.e) && ((decide (m.t < 4)) && (decide (m.ct = m.e)))) := by
  rw [isM_by hs]
  unfold headB fitB reqB
  rw [hk]
  simp [partsOf, isRp, isEp, isVw, isNv, isSq, isPl, isPh]
  rw [Bool.eq_iff_iff]
  simp only [Bool.and_eq_true, decide_eq_true_eq]
  first | omega | (constructor <;> (intro h; simp_all <;> omega)) | grind
theorem isM_k9 {m : Mg} {c : Mc} (hk : m.k = 9) (hs : sameM m c (m.bare (partsOf m.k)) (c.bare (partsOf m.k)) = true) : isM m c = ((isRp m.f && isEp m.e) && ((decide (m.t < 4)) && (decide (m.ct = m.e)))) := by
  rw [isM_by hs]
  unfold headB fitB reqB
  rw [hk]
  simp [partsOf, isRp, isEp, isVw, isNv, isSq, isPl, isPh]
  rw [Bool.eq_iff_iff]
  simp only [Bool.and_eq_true, decide_eq_true_eq]
  first | omega | (constructor <;> (intro h; simp_all <;> omega)) | grind
theorem isM_k10 {m : Mg} {c : Mc} (hk : m.k = 10) (hs : sameM m c (m.bare (partsOf m.k)) (c.bare (partsOf m.k)) = true) : isM m c = ((isRp m.f && isEp m.e) && ((decide (m.t < 4)) && (decide (m.sq ≤ 1073741824)))) := by
  rw [isM_by hs]
  unfold headB fitB reqB
  rw [hk]
  simp [partsOf, isRp, isEp, isVw, isNv, isSq, isPl, isPh]
  rw [Bool.eq_iff_iff]
  simp only [Bool.and_eq_true, decide_eq_true_eq]
  first | omega | (constructor <;> (intro h; simp_all <;> omega)) | grind
theorem isM_k11 {m : Mg} {c : Mc} (hk : m.k = 11) (hs : sameM m c (m.bare (partsOf m.k)) (c.bare (partsOf m.k)) = true) : isM m c = ((isRp m.f && isEp m.e) && ((decide (m.t < 4)) && ((decide (m.sq ≤ 1073741824)) && (decide (m.pg ≤ 8))))) := by
  rw [isM_by hs]
  unfold headB fitB reqB
  rw [hk]
  simp [partsOf, isRp, isEp, isVw, isNv, isSq, isPl, isPh]
  rw [Bool.eq_iff_iff]
  simp only [Bool.and_eq_true, Bool.or_eq_true, decide_eq_true_eq]
  first | omega | (constructor <;> (intro h; simp_all <;> omega)) | grind
theorem isM_k12 {m : Mg} {c : Mc} (hk : m.k = 12) (hs : sameM m c (m.bare (partsOf m.k)) (c.bare (partsOf m.k)) = true) : isM m c = ((isRp m.f && isEp m.e) && ((decide (m.t < 4)) && ((decide (m.sq ≤ 1073741824)) && (decide (m.sm.n = 8))))) := by
  rw [isM_by hs]
  unfold headB fitB reqB
  rw [hk]
  simp [partsOf, isRp, isEp, isVw, isNv, isSq, isPl, isPh]
  rw [Bool.eq_iff_iff]
  simp only [Bool.and_eq_true, decide_eq_true_eq]
  first | omega | (constructor <;> (intro h; simp_all <;> omega)) | grind
theorem isM_k13 {m : Mg} {c : Mc} (hk : m.k = 13) (hd : m.dt.n ≤ 64) (hs : sameM m c (m.bare (partsOf m.k)) (c.bare (partsOf m.k)) = true) : isM m c = ((isRp m.f && isEp m.e) && ((decide (m.t < 4)) && ((decide (m.sq ≤ 1073741824)) && (decide (m.pg < 8))))) := by
  rw [isM_by hs]
  unfold headB fitB reqB
  rw [hk]
  simp [partsOf, isRp, isEp, isVw, isNv, isSq, isPl, isPh, hd]
  rw [Bool.eq_iff_iff]
  simp only [Bool.and_eq_true, decide_eq_true_eq]
  first | omega | (constructor <;> (intro h; simp_all <;> omega)) | grind
theorem isM_k14 {m : Mg} {c : Mc} (hk : m.k = 14) (hf : 0 ≤ m.t ∧ m.t ≤ 255) (hs : sameM m c (m.bare (partsOf m.k)) (c.bare (partsOf m.k)) = true) : isM m c = ((isRp m.f && isEp m.e) && ((cl m.t) && ((decide (m.vw ≤ 1048576)) && ((m.rq.is) && ((!decide (m.rq = Rq.zero)) && (decide (m.rq.c = (m.t - 10) % 256))))))) := by
  rw [isM_by hs]
  unfold headB fitB reqB
  rw [hk]
  simp only [partsOf, real_is _ _ hf]
  simp [isRp, isEp, isVw, isNv, isSq, isPl, isPh]
  rw [Bool.eq_iff_iff]
  simp only [Bool.and_eq_true, decide_eq_true_eq, Bool.not_eq_true', decide_eq_false_iff_not]
  first | omega | (constructor <;> (intro h; simp_all <;> omega)) | grind

set_option maxHeartbeats 8000000 in
theorem refIs_k1 (w : World) (m : Mg) (c : Mc) (hm : MgAt w m c) (hok : ∀ x ∈ c.vs, (∀ y ∈ x.2.p, 0 ≤ y.s ∧ y.rq.ok) ∧ ∀ y ∈ x.2.q, 0 ≤ y.s ∧ y.rq.ok) (hl : m.vs.n ≤ 4 ∧ m.sm.n ≤ 8 ∧ m.dt.n ≤ 64 ∧ m.vt.ms.n ≤ 40 ∧ m.vt.p.n ≤ 40 ∧ m.vt.q.n ≤ 40) (hk : m.k = 1) (hf : 0 ≤ m.f ∧ m.f ≤ 255) (hv : fitVsB c.vs m.vw = true) (hs : sameM m c (m.bare (partsOf m.k)) (c.bare (partsOf m.k)) = true) : Calls Tryz.prog 11 #[.agg m.cells.toArray] w fun e w' => e = .returned (.bool (isM m c)) ∧ Below w.heap.size w w' := by
  obtain ⟨W, hW, hbx, hbl, q22, q23, q24, q19, q20, q21, q0, d0, d1, d2, d3, d4, d5, hws, hmW, HC1, HC2, HC3, hld, hk0⟩ := rk_pre w m c hm hok hl
  obtain ⟨l0, l1, l2, l3, l4, l5⟩ := hl
  have HLD := Lib.hid hld
  have HK0 := Lib.hid hk0
  have HBX := Lib.hid hbx
  have HW := Lib.hid hW
  have HB := Lib.hid hbl
  have HWS := Lib.hid hws
  have HM := Lib.hid hmW
  obtain ⟨r, hr⟩ : ∃ r, r = isM m c := ⟨_, rfl⟩
  rw [← hr]
  rw [isM_k1 hk hf hs] at hr
  have HRK := Lib.hid hr
  clear hr
  have HQ_k0 := Lib.hid (hq (show W.cell? ⟨w.heap.size, 0, none⟩ = some (.int .u8 m.k) from cell_box hbx 0))
  have HQ_f := Lib.hid (hq (show W.cell? ⟨w.heap.size, 1, none⟩ = some (.int .u8 m.f) from cell_box hbx 1))
  have HQ_t := Lib.hid (hq (show W.cell? ⟨w.heap.size, 2, none⟩ = some (.int .u8 m.t) from cell_box hbx 2))
  have HQ_e := Lib.hid (hq (show W.cell? ⟨w.heap.size, 3, none⟩ = some (.int .u8 m.e) from cell_box hbx 3))
  have HQ_sq := Lib.hid (hq (show W.cell? ⟨w.heap.size, 5, none⟩ = some (.int .u32 m.sq) from cell_box hbx 5))
  have HQ_rc := Lib.hid (hq (show W.cell? ⟨w.heap.size, 6, none⟩ = some (.int .u8 m.rq.c) from cell_box hbx 6))
  have HQ_rt := Lib.hid (hq (show W.cell? ⟨w.heap.size, 7, none⟩ = some (.int .u32 m.rq.t) from cell_box hbx 7))
  have HQ_rk := Lib.hid (hq (show W.cell? ⟨w.heap.size, 8, none⟩ = some (.int .u8 m.rq.k) from cell_box hbx 8))
  have HQ_ry := Lib.hid (hq (show W.cell? ⟨w.heap.size, 9, none⟩ = some (.int .u8 m.rq.y) from cell_box hbx 9))
  have HQ_rv := Lib.hid (hq (show W.cell? ⟨w.heap.size, 10, none⟩ = some (.int .u16 m.rq.v) from cell_box hbx 10))
  have HKH := Lib.hid hk
  have HVH := Lib.hid hv
  have HSH := Lib.hid hs
  generalize hkm : m.k = kk at *
  have HKM := Lib.hid hkm
  clear hkm
  generalize hsb : sameM m c (m.bare (partsOf kk)) (c.bare (partsOf kk)) = sb at *
  have HSB := Lib.hid hsb
  generalize hvb : fitVsB c.vs m.vw = vb at *
  have HVB := Lib.hid hvb
  clear hk hv hs hf hsb hvb hW hbx hbl hws hmW hld hk0 hm hok l0 l1 l2 l3 l4 l5
  generalize (m.bare (partsOf kk)).cells.toArray = BA at *
  generalize m.cells.toArray = A at *
  generalize m.vs.n = n0 at *
  generalize m.sm.n = n1 at *
  generalize m.dt.n = n2 at *
  generalize m.vt.ms.n = n3 at *
  generalize m.vt.p.n = n4 at *
  generalize m.vt.q.n = n5 at *
  go_enter Tryz.func11, Tryz.ntmps11
  go_upto_region 1 with fail
  rw [← HW.out]
  go_upto_region 3 with fail
  have hkk : kk = 1 := HKH.out
  subst hkk
  have e1 : ¬ (1 : Int) < 1 := by omega
  have e2 : ¬ (14 : Int) < 1 := by omega
  have C1 := Lib.hid (fun wx h => by have q := HC1.out wx h; rwa [show vb = true from HVH.out] at q)
  have C3 := Lib.hid (fun wx h => by have q := HC3.out wx h; rwa [show sb = true from HSH.out] at q)
  refine wp_region_held_drew (S := fun wx => Below W.heap.size W wx) (by kernel_rfl) (((Below.refl W.heap.size W).drew)) (fun hS => ?_)
  refine tg 0 (.pointer (some ⟨w.heap.size, 0, none⟩)) rfl hS ?_
  refine tk 1 (.int .u8 1) rfl (yi_load 5 (.tmp 43) (.pointer (some ⟨w.heap.size, 0, none⟩)) rfl rfl rfl (fun wq hw => by have q := HK0.out wq hw; go_simp)) hS ?_
  refine tg 2 (.bool false) rfl hS ?_
  refine tm 3 (.bool false) rfl hS ?_
  refine tg 4 (.pointer (some ⟨w.heap.size, 0, none⟩)) rfl hS ?_
  refine tk 5 (.int .u8 1) rfl (yi_load 5 (.tmp 47) (.pointer (some ⟨w.heap.size, 0, none⟩)) rfl rfl rfl (fun wq hw => by have q := HK0.out wq hw; go_simp)) hS ?_
  refine tg 6 (.bool false) rfl hS ?_
  refine tm 7 (.bool false) rfl hS ?_
  refine tm 8 (.bool false) rfl hS ?_
  refine tk 9 (.agg A) rfl (yi_load 37 (.tmp 1) (.pointer (some ⟨w.heap.size, 0, none⟩)) rfl rfl rfl (fun wq hw => HLD.out wq hw)) hS ?_
  refine rdy1 10 rfl (fun K hK => ?_)
  rw [if_pos (by rfl)]
  go_simp
  refine Calls.mono (C1.out _ hS) ?_
  rintro e w4 ⟨rfl, b4⟩
  have h4 : Below W.heap.size W w4 := hS.trans (b4.mono hS.size)
  refine hK.out _ _ (h4) (fun hS => ?_)
  clear hK K
  refine tm 11 (.bool false) rfl hS ?_
  refine tm 12 (.bool false) rfl hS ?_
  refine tm 13 (.bool false) rfl hS ?_
  refine tk 14 (.agg A) rfl (yi_load 37 (.tmp 1) (.pointer (some ⟨w.heap.size, 0, none⟩)) rfl rfl rfl (fun wq hw => HLD.out wq hw)) hS ?_
  refine tk 15 (.agg A) rfl (yi_load 37 (.tmp 1) (.pointer (some ⟨w.heap.size, 0, none⟩)) rfl rfl rfl (fun wq hw => HLD.out wq hw)) hS ?_
  refine rdy1 16 rfl (fun K hK => ?_)
  rw [if_pos (by rfl)]
  go_simp
  refine Calls.mono (HC2.out _) ?_
  rintro e w5 ⟨rfl, b5⟩
  have h5 : Below W.heap.size W w5 := hS.trans (b5.mono hS.size)
  refine hK.out _ _ (h5) (fun hS => ?_)
  clear hK K
  refine rdy1 17 rfl (fun K hK => ?_)
  rw [if_pos (by rfl)]
  go_simp
  refine Calls.mono (C3.out _ hS) ?_
  rintro e w6 ⟨rfl, b6⟩
  have h6 : Below W.heap.size W w6 := hS.trans (b6.mono hS.size)
  refine hK.out _ _ (h6) (fun hS => ?_)
  clear hK K
  refine tm 18 (.bool false) rfl hS ?_
  refine tm 19 (.bool false) rfl hS ?_
  refine wpAnyH_done (by kernel_rfl) ?_ _
  clear q0 q22 q23 q24 q19 q20 q21
  have qk0 := (HQ_k0.out w6 hS)
  have qf := (HQ_f.out w6 hS)
  have qt := (HQ_t.out w6 hS)
  have qe := (HQ_e.out w6 hS)
  have qsq := (HQ_sq.out w6 hS)
  have qrc := (HQ_rc.out w6 hS)
  have qrt := (HQ_rt.out w6 hS)
  have qrk := (HQ_rk.out w6 hS)
  have qry := (HQ_ry.out w6 hS)
  have qrv := (HQ_rv.out w6 hS)
  go_upto_region 5 with fail
  obtain ⟨fr, hfr⟩ : ∃ fr, fr = (isRp m.f && isEp m.e) := ⟨_, rfl⟩
  have HFR := Lib.hid hfr
  clear hfr
  go_cut [3] from 63 to 75 (fun s3 wx => s3 = .bool fr ∧ wx = w6)
  case first =>
    by_cases x1 : m.f < 4
    · by_cases x2 : 1 ≤ m.e
      · by_cases x3 : m.e ≤ 200
        · go_wp2_with fail
          go_meet
          exact ⟨by rw [HFR.out]; first | (simp [isRp, isEp]; done) | (simp [isRp, isEp]; omega), rfl⟩
        · go_wp2_with fail
          go_meet
          exact ⟨by rw [HFR.out]; first | (simp [isRp, isEp]; done) | (simp [isRp, isEp]; omega), rfl⟩
      · go_wp2_with fail
        go_meet
        exact ⟨by rw [HFR.out]; first | (simp [isRp, isEp]; done) | (simp [isRp, isEp]; omega), rfl⟩
    · go_wp2_with fail
      go_meet
      exact ⟨by rw [HFR.out]; first | (simp [isRp, isEp]; done) | (simp [isRp, isEp]; omega), rfl⟩
  case rest =>
    obtain ⟨rfl, hwc⟩ := hcut
    obtain rfl := hwc.symm
    clear HFR
    have CL := Lib.hid (refClient_any (m.f) w6)
    go_wp2_with fail
    refine CL.out.mono ?_
    rintro e w7 ⟨rfl, e1⟩
    obtain rfl := e1.symm
    clear CL e1
    have hcl : (decide (11 ≤ m.f) && decide (m.f ≤ 14)) = cl (m.f) := rfl
    rw [hcl]
    clear hcl
    generalize cl (m.f) = bc at *
    cases bc with
    | false =>
      go_wp2_with fail
      exact bodyPost_ret (v := .bool false) (by simp [results, Tryz.results11, go_sem]) rfl ⟨by rw [HRK.out]; first | (simp; done) | (simp; omega), ht HB hS HWS⟩
    | true =>
      by_cases c1 : m.e = 0
      · have C1 := Lib.hid c1
        by_cases c2 : m.t < 4
        · have C2 := Lib.hid c2
          have RQ := Lib.hid (refIsReq_any m.rq w6)
          simp only [Rq.cells] at RQ
          go_wp2_with fail
          refine RQ.out.mono ?_
          rintro e w10 ⟨rfl, b7⟩
          have hw10 := hS.trans (b7.mono hS.size)
          clear RQ b7
          clear qk0 qf qt qe qsq qrc qrt qrk qry qrv
          have qk0 := (HQ_k0.out w10 hw10)
          have qf := (HQ_f.out w10 hw10)
          have qt := (HQ_t.out w10 hw10)
          have qe := (HQ_e.out w10 hw10)
          have qsq := (HQ_sq.out w10 hw10)
          have qrc := (HQ_rc.out w10 hw10)
          have qrt := (HQ_rt.out w10 hw10)
          have qrk := (HQ_rk.out w10 hw10)
          have qry := (HQ_ry.out w10 hw10)
          have qrv := (HQ_rv.out w10 hw10)
          generalize m.rq.is = bb3 at *
          cases bb3 with
          | false =>
            go_wp2_with fail
            exact bodyPost_ret (v := .bool false) (by simp [results, Tryz.results11, go_sem]) rfl ⟨by have t1 := C1.out; have t2 := C2.out; rw [HRK.out]; first | (simp; done) | (simp; omega), ht HB hw10 HWS⟩
          | true =>
            have RQ := Lib.hid (refNull_any m.rq w10)
            simp only [Rq.cells] at RQ
            go_wp2_with fail
            refine RQ.out.mono ?_
            rintro e w11 ⟨rfl, b7⟩
            have hw11 := hw10.trans (b7.mono hw10.size)
            clear RQ b7
            clear qk0 qf qt qe qsq qrc qrt qrk qry qrv
            have qk0 := (HQ_k0.out w11 hw11)
            have qf := (HQ_f.out w11 hw11)
            have qt := (HQ_t.out w11 hw11)
            have qe := (HQ_e.out w11 hw11)
            have qsq := (HQ_sq.out w11 hw11)
            have qrc := (HQ_rc.out w11 hw11)
            have qrt := (HQ_rt.out w11 hw11)
            have qrk := (HQ_rk.out w11 hw11)
            have qry := (HQ_ry.out w11 hw11)
            have qrv := (HQ_rv.out w11 hw11)
            generalize decide (m.rq = Rq.zero) = bb4 at *
            cases bb4 with
            | true =>
              go_wp2_with fail
              exact bodyPost_ret (v := .bool false) (by simp [results, Tryz.results11, go_sem]) rfl ⟨by have t1 := C1.out; have t2 := C2.out; rw [HRK.out]; first | (simp; done) | (simp; omega), ht HB hw11 HWS⟩
            | false =>
              have hw8 : ∀ x : Int, IntKind.u8.wrap x = x % 256 := fun _ => rfl
              by_cases c5 : m.rq.c = (m.f - 10) % 256
              · have C5 := Lib.hid c5
                go_wp2_with fail
                exact bodyPost_ret (v := .bool true) (by simp [results, Tryz.results11, go_sem]) rfl ⟨by have t1 := C1.out; have t2 := C2.out; have t5 := C5.out; rw [HRK.out]; first | (simp; done) | (simp; omega), ht HB hw11 HWS⟩
              · have C5 := Lib.hid c5
                go_wp2_with fail
                exact bodyPost_ret (v := .bool false) (by have t := C5.out; simp [results, Tryz.results11, go_sem] <;> omega) rfl ⟨by have t1 := C1.out; have t2 := C2.out; have t5 := C5.out; rw [HRK.out]; first | (simp; done) | (simp; omega), ht HB hw11 HWS⟩
        · have C2 := Lib.hid c2
          go_wp2_with fail
          exact bodyPost_ret (v := .bool false) (by simp [results, Tryz.results11, go_sem]) rfl ⟨by have t1 := C1.out; have t2 := C2.out; rw [HRK.out]; first | (simp; done) | (simp; omega), ht HB hS HWS⟩
      · have C1 := Lib.hid c1
        go_wp2_with fail
        exact bodyPost_ret (v := .bool false) (by simp [results, Tryz.results11, go_sem]) rfl ⟨by have t1 := C1.out; rw [HRK.out]; first | (simp; done) | (simp; omega), ht HB hS HWS⟩

set_option maxHeartbeats 8000000 in
theorem refIs_k2 (w : World) (m : Mg) (c : Mc) (hm : MgAt w m c) (hok : ∀ x ∈ c.vs, (∀ y ∈ x.2.p, 0 ≤ y.s ∧ y.rq.ok) ∧ ∀ y ∈ x.2.q, 0 ≤ y.s ∧ y.rq.ok) (hl : m.vs.n ≤ 4 ∧ m.sm.n ≤ 8 ∧ m.dt.n ≤ 64 ∧ m.vt.ms.n ≤ 40 ∧ m.vt.p.n ≤ 40 ∧ m.vt.q.n ≤ 40) (hk : m.k = 2) (hv : fitVsB c.vs m.vw = true) (hs : sameM m c (m.bare (partsOf m.k)) (c.bare (partsOf m.k)) = true) : Calls Tryz.prog 11 #[.agg m.cells.toArray] w fun e w' => e = .returned (.bool (isM m c)) ∧ Below w.heap.size w w' := by
  obtain ⟨W, hW, hbx, hbl, q22, q23, q24, q19, q20, q21, q0, d0, d1, d2, d3, d4, d5, hws, hmW, HC1, HC2, HC3, hld, hk0⟩ := rk_pre w m c hm hok hl
  obtain ⟨l0, l1, l2, l3, l4, l5⟩ := hl
  have HLD := Lib.hid hld
  have HK0 := Lib.hid hk0
  have HBX := Lib.hid hbx
  have HW := Lib.hid hW
  have HB := Lib.hid hbl
  have HWS := Lib.hid hws
  have HM := Lib.hid hmW
  obtain ⟨r, hr⟩ : ∃ r, r = isM m c := ⟨_, rfl⟩
  rw [← hr]
  rw [isM_k2 hk hs] at hr
  have HRK := Lib.hid hr
  clear hr
  have HQ_k0 := Lib.hid (hq (show W.cell? ⟨w.heap.size, 0, none⟩ = some (.int .u8 m.k) from cell_box hbx 0))
  have HQ_f := Lib.hid (hq (show W.cell? ⟨w.heap.size, 1, none⟩ = some (.int .u8 m.f) from cell_box hbx 1))
  have HQ_t := Lib.hid (hq (show W.cell? ⟨w.heap.size, 2, none⟩ = some (.int .u8 m.t) from cell_box hbx 2))
  have HQ_e := Lib.hid (hq (show W.cell? ⟨w.heap.size, 3, none⟩ = some (.int .u8 m.e) from cell_box hbx 3))
  have HQ_sq := Lib.hid (hq (show W.cell? ⟨w.heap.size, 5, none⟩ = some (.int .u32 m.sq) from cell_box hbx 5))
  have HQ_vw := Lib.hid (hq (show W.cell? ⟨w.heap.size, 4, none⟩ = some (.int .u32 m.vw) from cell_box hbx 4))
  have HQ_rc := Lib.hid (hq (show W.cell? ⟨w.heap.size, 6, none⟩ = some (.int .u8 m.rq.c) from cell_box hbx 6))
  have HQ_rt := Lib.hid (hq (show W.cell? ⟨w.heap.size, 7, none⟩ = some (.int .u32 m.rq.t) from cell_box hbx 7))
  have HQ_rk := Lib.hid (hq (show W.cell? ⟨w.heap.size, 8, none⟩ = some (.int .u8 m.rq.k) from cell_box hbx 8))
  have HQ_ry := Lib.hid (hq (show W.cell? ⟨w.heap.size, 9, none⟩ = some (.int .u8 m.rq.y) from cell_box hbx 9))
  have HQ_rv := Lib.hid (hq (show W.cell? ⟨w.heap.size, 10, none⟩ = some (.int .u16 m.rq.v) from cell_box hbx 10))
  have HKH := Lib.hid hk
  have HVH := Lib.hid hv
  have HSH := Lib.hid hs
  generalize hkm : m.k = kk at *
  have HKM := Lib.hid hkm
  clear hkm
  generalize hsb : sameM m c (m.bare (partsOf kk)) (c.bare (partsOf kk)) = sb at *
  have HSB := Lib.hid hsb
  generalize hvb : fitVsB c.vs m.vw = vb at *
  have HVB := Lib.hid hvb
  clear hk hv hs hsb hvb hW hbx hbl hws hmW hld hk0 hm hok l0 l1 l2 l3 l4 l5
  generalize (m.bare (partsOf kk)).cells.toArray = BA at *
  generalize m.cells.toArray = A at *
  generalize m.vs.n = n0 at *
  generalize m.sm.n = n1 at *
  generalize m.dt.n = n2 at *
  generalize m.vt.ms.n = n3 at *
  generalize m.vt.p.n = n4 at *
  generalize m.vt.q.n = n5 at *
  go_enter Tryz.func11, Tryz.ntmps11
  go_upto_region 1 with fail
  rw [← HW.out]
  go_upto_region 3 with fail
  have hkk : kk = 2 := HKH.out
  subst hkk
  have e1 : ¬ (2 : Int) < 1 := by omega
  have e2 : ¬ (14 : Int) < 2 := by omega
  have C1 := Lib.hid (fun wx h => by have q := HC1.out wx h; rwa [show vb = true from HVH.out] at q)
  have C3 := Lib.hid (fun wx h => by have q := HC3.out wx h; rwa [show sb = true from HSH.out] at q)
  refine wp_region_held_drew (S := fun wx => Below W.heap.size W wx) (by kernel_rfl) (((Below.refl W.heap.size W).drew)) (fun hS => ?_)
  refine tg 0 (.pointer (some ⟨w.heap.size, 0, none⟩)) rfl hS ?_
  refine tk 1 (.int .u8 2) rfl (yi_load 5 (.tmp 43) (.pointer (some ⟨w.heap.size, 0, none⟩)) rfl rfl rfl (fun wq hw => by have q := HK0.out wq hw; go_simp)) hS ?_
  refine tg 2 (.bool false) rfl hS ?_
  refine tm 3 (.bool false) rfl hS ?_
  refine tg 4 (.pointer (some ⟨w.heap.size, 0, none⟩)) rfl hS ?_
  refine tk 5 (.int .u8 2) rfl (yi_load 5 (.tmp 47) (.pointer (some ⟨w.heap.size, 0, none⟩)) rfl rfl rfl (fun wq hw => by have q := HK0.out wq hw; go_simp)) hS ?_
  refine tg 6 (.bool false) rfl hS ?_
  refine tm 7 (.bool false) rfl hS ?_
  refine tm 8 (.bool false) rfl hS ?_
  refine tk 9 (.agg A) rfl (yi_load 37 (.tmp 1) (.pointer (some ⟨w.heap.size, 0, none⟩)) rfl rfl rfl (fun wq hw => HLD.out wq hw)) hS ?_
  refine rdy1 10 rfl (fun K hK => ?_)
  rw [if_pos (by rfl)]
  go_simp
  refine Calls.mono (C1.out _ hS) ?_
  rintro e w4 ⟨rfl, b4⟩
  have h4 : Below W.heap.size W w4 := hS.trans (b4.mono hS.size)
  refine hK.out _ _ (h4) (fun hS => ?_)
  clear hK K
  refine tm 11 (.bool false) rfl hS ?_
  refine tm 12 (.bool false) rfl hS ?_
  refine tm 13 (.bool false) rfl hS ?_
  refine tk 14 (.agg A) rfl (yi_load 37 (.tmp 1) (.pointer (some ⟨w.heap.size, 0, none⟩)) rfl rfl rfl (fun wq hw => HLD.out wq hw)) hS ?_
  refine tk 15 (.agg A) rfl (yi_load 37 (.tmp 1) (.pointer (some ⟨w.heap.size, 0, none⟩)) rfl rfl rfl (fun wq hw => HLD.out wq hw)) hS ?_
  refine rdy1 16 rfl (fun K hK => ?_)
  rw [if_pos (by rfl)]
  go_simp
  refine Calls.mono (HC2.out _) ?_
  rintro e w5 ⟨rfl, b5⟩
  have h5 : Below W.heap.size W w5 := hS.trans (b5.mono hS.size)
  refine hK.out _ _ (h5) (fun hS => ?_)
  clear hK K
  refine rdy1 17 rfl (fun K hK => ?_)
  rw [if_pos (by rfl)]
  go_simp
  refine Calls.mono (C3.out _ hS) ?_
  rintro e w6 ⟨rfl, b6⟩
  have h6 : Below W.heap.size W w6 := hS.trans (b6.mono hS.size)
  refine hK.out _ _ (h6) (fun hS => ?_)
  clear hK K
  refine tm 18 (.bool false) rfl hS ?_
  refine tm 19 (.bool false) rfl hS ?_
  refine wpAnyH_done (by kernel_rfl) ?_ _
  clear q0 q22 q23 q24 q19 q20 q21
  have qk0 := (HQ_k0.out w6 hS)
  have qf := (HQ_f.out w6 hS)
  have qt := (HQ_t.out w6 hS)
  have qe := (HQ_e.out w6 hS)
  have qsq := (HQ_sq.out w6 hS)
  have qvw := (HQ_vw.out w6 hS)
  have qrc := (HQ_rc.out w6 hS)
  have qrt := (HQ_rt.out w6 hS)
  have qrk := (HQ_rk.out w6 hS)
  have qry := (HQ_ry.out w6 hS)
  have qrv := (HQ_rv.out w6 hS)
  go_upto_region 5 with fail
  obtain ⟨fr, hfr⟩ : ∃ fr, fr = (isRp m.f && isEp m.e) := ⟨_, rfl⟩
  rw [← hfr] at HRK
  have HFR := Lib.hid hfr
  clear hfr
  go_cut [3] from 63 to 75 (fun s3 wx => s3 = .bool fr ∧ wx = w6)
  case first =>
    by_cases x1 : m.f < 4
    · by_cases x2 : 1 ≤ m.e
      · by_cases x3 : m.e ≤ 200
        · go_wp2_with fail
          go_meet
          exact ⟨by rw [HFR.out]; first | (simp [isRp, isEp]; done) | (simp [isRp, isEp]; omega), rfl⟩
        · go_wp2_with fail
          go_meet
          exact ⟨by rw [HFR.out]; first | (simp [isRp, isEp]; done) | (simp [isRp, isEp]; omega), rfl⟩
      · go_wp2_with fail
        go_meet
        exact ⟨by rw [HFR.out]; first | (simp [isRp, isEp]; done) | (simp [isRp, isEp]; omega), rfl⟩
    · go_wp2_with fail
      go_meet
      exact ⟨by rw [HFR.out]; first | (simp [isRp, isEp]; done) | (simp [isRp, isEp]; omega), rfl⟩
  case rest =>
    obtain ⟨rfl, hwc⟩ := hcut
    obtain rfl := hwc.symm
    clear HFR
    cases fr with
    | false =>
      go_wp2_with fail
      exact bodyPost_ret (v := .bool false) (by simp [results, Tryz.results11, go_sem]) rfl ⟨by rw [HRK.out]; first | (simp; done) | (simp; omega), ht HB hS HWS⟩
    | true =>
      by_cases c1 : m.t < 4
      · have C1 := Lib.hid c1
        by_cases c2 : m.vw ≤ 1048576
        · have C2 := Lib.hid c2
          by_cases c3 : 1 ≤ m.sq
          · have C3 := Lib.hid c3
            by_cases c4 : m.sq ≤ 1073741824
            · have C4 := Lib.hid c4
              have RQ := Lib.hid (refIsReq_any m.rq w6)
              simp only [Rq.cells] at RQ
              go_wp2_with fail
              refine RQ.out.mono ?_
              rintro e w12 ⟨rfl, b7⟩
              have hw12 := hS.trans (b7.mono hS.size)
              clear RQ b7
              clear qk0 qf qt qe qsq qvw qrc qrt qrk qry qrv
              have qk0 := (HQ_k0.out w12 hw12)
              have qf := (HQ_f.out w12 hw12)
              have qt := (HQ_t.out w12 hw12)
              have qe := (HQ_e.out w12 hw12)
              have qsq := (HQ_sq.out w12 hw12)
              have qvw := (HQ_vw.out w12 hw12)
              have qrc := (HQ_rc.out w12 hw12)
              have qrt := (HQ_rt.out w12 hw12)
              have qrk := (HQ_rk.out w12 hw12)
              have qry := (HQ_ry.out w12 hw12)
              have qrv := (HQ_rv.out w12 hw12)
              generalize m.rq.is = bb5 at *
              cases bb5 with
              | false =>
                go_wp2_with fail
                exact bodyPost_ret (v := .bool false) (by simp [results, Tryz.results11, go_sem]) rfl ⟨by have t1 := C1.out; have t2 := C2.out; have t3 := C3.out; have t4 := C4.out; rw [HRK.out]; first | (simp; done) | (simp; omega), ht HB hw12 HWS⟩
              | true =>
                go_wp2_with fail
                exact bodyPost_ret (v := .bool true) (by simp [results, Tryz.results11, go_sem]) rfl ⟨by have t1 := C1.out; have t2 := C2.out; have t3 := C3.out; have t4 := C4.out; rw [HRK.out]; first | (simp; done) | (simp; omega), ht HB hw12 HWS⟩
            · have C4 := Lib.hid c4
              go_wp2_with fail
              exact bodyPost_ret (v := .bool false) (by simp [results, Tryz.results11, go_sem]) rfl ⟨by have t1 := C1.out; have t2 := C2.out; have t3 := C3.out; have t4 := C4.out; rw [HRK.out]; first | (simp; done) | (simp; omega), ht HB hS HWS⟩
          · have C3 := Lib.hid c3
            go_wp2_with fail
            exact bodyPost_ret (v := .bool false) (by simp [results, Tryz.results11, go_sem]) rfl ⟨by have t1 := C1.out; have t2 := C2.out; have t3 := C3.out; rw [HRK.out]; first | (simp; done) | (simp; omega), ht HB hS HWS⟩
        · have C2 := Lib.hid c2
          go_wp2_with fail
          exact bodyPost_ret (v := .bool false) (by simp [results, Tryz.results11, go_sem]) rfl ⟨by have t1 := C1.out; have t2 := C2.out; rw [HRK.out]; first | (simp; done) | (simp; omega), ht HB hS HWS⟩
      · have C1 := Lib.hid c1
        go_wp2_with fail
        exact bodyPost_ret (v := .bool false) (by simp [results, Tryz.results11, go_sem]) rfl ⟨by have t1 := C1.out; rw [HRK.out]; first | (simp; done) | (simp; omega), ht HB hS HWS⟩
end Go.Proofs.YtbpfkeeikhhlnaaGreatDoor
