/- The document's bare: a message with just what its kind has. The document's bare of every message. -/
import Derived.Test.YtbpfkeeikhhlnaaGreatDoorJ05
import Derived.Test.YtbpfkeeikhhlnaaGreatDoorJ08
import Derived.Test.YtbpfkeeikhhlnaaGreatDoorJ01
import Derived.Deep.CutRange
import Derived.Test.YtbpfkeeikhhlnaaGreatDoorJ12
namespace Go.Proofs.YtbpfkeeikhhlnaaGreatDoor
open Go.RowKit
set_option maxRecDepth 100000

set_option maxHeartbeats 8000000 in
theorem refBare_k2 (w : World) (m : Mg) (hk : m.k = 2) :
    Calls Tryz.prog 35 #[.agg m.cells.toArray] w fun e w' => e = .returned (.agg (m.bare [0, 1, 2]).cells.toArray) ∧ Below w.heap.size w w' := by
  obtain ⟨B, hB⟩ : ∃ B, B = m.bare [0, 1, 2] := ⟨_, rfl⟩
  rw [← hB]
  have HBB := Lib.hid hB
  have HKK := Lib.hid hk
  clear hB hk
  obtain ⟨W, hW⟩ : ∃ W, W = (w.alloc (.cells m.cells.toArray 37)).alloc (.cells Vz.toArray 37) := ⟨_, rfl⟩
  have hWs : W.heap.size = w.heap.size + 1 + 1 := by rw [hW]; simp
  have hbx : W.heap[w.heap.size]? = some (.cells m.cells.toArray 37 (0, 0)) := by rw [hW]; exact heap_alloc2_old _ _ _
  have hrs : W.heap[w.heap.size + 1]? = some (.cells Vz.toArray 37 (0, 0)) := by rw [hW]; exact heap_alloc2_new _ _ _
  have hbl : Below w.heap.size w W := by rw [hW]; exact ((Below.refl _ _).alloc (Nat.le_refl _) _).alloc (by simp) _
  have q0 : W.cell? ⟨w.heap.size, 0, none⟩ = some (.int .u8 m.k) := cell_box hbx 0
  have q1 : W.cell? ⟨w.heap.size, 1, none⟩ = some (.int .u8 m.f) := cell_box hbx 1
  have q2 : W.cell? ⟨w.heap.size, 2, none⟩ = some (.int .u8 m.t) := cell_box hbx 2
  have q3 : W.cell? ⟨w.heap.size, 3, none⟩ = some (.int .u8 m.e) := cell_box hbx 3
  obtain ⟨V, hV⟩ : ∃ V, V = W.alloc (.cells Vz.toArray 37) := ⟨_, rfl⟩
  have hVn : V.heap[w.heap.size + 1 + 1]? = some (.cells Vz.toArray 37 (0, 0)) := by rw [hV, ← hWs]; exact heap_alloc_new _ _
  have hkk := fun k (h : k ≠ w.heap.size + 1 + 1) => setCells_kept (w.heap.size + 1 + 1) m.head.cells 0 V k h
  have hVk : ∀ k, k < w.heap.size + 1 + 1 → V.heap[k]? = W.heap[k]? := fun k hk => by rw [hV]; exact heap_alloc_old _ _ (by omega)
  obtain ⟨U, hU⟩ : ∃ U, U = V.setCells (w.heap.size + 1 + 1) 0 m.head.cells := ⟨_, rfl⟩
  have M0 : Mem w U w.heap.size m m.head.cells.toArray := by
    refine ⟨?_, ?_, ?_, ?_, rfl⟩
    · rw [hU, (hkk _ (by omega)).1, hVk _ (by omega)]; exact hbx
    · rw [hU, (hkk _ (by omega)).1, hVk _ (by omega)]; exact hrs
    · rw [hU, setCells_block _ 37 _ _ _ _ hVn, over_zero]
    · refine hbl.trans ⟨?_, ?_, ?_, ?_, fun k hk => ?_⟩
      · rw [hU, (hkk 0 (by omega)).2.2.1, hV]; rfl
      · rw [hU, (hkk 0 (by omega)).2.2.2.1, hV]; rfl
      · rw [hU, (hkk 0 (by omega)).2.2.2.2, hV]; rfl
      · rw [hU, (hkk 0 (by omega)).2.1, hV]; simp
      · rw [hU, (hkk k (by omega)).1, hVk k (by omega)]
  have hth : V.there (w.heap.size + 1 + 1) 0 25 := fun i hi => by
    refine ⟨?_, frozen_of_row _ _ _ _ _ hVn⟩
    rw [cell_of_row _ _ _ _ _ _ hVn]; simp [Vz]; omega
  have hwl : w.heap.size + 1 + 1 = W.heap.size := hWs.symm
  have HM0 := Lib.hid M0
  have HTH := Lib.hid hth
  have HW := Lib.hid hW
  have HV := Lib.hid hV
  have HU := Lib.hid hU
  have HWL := Lib.hid hwl
  clear M0 hW hWs hbx hrs hbl hVn hkk hVk hU hth hV hwl
  simp only [Mg.cells, Vz] at HW ⊢
  go_enter Tryz.func35, Tryz.ntmps35
  go_upto_region 1 with fail
  rw [← HW.out]
  have eA : (#[.int .u8 m.k, .int .u8 m.f, .int .u8 m.t, .int .u8 m.e, .int .u32 m.vw, .int .u32 m.sq, .int .u8 m.rq.c, .int .u32 m.rq.t, .int .u8 m.rq.k, .int .u8 m.rq.y, .int .u16 m.rq.v, .int .u64 m.ro, .int .u8 m.ct, .int .u8 m.pg, .int .u32 m.rs, .int .u8 m.vt.f, .int .u8 m.vt.e, .int .u32 m.vt.vw, .int .u32 m.vt.lo, .slice m.vt.ms.a m.vt.ms.n m.vt.ms.c, .slice m.vt.p.a m.vt.p.n m.vt.p.c, .slice m.vt.q.a m.vt.q.n m.vt.q.c, .slice m.vs.a m.vs.n m.vs.c, .slice m.sm.a m.sm.n m.sm.c, .slice m.dt.a m.dt.n m.dt.c] : Array Value) = m.cells.toArray := rfl
  rw [eA]
  clear eA HW
  generalize m.cells.toArray = A
  refine wp_region_lit ?_
  refine wv (.pointer (some ⟨w.heap.size, 0, none⟩)) (W) (by go_simp) ?_
  refine wv (.int .u8 m.k) (W) (by go_simp) ?_
  refine wv (.pointer (some ⟨w.heap.size, 1, none⟩)) (W) (by go_simp) ?_
  refine wv (.int .u8 m.f) (W) (by go_simp) ?_
  refine wv (.pointer (some ⟨w.heap.size, 2, none⟩)) (W) (by go_simp) ?_
  refine wv (.int .u8 m.t) (W) (by go_simp) ?_
  refine wv (.pointer (some ⟨w.heap.size, 3, none⟩)) (W) (by go_simp) ?_
  refine wv (.int .u8 m.e) (W) (by go_simp) ?_
  refine wv (.agg m.head.cells.toArray) (W) (by simp only [Mg.head, Mg.cells, Rq.zero, Vt.zero]; go_simp) ?_
  refine wv (.pointer (some ⟨w.heap.size + 1 + 1, 0, none⟩)) (V) (by have e := HV.out; simp only [Vz] at e; rw [HWL.out, e]; go_simp) ?_
  refine wpList_store_mid rfl 37 (.tmp 3) (.tmp 12) rfl (w.heap.size + 1 + 1) 0 m.head.cells.toArray rfl rfl HTH.out size37 (all_oneCell_toArray m.head.one) ?_
  dsimp only
  rw [← HU.out]
  clear HTH HV HWL HU q0 q1 q2 q3
  have kk : U.cell? ⟨w.heap.size, 0, none⟩ = some (.int .u8 m.k) := HM0.out.cell 0
  rw [HKK.out] at kk ⊢
  obtain ⟨wr, hwr⟩ : ∃ wr, wr = (((U.drew.setCell ⟨w.heap.size + 1 + 1, 4, none⟩ (.int .u32 m.vw)).setCell ⟨w.heap.size + 1 + 1, 5, none⟩ (.int .u32 m.sq)).setCells (w.heap.size + 1 + 1) 6 [.int .u8 m.rq.c, .int .u32 m.rq.t, .int .u8 m.rq.k, .int .u8 m.rq.y, .int .u16 m.rq.v]) := ⟨_, rfl⟩
  have M1 : Mem w wr w.heap.size m (((((((m.head.cells.toArray.setIfInBounds 4 (.int .u32 m.vw)).setIfInBounds 5 (.int .u32 m.sq)).setIfInBounds 6 (.int .u8 m.rq.c)).setIfInBounds 7 (.int .u32 m.rq.t)).setIfInBounds 8 (.int .u8 m.rq.k)).setIfInBounds 9 (.int .u8 m.rq.y)).setIfInBounds 10 (.int .u16 m.rq.v)) := by rw [hwr]; exact (((HM0.out.drew.set 4 (.int .u32 m.vw)).set 5 (.int .u32 m.sq)).setRq (.int .u8 m.rq.c) (.int .u32 m.rq.t) (.int .u8 m.rq.k) (.int .u8 m.rq.y) (.int .u16 m.rq.v))
  have hX : (((((((m.head.cells.toArray.setIfInBounds 4 (.int .u32 m.vw)).setIfInBounds 5 (.int .u32 m.sq)).setIfInBounds 6 (.int .u8 m.rq.c)).setIfInBounds 7 (.int .u32 m.rq.t)).setIfInBounds 8 (.int .u8 m.rq.k)).setIfInBounds 9 (.int .u8 m.rq.y)).setIfInBounds 10 (.int .u16 m.rq.v)) = B.cells.toArray := by rw [HBB.out]; rfl
  rw [hX] at M1
  have HMm := Lib.hid M1
  have HWR := Lib.hid hwr
  clear M1 hX hwr HBB
  have HSZ : m.head.cells.toArray.size = 25 := rfl
  have HDR := HM0.out.drew
  generalize m.head.cells.toArray = A2 at *
  go_upto_region 8 with fail
  refine wp_region_held_drew (S := SM w m) (by kernel_rfl) (⟨_, HSZ, HDR⟩) (fun hS => ?_)
  refine tg 0 (.pointer (some ⟨w.heap.size, 4, none⟩)) rfl hS ?_
  refine tk 1 (.int .u32 m.vw) rfl (yi_load 22 (.tmp 24) (.pointer (some ⟨w.heap.size, 4, none⟩)) rfl rfl rfl (fun wq hw => by have q : wq.cell? ⟨w.heap.size, 4, none⟩ = some (.int .u32 m.vw) := SM.cell hw 4; go_simp)) hS ?_
  refine tg 2 (.pointer (some ⟨w.heap.size, 5, none⟩)) rfl hS ?_
  refine tk 3 (.int .u32 m.sq) rfl (yi_load 22 (.tmp 26) (.pointer (some ⟨w.heap.size, 5, none⟩)) rfl rfl rfl (fun wq hw => by have q : wq.cell? ⟨w.heap.size, 5, none⟩ = some (.int .u32 m.sq) := SM.cell hw 5; go_simp)) hS ?_
  refine tg 4 (.pointer (some ⟨w.heap.size, 6, none⟩)) rfl hS ?_
  refine tk 5 (.agg #[.int .u8 m.rq.c, .int .u32 m.rq.t, .int .u8 m.rq.k, .int .u8 m.rq.y, .int .u16 m.rq.v]) rfl (yi_load 27 (.tmp 28) (.pointer (some ⟨w.heap.size, 6, none⟩)) rfl rfl rfl (fun wq hw => SM.rq hw)) hS ?_
  refine tg 6 (.pointer (some ⟨w.heap.size + 1 + 1, 4, none⟩)) rfl hS ?_
  refine wpAnyH_ready (rs := [7]) (by kernel_rfl) (by simp) ?_
  refine AllReadyH.cons rfl (fun K hK => ?_) AllReadyH.nil
  rw [if_pos (by rfl)]
  refine hwp_st (ty := 22) (p := .pointer (some ⟨w.heap.size + 1 + 1, 4, none⟩)) (v := .int .u32 m.vw) (ox := .tmp 30) (oy := .tmp 25) (SM.run22 hS 4 (by omega) _) rfl rfl rfl rfl ?_
  refine hK.out _ _ (SM.set hS 4 _) (fun hS => ?_)
  clear hK K
  refine tg 8 (.pointer (some ⟨w.heap.size + 1 + 1, 5, none⟩)) rfl hS ?_
  refine wpAnyH_ready (rs := [9]) (by kernel_rfl) (by simp) ?_
  refine AllReadyH.cons rfl (fun K hK => ?_) AllReadyH.nil
  rw [if_pos (by rfl)]
  refine hwp_st (ty := 22) (p := .pointer (some ⟨w.heap.size + 1 + 1, 5, none⟩)) (v := .int .u32 m.sq) (ox := .tmp 31) (oy := .tmp 27) (SM.run22 hS 5 (by omega) _) rfl rfl rfl rfl ?_
  refine hK.out _ _ (SM.set hS 5 _) (fun hS => ?_)
  clear hK K
  refine tg 10 (.pointer (some ⟨w.heap.size + 1 + 1, 6, none⟩)) rfl hS ?_
  refine wpAnyH_ready (rs := [11]) (by kernel_rfl) (by simp) ?_
  refine AllReadyH.cons rfl (fun K hK => ?_) AllReadyH.nil
  rw [if_pos (by rfl)]
  refine hwp_st (ty := 27) (p := .pointer (some ⟨w.heap.size + 1 + 1, 6, none⟩)) (v := .agg #[.int .u8 m.rq.c, .int .u32 m.rq.t, .int .u8 m.rq.k, .int .u8 m.rq.y, .int .u16 m.rq.v]) (ox := .tmp 32) (oy := .tmp 29) (SM.runRq hS _ _ _ _ _) rfl rfl rfl rfl ?_
  refine hK.out _ _ (SM.setRq hS _ _ _ _ _) (fun hS => ?_)
  clear hK K
  refine wpAnyH_done (by kernel_rfl) ?_ _
  all_goals
    go_upto_region 28 with fail
    skip
    rw [← HWR.out]
    clear HWR kk
    have hr := HMm.out.res
    have hth : wr.there (w.heap.size + 1) 0 25 := fun i hi => by
      refine ⟨?_, frozen_of_row _ _ _ _ _ hr⟩
      rw [cell_of_row _ _ _ _ _ _ hr]; simp [Vz]; omega
    have HT := Lib.hid hth
    have HMade := Lib.hid HMm.out.made
    obtain ⟨w2, hw2⟩ : ∃ w2, w2 = wr.setCells (w.heap.size + 1) 0 B.cells := ⟨_, rfl⟩
    have hk := fun k (h : k ≠ w.heap.size + 1) => setCells_kept (w.heap.size + 1) B.cells 0 wr k h
    have hbel : Below w.heap.size w w2 := HMm.out.bel.trans (by rw [hw2]; exact ⟨(hk w.heap.size (by omega)).2.2.1, (hk w.heap.size (by omega)).2.2.2.1, (hk w.heap.size (by omega)).2.2.2.2, by rw [(hk w.heap.size (by omega)).2.1]; exact Nat.le_refl _, fun k h => (hk k (by omega)).1⟩)
    have hblk : w2.heap[w.heap.size + 1]? = some (.cells B.cells.toArray 37 (0, 0)) := by rw [hw2, setCells_block _ 37 _ _ _ _ hr, over_zero]
    have HBEL := Lib.hid hbel
    have HBLK := Lib.hid hblk
    have HW2 := Lib.hid hw2
    clear hth hr hbel hblk hw2 hk
    refine wp_region_lit ?_
    refine wpList_load_row rfl 37 (.tmp 3) rfl (w.heap.size + 1 + 1) rfl 37 _ (0, 0) _ HMade.out Tryz.underlying37 rfl size37 ?_
    refine wpList_store_mid rfl 37 (.tmp 2) (.tmp 106) rfl (w.heap.size + 1) 0 B.cells.toArray rfl rfl HT.out size37 (all_oneCell_toArray B.one) ?_
    dsimp only
    rw [← HW2.out]
    go_wp2_with fail
    (try simp only [Exit.inBlock, Exit.then])
    refine bodyPost_ret (results_cell_row (P := Tryz.prog) rfl _ _ (w.heap.size + 1) 37 _ (0, 0) _ rfl HBLK.out Tryz.underlying37 rfl size37) rfl ?_
    exact ⟨rfl, HBEL.out⟩

set_option maxHeartbeats 8000000 in
theorem refBare_k3 (w : World) (m : Mg) (hk : m.k = 3) :
    Calls Tryz.prog 35 #[.agg m.cells.toArray] w fun e w' => e = .returned (.agg (m.bare [0, 1, 2]).cells.toArray) ∧ Below w.heap.size w w' := by
  obtain ⟨B, hB⟩ : ∃ B, B = m.bare [0, 1, 2] := ⟨_, rfl⟩
  rw [← hB]
  have HBB := Lib.hid hB
  have HKK := Lib.hid hk
  clear hB hk
  obtain ⟨W, hW⟩ : ∃ W, W = (w.alloc (.cells m.cells.toArray 37)).alloc (.cells Vz.toArray 37) := ⟨_, rfl⟩
  have hWs : W.heap.size = w.heap.size + 1 + 1 := by rw [hW]; simp
  have hbx : W.heap[w.heap.size]? = some (.cells m.cells.toArray 37 (0, 0)) := by rw [hW]; exact heap_alloc2_old _ _ _
  have hrs : W.heap[w.heap.size + 1]? = some (.cells Vz.toArray 37 (0, 0)) := by rw [hW]; exact heap_alloc2_new _ _ _
  have hbl : Below w.heap.size w W := by rw [hW]; exact ((Below.refl _ _).alloc (Nat.le_refl _) _).alloc (by simp) _
  have q0 : W.cell? ⟨w.heap.size, 0, none⟩ = some (.int .u8 m.k) := cell_box hbx 0
  have q1 : W.cell? ⟨w.heap.size, 1, none⟩ = some (.int .u8 m.f) := cell_box hbx 1
  have q2 : W.cell? ⟨w.heap.size, 2, none⟩ = some (.int .u8 m.t) := cell_box hbx 2
  have q3 : W.cell? ⟨w.heap.size, 3, none⟩ = some (.int .u8 m.e) := cell_box hbx 3
  obtain ⟨V, hV⟩ : ∃ V, V = W.alloc (.cells Vz.toArray 37) := ⟨_, rfl⟩
  have hVn : V.heap[w.heap.size + 1 + 1]? = some (.cells Vz.toArray 37 (0, 0)) := by rw [hV, ← hWs]; exact heap_alloc_new _ _
  have hkk := fun k (h : k ≠ w.heap.size + 1 + 1) => setCells_kept (w.heap.size + 1 + 1) m.head.cells 0 V k h
  have hVk : ∀ k, k < w.heap.size + 1 + 1 → V.heap[k]? = W.heap[k]? := fun k hk => by rw [hV]; exact heap_alloc_old _ _ (by omega)
  obtain ⟨U, hU⟩ : ∃ U, U = V.setCells (w.heap.size + 1 + 1) 0 m.head.cells := ⟨_, rfl⟩
  have M0 : Mem w U w.heap.size m m.head.cells.toArray := by
    refine ⟨?_, ?_, ?_, ?_, rfl⟩
    · rw [hU, (hkk _ (by omega)).1, hVk _ (by omega)]; exact hbx
    · rw [hU, (hkk _ (by omega)).1, hVk _ (by omega)]; exact hrs
    · rw [hU, setCells_block _ 37 _ _ _ _ hVn, over_zero]
    · refine hbl.trans ⟨?_, ?_, ?_, ?_, fun k hk => ?_⟩
      · rw [hU, (hkk 0 (by omega)).2.2.1, hV]; rfl
      · rw [hU, (hkk 0 (by omega)).2.2.2.1, hV]; rfl
      · rw [hU, (hkk 0 (by omega)).2.2.2.2, hV]; rfl
      · rw [hU, (hkk 0 (by omega)).2.1, hV]; simp
      · rw [hU, (hkk k (by omega)).1, hVk k (by omega)]
  have hth : V.there (w.heap.size + 1 + 1) 0 25 := fun i hi => by
    refine ⟨?_, frozen_of_row _ _ _ _ _ hVn⟩
    rw [cell_of_row _ _ _ _ _ _ hVn]; simp [Vz]; omega
  have hwl : w.heap.size + 1 + 1 = W.heap.size := hWs.symm
  have HM0 := Lib.hid M0
  have HTH := Lib.hid hth
  have HW := Lib.hid hW
  have HV := Lib.hid hV
  have HU := Lib.hid hU
  have HWL := Lib.hid hwl
  clear M0 hW hWs hbx hrs hbl hVn hkk hVk hU hth hV hwl
  simp only [Mg.cells, Vz] at HW ⊢
  go_enter Tryz.func35, Tryz.ntmps35
  go_upto_region 1 with fail
  rw [← HW.out]
  have eA : (#[.int .u8 m.k, .int .u8 m.f, .int .u8 m.t, .int .u8 m.e, .int .u32 m.vw, .int .u32 m.sq, .int .u8 m.rq.c, .int .u32 m.rq.t, .int .u8 m.rq.k, .int .u8 m.rq.y, .int .u16 m.rq.v, .int .u64 m.ro, .int .u8 m.ct, .int .u8 m.pg, .int .u32 m.rs, .int .u8 m.vt.f, .int .u8 m.vt.e, .int .u32 m.vt.vw, .int .u32 m.vt.lo, .slice m.vt.ms.a m.vt.ms.n m.vt.ms.c, .slice m.vt.p.a m.vt.p.n m.vt.p.c, .slice m.vt.q.a m.vt.q.n m.vt.q.c, .slice m.vs.a m.vs.n m.vs.c, .slice m.sm.a m.sm.n m.sm.c, .slice m.dt.a m.dt.n m.dt.c] : Array Value) = m.cells.toArray := rfl
  rw [eA]
  clear eA HW
  generalize m.cells.toArray = A
  refine wp_region_lit ?_
  refine wv (.pointer (some ⟨w.heap.size, 0, none⟩)) (W) (by go_simp) ?_
  refine wv (.int .u8 m.k) (W) (by go_simp) ?_
  refine wv (.pointer (some ⟨w.heap.size, 1, none⟩)) (W) (by go_simp) ?_
  refine wv (.int .u8 m.f) (W) (by go_simp) ?_
  refine wv (.pointer (some ⟨w.heap.size, 2, none⟩)) (W) (by go_simp) ?_
  refine wv (.int .u8 m.t) (W) (by go_simp) ?_
  refine wv (.pointer (some ⟨w.heap.size, 3, none⟩)) (W) (by go_simp) ?_
  refine wv (.int .u8 m.e) (W) (by go_simp) ?_
  refine wv (.agg m.head.cells.toArray) (W) (by simp only [Mg.head, Mg.cells, Rq.zero, Vt.zero]; go_simp) ?_
  refine wv (.pointer (some ⟨w.heap.size + 1 + 1, 0, none⟩)) (V) (by have e := HV.out; simp only [Vz] at e; rw [HWL.out, e]; go_simp) ?_
  refine wpList_store_mid rfl 37 (.tmp 3) (.tmp 12) rfl (w.heap.size + 1 + 1) 0 m.head.cells.toArray rfl rfl HTH.out size37 (all_oneCell_toArray m.head.one) ?_
  dsimp only
  rw [← HU.out]
  clear HTH HV HWL HU q0 q1 q2 q3
  have kk : U.cell? ⟨w.heap.size, 0, none⟩ = some (.int .u8 m.k) := HM0.out.cell 0
  rw [HKK.out] at kk ⊢
  obtain ⟨wr, hwr⟩ : ∃ wr, wr = (((U.drew.setCell ⟨w.heap.size + 1 + 1, 4, none⟩ (.int .u32 m.vw)).setCell ⟨w.heap.size + 1 + 1, 5, none⟩ (.int .u32 m.sq)).setCells (w.heap.size + 1 + 1) 6 [.int .u8 m.rq.c, .int .u32 m.rq.t, .int .u8 m.rq.k, .int .u8 m.rq.y, .int .u16 m.rq.v]) := ⟨_, rfl⟩
  have M1 : Mem w wr w.heap.size m (((((((m.head.cells.toArray.setIfInBounds 4 (.int .u32 m.vw)).setIfInBounds 5 (.int .u32 m.sq)).setIfInBounds 6 (.int .u8 m.rq.c)).setIfInBounds 7 (.int .u32 m.rq.t)).setIfInBounds 8 (.int .u8 m.rq.k)).setIfInBounds 9 (.int .u8 m.rq.y)).setIfInBounds 10 (.int .u16 m.rq.v)) := by rw [hwr]; exact (((HM0.out.drew.set 4 (.int .u32 m.vw)).set 5 (.int .u32 m.sq)).setRq (.int .u8 m.rq.c) (.int .u32 m.rq.t) (.int .u8 m.rq.k) (.int .u8 m.rq.y) (.int .u16 m.rq.v))
  have hX : (((((((m.head.cells.toArray.setIfInBounds 4 (.int .u32 m.vw)).setIfInBounds 5 (.int .u32 m.sq)).setIfInBounds 6 (.int .u8 m.rq.c)).setIfInBounds 7 (.int .u32 m.rq.t)).setIfInBounds 8 (.int .u8 m.rq.k)).setIfInBounds 9 (.int .u8 m.rq.y)).setIfInBounds 10 (.int .u16 m.rq.v)) = B.cells.toArray := by rw [HBB.out]; rfl
  rw [hX] at M1
  have HMm := Lib.hid M1
  have HWR := Lib.hid hwr
  clear M1 hX hwr HBB
  have HSZ : m.head.cells.toArray.size = 25 := rfl
  have HDR := HM0.out.drew
  generalize m.head.cells.toArray = A2 at *
  go_upto_region 8 with fail
  refine wp_region_held_drew (S := SM w m) (by kernel_rfl) (⟨_, HSZ, HDR⟩) (fun hS => ?_)
  refine tg 0 (.pointer (some ⟨w.heap.size, 4, none⟩)) rfl hS ?_
  refine tk 1 (.int .u32 m.vw) rfl (yi_load 22 (.tmp 24) (.pointer (some ⟨w.heap.size, 4, none⟩)) rfl rfl rfl (fun wq hw => by have q : wq.cell? ⟨w.heap.size, 4, none⟩ = some (.int .u32 m.vw) := SM.cell hw 4; go_simp)) hS ?_
  refine tg 2 (.pointer (some ⟨w.heap.size, 5, none⟩)) rfl hS ?_
  refine tk 3 (.int .u32 m.sq) rfl (yi_load 22 (.tmp 26) (.pointer (some ⟨w.heap.size, 5, none⟩)) rfl rfl rfl (fun wq hw => by have q : wq.cell? ⟨w.heap.size, 5, none⟩ = some (.int .u32 m.sq) := SM.cell hw 5; go_simp)) hS ?_
  refine tg 4 (.pointer (some ⟨w.heap.size, 6, none⟩)) rfl hS ?_
  refine tk 5 (.agg #[.int .u8 m.rq.c, .int .u32 m.rq.t, .int .u8 m.rq.k, .int .u8 m.rq.y, .int .u16 m.rq.v]) rfl (yi_load 27 (.tmp 28) (.pointer (some ⟨w.heap.size, 6, none⟩)) rfl rfl rfl (fun wq hw => SM.rq hw)) hS ?_
  refine tg 6 (.pointer (some ⟨w.heap.size + 1 + 1, 4, none⟩)) rfl hS ?_
  refine wpAnyH_ready (rs := [7]) (by kernel_rfl) (by simp) ?_
  refine AllReadyH.cons rfl (fun K hK => ?_) AllReadyH.nil
  rw [if_pos (by rfl)]
  refine hwp_st (ty := 22) (p := .pointer (some ⟨w.heap.size + 1 + 1, 4, none⟩)) (v := .int .u32 m.vw) (ox := .tmp 30) (oy := .tmp 25) (SM.run22 hS 4 (by omega) _) rfl rfl rfl rfl ?_
  refine hK.out _ _ (SM.set hS 4 _) (fun hS => ?_)
  clear hK K
  refine tg 8 (.pointer (some ⟨w.heap.size + 1 + 1, 5, none⟩)) rfl hS ?_
  refine wpAnyH_ready (rs := [9]) (by kernel_rfl) (by simp) ?_
  refine AllReadyH.cons rfl (fun K hK => ?_) AllReadyH.nil
  rw [if_pos (by rfl)]
  refine hwp_st (ty := 22) (p := .pointer (some ⟨w.heap.size + 1 + 1, 5, none⟩)) (v := .int .u32 m.sq) (ox := .tmp 31) (oy := .tmp 27) (SM.run22 hS 5 (by omega) _) rfl rfl rfl rfl ?_
  refine hK.out _ _ (SM.set hS 5 _) (fun hS => ?_)
  clear hK K
  refine tg 10 (.pointer (some ⟨w.heap.size + 1 + 1, 6, none⟩)) rfl hS ?_
  refine wpAnyH_ready (rs := [11]) (by kernel_rfl) (by simp) ?_
  refine AllReadyH.cons rfl (fun K hK => ?_) AllReadyH.nil
  rw [if_pos (by rfl)]
  refine hwp_st (ty := 27) (p := .pointer (some ⟨w.heap.size + 1 + 1, 6, none⟩)) (v := .agg #[.int .u8 m.rq.c, .int .u32 m.rq.t, .int .u8 m.rq.k, .int .u8 m.rq.y, .int .u16 m.rq.v]) (ox := .tmp 32) (oy := .tmp 29) (SM.runRq hS _ _ _ _ _) rfl rfl rfl rfl ?_
  refine hK.out _ _ (SM.setRq hS _ _ _ _ _) (fun hS => ?_)
  clear hK K
  refine wpAnyH_done (by kernel_rfl) ?_ _
  all_goals
    go_upto_region 28 with fail
    skip
    rw [← HWR.out]
    clear HWR kk
    have hr := HMm.out.res
    have hth : wr.there (w.heap.size + 1) 0 25 := fun i hi => by
      refine ⟨?_, frozen_of_row _ _ _ _ _ hr⟩
      rw [cell_of_row _ _ _ _ _ _ hr]; simp [Vz]; omega
    have HT := Lib.hid hth
    have HMade := Lib.hid HMm.out.made
    obtain ⟨w2, hw2⟩ : ∃ w2, w2 = wr.setCells (w.heap.size + 1) 0 B.cells := ⟨_, rfl⟩
    have hk := fun k (h : k ≠ w.heap.size + 1) => setCells_kept (w.heap.size + 1) B.cells 0 wr k h
    have hbel : Below w.heap.size w w2 := HMm.out.bel.trans (by rw [hw2]; exact ⟨(hk w.heap.size (by omega)).2.2.1, (hk w.heap.size (by omega)).2.2.2.1, (hk w.heap.size (by omega)).2.2.2.2, by rw [(hk w.heap.size (by omega)).2.1]; exact Nat.le_refl _, fun k h => (hk k (by omega)).1⟩)
    have hblk : w2.heap[w.heap.size + 1]? = some (.cells B.cells.toArray 37 (0, 0)) := by rw [hw2, setCells_block _ 37 _ _ _ _ hr, over_zero]
    have HBEL := Lib.hid hbel
    have HBLK := Lib.hid hblk
    have HW2 := Lib.hid hw2
    clear hth hr hbel hblk hw2 hk
    refine wp_region_lit ?_
    refine wpList_load_row rfl 37 (.tmp 3) rfl (w.heap.size + 1 + 1) rfl 37 _ (0, 0) _ HMade.out Tryz.underlying37 rfl size37 ?_
    refine wpList_store_mid rfl 37 (.tmp 2) (.tmp 106) rfl (w.heap.size + 1) 0 B.cells.toArray rfl rfl HT.out size37 (all_oneCell_toArray B.one) ?_
    dsimp only
    rw [← HW2.out]
    go_wp2_with fail
    (try simp only [Exit.inBlock, Exit.then])
    refine bodyPost_ret (results_cell_row (P := Tryz.prog) rfl _ _ (w.heap.size + 1) 37 _ (0, 0) _ rfl HBLK.out Tryz.underlying37 rfl size37) rfl ?_
    exact ⟨rfl, HBEL.out⟩

set_option maxHeartbeats 8000000 in
theorem refBare_k4 (w : World) (m : Mg) (hk : m.k = 4) :
    Calls Tryz.prog 35 #[.agg m.cells.toArray] w fun e w' => e = .returned (.agg (m.bare [0, 1, 2]).cells.toArray) ∧ Below w.heap.size w w' := by
  obtain ⟨B, hB⟩ : ∃ B, B = m.bare [0, 1, 2] := ⟨_, rfl⟩
  rw [← hB]
  have HBB := Lib.hid hB
  have HKK := Lib.hid hk
  clear hB hk
  obtain ⟨W, hW⟩ : ∃ W, W = (w.alloc (.cells m.cells.toArray 37)).alloc (.cells Vz.toArray 37) := ⟨_, rfl⟩
  have hWs : W.heap.size = w.heap.size + 1 + 1 := by rw [hW]; simp
  have hbx : W.heap[w.heap.size]? = some (.cells m.cells.toArray 37 (0, 0)) := by rw [hW]; exact heap_alloc2_old _ _ _
  have hrs : W.heap[w.heap.size + 1]? = some (.cells Vz.toArray 37 (0, 0)) := by rw [hW]; exact heap_alloc2_new _ _ _
  have hbl : Below w.heap.size w W := by rw [hW]; exact ((Below.refl _ _).alloc (Nat.le_refl _) _).alloc (by simp) _
  have q0 : W.cell? ⟨w.heap.size, 0, none⟩ = some (.int .u8 m.k) := cell_box hbx 0
  have q1 : W.cell? ⟨w.heap.size, 1, none⟩ = some (.int .u8 m.f) := cell_box hbx 1
  have q2 : W.cell? ⟨w.heap.size, 2, none⟩ = some (.int .u8 m.t) := cell_box hbx 2
  have q3 : W.cell? ⟨w.heap.size, 3, none⟩ = some (.int .u8 m.e) := cell_box hbx 3
  obtain ⟨V, hV⟩ : ∃ V, V = W.alloc (.cells Vz.toArray 37) := ⟨_, rfl⟩
  have hVn : V.heap[w.heap.size + 1 + 1]? = some (.cells Vz.toArray 37 (0, 0)) := by rw [hV, ← hWs]; exact heap_alloc_new _ _
  have hkk := fun k (h : k ≠ w.heap.size + 1 + 1) => setCells_kept (w.heap.size + 1 + 1) m.head.cells 0 V k h
  have hVk : ∀ k, k < w.heap.size + 1 + 1 → V.heap[k]? = W.heap[k]? := fun k hk => by rw [hV]; exact heap_alloc_old _ _ (by omega)
  obtain ⟨U, hU⟩ : ∃ U, U = V.setCells (w.heap.size + 1 + 1) 0 m.head.cells := ⟨_, rfl⟩
  have M0 : Mem w U w.heap.size m m.head.cells.toArray := by
    refine ⟨?_, ?_, ?_, ?_, rfl⟩
    · rw [hU, (hkk _ (by omega)).1, hVk _ (by omega)]; exact hbx
    · rw [hU, (hkk _ (by omega)).1, hVk _ (by omega)]; exact hrs
    · rw [hU, setCells_block _ 37 _ _ _ _ hVn, over_zero]
    · refine hbl.trans ⟨?_, ?_, ?_, ?_, fun k hk => ?_⟩
      · rw [hU, (hkk 0 (by omega)).2.2.1, hV]; rfl
      · rw [hU, (hkk 0 (by omega)).2.2.2.1, hV]; rfl
      · rw [hU, (hkk 0 (by omega)).2.2.2.2, hV]; rfl
      · rw [hU, (hkk 0 (by omega)).2.1, hV]; simp
      · rw [hU, (hkk k (by omega)).1, hVk k (by omega)]
  have hth : V.there (w.heap.size + 1 + 1) 0 25 := fun i hi => by
    refine ⟨?_, frozen_of_row _ _ _ _ _ hVn⟩
    rw [cell_of_row _ _ _ _ _ _ hVn]; simp [Vz]; omega
  have hwl : w.heap.size + 1 + 1 = W.heap.size := hWs.symm
  have HM0 := Lib.hid M0
  have HTH := Lib.hid hth
  have HW := Lib.hid hW
  have HV := Lib.hid hV
  have HU := Lib.hid hU
  have HWL := Lib.hid hwl
  clear M0 hW hWs hbx hrs hbl hVn hkk hVk hU hth hV hwl
  simp only [Mg.cells, Vz] at HW ⊢
  go_enter Tryz.func35, Tryz.ntmps35
  go_upto_region 1 with fail
  rw [← HW.out]
  have eA : (#[.int .u8 m.k, .int .u8 m.f, .int .u8 m.t, .int .u8 m.e, .int .u32 m.vw, .int .u32 m.sq, .int .u8 m.rq.c, .int .u32 m.rq.t, .int .u8 m.rq.k, .int .u8 m.rq.y, .int .u16 m.rq.v, .int .u64 m.ro, .int .u8 m.ct, .int .u8 m.pg, .int .u32 m.rs, .int .u8 m.vt.f, .int .u8 m.vt.e, .int .u32 m.vt.vw, .int .u32 m.vt.lo, .slice m.vt.ms.a m.vt.ms.n m.vt.ms.c, .slice m.vt.p.a m.vt.p.n m.vt.p.c, .slice m.vt.q.a m.vt.q.n m.vt.q.c, .slice m.vs.a m.vs.n m.vs.c, .slice m.sm.a m.sm.n m.sm.c, .slice m.dt.a m.dt.n m.dt.c] : Array Value) = m.cells.toArray := rfl
  rw [eA]
  clear eA HW
  generalize m.cells.toArray = A
  refine wp_region_lit ?_
  refine wv (.pointer (some ⟨w.heap.size, 0, none⟩)) (W) (by go_simp) ?_
  refine wv (.int .u8 m.k) (W) (by go_simp) ?_
  refine wv (.pointer (some ⟨w.heap.size, 1, none⟩)) (W) (by go_simp) ?_
  refine wv (.int .u8 m.f) (W) (by go_simp) ?_
  refine wv (.pointer (some ⟨w.heap.size, 2, none⟩)) (W) (by go_simp) ?_
  refine wv (.int .u8 m.t) (W) (by go_simp) ?_
  refine wv (.pointer (some ⟨w.heap.size, 3, none⟩)) (W) (by go_simp) ?_
  refine wv (.int .u8 m.e) (W) (by go_simp) ?_
  refine wv (.agg m.head.cells.toArray) (W) (by simp only [Mg.head, Mg.cells, Rq.zero, Vt.zero]; go_simp) ?_
  refine wv (.pointer (some ⟨w.heap.size + 1 + 1, 0, none⟩)) (V) (by have e := HV.out; simp only [Vz] at e; rw [HWL.out, e]; go_simp) ?_
  refine wpList_store_mid rfl 37 (.tmp 3) (.tmp 12) rfl (w.heap.size + 1 + 1) 0 m.head.cells.toArray rfl rfl HTH.out size37 (all_oneCell_toArray m.head.one) ?_
  dsimp only
  rw [← HU.out]
  clear HTH HV HWL HU q0 q1 q2 q3
  have kk : U.cell? ⟨w.heap.size, 0, none⟩ = some (.int .u8 m.k) := HM0.out.cell 0
  rw [HKK.out] at kk ⊢
  obtain ⟨wr, hwr⟩ : ∃ wr, wr = (((U.drew.setCell ⟨w.heap.size + 1 + 1, 4, none⟩ (.int .u32 m.vw)).setCell ⟨w.heap.size + 1 + 1, 5, none⟩ (.int .u32 m.sq)).setCells (w.heap.size + 1 + 1) 6 [.int .u8 m.rq.c, .int .u32 m.rq.t, .int .u8 m.rq.k, .int .u8 m.rq.y, .int .u16 m.rq.v]) := ⟨_, rfl⟩
  have M1 : Mem w wr w.heap.size m (((((((m.head.cells.toArray.setIfInBounds 4 (.int .u32 m.vw)).setIfInBounds 5 (.int .u32 m.sq)).setIfInBounds 6 (.int .u8 m.rq.c)).setIfInBounds 7 (.int .u32 m.rq.t)).setIfInBounds 8 (.int .u8 m.rq.k)).setIfInBounds 9 (.int .u8 m.rq.y)).setIfInBounds 10 (.int .u16 m.rq.v)) := by rw [hwr]; exact (((HM0.out.drew.set 4 (.int .u32 m.vw)).set 5 (.int .u32 m.sq)).setRq (.int .u8 m.rq.c) (.int .u32 m.rq.t) (.int .u8 m.rq.k) (.int .u8 m.rq.y) (.int .u16 m.rq.v))
  have hX : (((((((m.head.cells.toArray.setIfInBounds 4 (.int .u32 m.vw)).setIfInBounds 5 (.int .u32 m.sq)).setIfInBounds 6 (.int .u8 m.rq.c)).setIfInBounds 7 (.int .u32 m.rq.t)).setIfInBounds 8 (.int .u8 m.rq.k)).setIfInBounds 9 (.int .u8 m.rq.y)).setIfInBounds 10 (.int .u16 m.rq.v)) = B.cells.toArray := by rw [HBB.out]; rfl
  rw [hX] at M1
  have HMm := Lib.hid M1
  have HWR := Lib.hid hwr
  clear M1 hX hwr HBB
  have HSZ : m.head.cells.toArray.size = 25 := rfl
  have HDR := HM0.out.drew
  generalize m.head.cells.toArray = A2 at *
  go_upto_region 8 with fail
  refine wp_region_held_drew (S := SM w m) (by kernel_rfl) (⟨_, HSZ, HDR⟩) (fun hS => ?_)
  refine tg 0 (.pointer (some ⟨w.heap.size, 4, none⟩)) rfl hS ?_
  refine tk 1 (.int .u32 m.vw) rfl (yi_load 22 (.tmp 24) (.pointer (some ⟨w.heap.size, 4, none⟩)) rfl rfl rfl (fun wq hw => by have q : wq.cell? ⟨w.heap.size, 4, none⟩ = some (.int .u32 m.vw) := SM.cell hw 4; go_simp)) hS ?_
  refine tg 2 (.pointer (some ⟨w.heap.size, 5, none⟩)) rfl hS ?_
  refine tk 3 (.int .u32 m.sq) rfl (yi_load 22 (.tmp 26) (.pointer (some ⟨w.heap.size, 5, none⟩)) rfl rfl rfl (fun wq hw => by have q : wq.cell? ⟨w.heap.size, 5, none⟩ = some (.int .u32 m.sq) := SM.cell hw 5; go_simp)) hS ?_
  refine tg 4 (.pointer (some ⟨w.heap.size, 6, none⟩)) rfl hS ?_
  refine tk 5 (.agg #[.int .u8 m.rq.c, .int .u32 m.rq.t, .int .u8 m.rq.k, .int .u8 m.rq.y, .int .u16 m.rq.v]) rfl (yi_load 27 (.tmp 28) (.pointer (some ⟨w.heap.size, 6, none⟩)) rfl rfl rfl (fun wq hw => SM.rq hw)) hS ?_
  refine tg 6 (.pointer (some ⟨w.heap.size + 1 + 1, 4, none⟩)) rfl hS ?_
  refine wpAnyH_ready (rs := [7]) (by kernel_rfl) (by simp) ?_
  refine AllReadyH.cons rfl (fun K hK => ?_) AllReadyH.nil
  rw [if_pos (by rfl)]
  refine hwp_st (ty := 22) (p := .pointer (some ⟨w.heap.size + 1 + 1, 4, none⟩)) (v := .int .u32 m.vw) (ox := .tmp 30) (oy := .tmp 25) (SM.run22 hS 4 (by omega) _) rfl rfl rfl rfl ?_
  refine hK.out _ _ (SM.set hS 4 _) (fun hS => ?_)
  clear hK K
  refine tg 8 (.pointer (some ⟨w.heap.size + 1 + 1, 5, none⟩)) rfl hS ?_
  refine wpAnyH_ready (rs := [9]) (by kernel_rfl) (by simp) ?_
  refine AllReadyH.cons rfl (fun K hK => ?_) AllReadyH.nil
  rw [if_pos (by rfl)]
  refine hwp_st (ty := 22) (p := .pointer (some ⟨w.heap.size + 1 + 1, 5, none⟩)) (v := .int .u32 m.sq) (ox := .tmp 31) (oy := .tmp 27) (SM.run22 hS 5 (by omega) _) rfl rfl rfl rfl ?_
  refine hK.out _ _ (SM.set hS 5 _) (fun hS => ?_)
  clear hK K
  refine tg 10 (.pointer (some ⟨w.heap.size + 1 + 1, 6, none⟩)) rfl hS ?_
  refine wpAnyH_ready (rs := [11]) (by kernel_rfl) (by simp) ?_
  refine AllReadyH.cons rfl (fun K hK => ?_) AllReadyH.nil
  rw [if_pos (by rfl)]
  refine hwp_st (ty := 27) (p := .pointer (some ⟨w.heap.size + 1 + 1, 6, none⟩)) (v := .agg #[.int .u8 m.rq.c, .int .u32 m.rq.t, .int .u8 m.rq.k, .int .u8 m.rq.y, .int .u16 m.rq.v]) (ox := .tmp 32) (oy := .tmp 29) (SM.runRq hS _ _ _ _ _) rfl rfl rfl rfl ?_
  refine hK.out _ _ (SM.setRq hS _ _ _ _ _) (fun hS => ?_)
  clear hK K
  refine wpAnyH_done (by kernel_rfl) ?_ _
  all_goals
    go_upto_region 28 with fail
    skip
    rw [← HWR.out]
    clear HWR kk
    have hr := HMm.out.res
    have hth : wr.there (w.heap.size + 1) 0 25 := fun i hi => by
      refine ⟨?_, frozen_of_row _ _ _ _ _ hr⟩
      rw [cell_of_row _ _ _ _ _ _ hr]; simp [Vz]; omega
    have HT := Lib.hid hth
    have HMade := Lib.hid HMm.out.made
    obtain ⟨w2, hw2⟩ : ∃ w2, w2 = wr.setCells (w.heap.size + 1) 0 B.cells := ⟨_, rfl⟩
    have hk := fun k (h : k ≠ w.heap.size + 1) => setCells_kept (w.heap.size + 1) B.cells 0 wr k h
    have hbel : Below w.heap.size w w2 := HMm.out.bel.trans (by rw [hw2]; exact ⟨(hk w.heap.size (by omega)).2.2.1, (hk w.heap.size (by omega)).2.2.2.1, (hk w.heap.size (by omega)).2.2.2.2, by rw [(hk w.heap.size (by omega)).2.1]; exact Nat.le_refl _, fun k h => (hk k (by omega)).1⟩)
    have hblk : w2.heap[w.heap.size + 1]? = some (.cells B.cells.toArray 37 (0, 0)) := by rw [hw2, setCells_block _ 37 _ _ _ _ hr, over_zero]
    have HBEL := Lib.hid hbel
    have HBLK := Lib.hid hblk
    have HW2 := Lib.hid hw2
    clear hth hr hbel hblk hw2 hk
    refine wp_region_lit ?_
    refine wpList_load_row rfl 37 (.tmp 3) rfl (w.heap.size + 1 + 1) rfl 37 _ (0, 0) _ HMade.out Tryz.underlying37 rfl size37 ?_
    refine wpList_store_mid rfl 37 (.tmp 2) (.tmp 106) rfl (w.heap.size + 1) 0 B.cells.toArray rfl rfl HT.out size37 (all_oneCell_toArray B.one) ?_
    dsimp only
    rw [← HW2.out]
    go_wp2_with fail
    (try simp only [Exit.inBlock, Exit.then])
    refine bodyPost_ret (results_cell_row (P := Tryz.prog) rfl _ _ (w.heap.size + 1) 37 _ (0, 0) _ rfl HBLK.out Tryz.underlying37 rfl size37) rfl ?_
    exact ⟨rfl, HBEL.out⟩

set_option maxHeartbeats 8000000 in
theorem refBare_k14 (w : World) (m : Mg) (hk : m.k = 14) :
    Calls Tryz.prog 35 #[.agg m.cells.toArray] w fun e w' => e = .returned (.agg (m.bare [0, 2, 6]).cells.toArray) ∧ Below w.heap.size w w' := by
  obtain ⟨B, hB⟩ : ∃ B, B = m.bare [0, 2, 6] := ⟨_, rfl⟩
  rw [← hB]
  have HBB := Lib.hid hB
  have HKK := Lib.hid hk
  clear hB hk
  obtain ⟨W, hW⟩ : ∃ W, W = (w.alloc (.cells m.cells.toArray 37)).alloc (.cells Vz.toArray 37) := ⟨_, rfl⟩
  have hWs : W.heap.size = w.heap.size + 1 + 1 := by rw [hW]; simp
  have hbx : W.heap[w.heap.size]? = some (.cells m.cells.toArray 37 (0, 0)) := by rw [hW]; exact heap_alloc2_old _ _ _
  have hrs : W.heap[w.heap.size + 1]? = some (.cells Vz.toArray 37 (0, 0)) := by rw [hW]; exact heap_alloc2_new _ _ _
  have hbl : Below w.heap.size w W := by rw [hW]; exact ((Below.refl _ _).alloc (Nat.le_refl _) _).alloc (by simp) _
  have q0 : W.cell? ⟨w.heap.size, 0, none⟩ = some (.int .u8 m.k) := cell_box hbx 0
  have q1 : W.cell? ⟨w.heap.size, 1, none⟩ = some (.int .u8 m.f) := cell_box hbx 1
  have q2 : W.cell? ⟨w.heap.size, 2, none⟩ = some (.int .u8 m.t) := cell_box hbx 2
  have q3 : W.cell? ⟨w.heap.size, 3, none⟩ = some (.int .u8 m.e) := cell_box hbx 3
  obtain ⟨V, hV⟩ : ∃ V, V = W.alloc (.cells Vz.toArray 37) := ⟨_, rfl⟩
  have hVn : V.heap[w.heap.size + 1 + 1]? = some (.cells Vz.toArray 37 (0, 0)) := by rw [hV, ← hWs]; exact heap_alloc_new _ _
  have hkk := fun k (h : k ≠ w.heap.size + 1 + 1) => setCells_kept (w.heap.size + 1 + 1) m.head.cells 0 V k h
  have hVk : ∀ k, k < w.heap.size + 1 + 1 → V.heap[k]? = W.heap[k]? := fun k hk => by rw [hV]; exact heap_alloc_old _ _ (by omega)
  obtain ⟨U, hU⟩ : ∃ U, U = V.setCells (w.heap.size + 1 + 1) 0 m.head.cells := ⟨_, rfl⟩
  have M0 : Mem w U w.heap.size m m.head.cells.toArray := by
    refine ⟨?_, ?_, ?_, ?_, rfl⟩
    · rw [hU, (hkk _ (by omega)).1, hVk _ (by omega)]; exact hbx
    · rw [hU, (hkk _ (by omega)).1, hVk _ (by omega)]; exact hrs
    · rw [hU, setCells_block _ 37 _ _ _ _ hVn, over_zero]
    · refine hbl.trans ⟨?_, ?_, ?_, ?_, fun k hk => ?_⟩
      · rw [hU, (hkk 0 (by omega)).2.2.1, hV]; rfl
      · rw [hU, (hkk 0 (by omega)).2.2.2.1, hV]; rfl
      · rw [hU, (hkk 0 (by omega)).2.2.2.2, hV]; rfl
      · rw [hU, (hkk 0 (by omega)).2.1, hV]; simp
      · rw [hU, (hkk k (by omega)).1, hVk k (by omega)]
  have hth : V.there (w.heap.size + 1 + 1) 0 25 := fun i hi => by
    refine ⟨?_, frozen_of_row _ _ _ _ _ hVn⟩
    rw [cell_of_row _ _ _ _ _ _ hVn]; simp [Vz]; omega
  have hwl : w.heap.size + 1 + 1 = W.heap.size := hWs.symm
  have HM0 := Lib.hid M0
  have HTH := Lib.hid hth
  have HW := Lib.hid hW
  have HV := Lib.hid hV
  have HU := Lib.hid hU
  have HWL := Lib.hid hwl
  clear M0 hW hWs hbx hrs hbl hVn hkk hVk hU hth hV hwl
  simp only [Mg.cells, Vz] at HW ⊢
  go_enter Tryz.func35, Tryz.ntmps35
  go_upto_region 1 with fail
  rw [← HW.out]
  have eA : (#[.int .u8 m.k, .int .u8 m.f, .int .u8 m.t, .int .u8 m.e, .int .u32 m.vw, .int .u32 m.sq, .int .u8 m.rq.c, .int .u32 m.rq.t, .int .u8 m.rq.k, .int .u8 m.rq.y, .int .u16 m.rq.v, .int .u64 m.ro, .int .u8 m.ct, .int .u8 m.pg, .int .u32 m.rs, .int .u8 m.vt.f, .int .u8 m.vt.e, .int .u32 m.vt.vw, .int .u32 m.vt.lo, .slice m.vt.ms.a m.vt.ms.n m.vt.ms.c, .slice m.vt.p.a m.vt.p.n m.vt.p.c, .slice m.vt.q.a m.vt.q.n m.vt.q.c, .slice m.vs.a m.vs.n m.vs.c, .slice m.sm.a m.sm.n m.sm.c, .slice m.dt.a m.dt.n m.dt.c] : Array Value) = m.cells.toArray := rfl
  rw [eA]
  clear eA HW
  generalize m.cells.toArray = A
  refine wp_region_lit ?_
  refine wv (.pointer (some ⟨w.heap.size, 0, none⟩)) (W) (by go_simp) ?_
  refine wv (.int .u8 m.k) (W) (by go_simp) ?_
  refine wv (.pointer (some ⟨w.heap.size, 1, none⟩)) (W) (by go_simp) ?_
  refine wv (.int .u8 m.f) (W) (by go_simp) ?_
  refine wv (.pointer (some ⟨w.heap.size, 2, none⟩)) (W) (by go_simp) ?_
  refine wv (.int .u8 m.t) (W) (by go_simp) ?_
  refine wv (.pointer (some ⟨w.heap.size, 3, none⟩)) (W) (by go_simp) ?_
  refine wv (.int .u8 m.e) (W) (by go_simp) ?_
  refine wv (.agg m.head.cells.toArray) (W) (by simp only [Mg.head, Mg.cells, Rq.zero, Vt.zero]; go_simp) ?_
  refine wv (.pointer (some ⟨w.heap.size + 1 + 1, 0, none⟩)) (V) (by have e := HV.out; simp only [Vz] at e; rw [HWL.out, e]; go_simp) ?_
  refine wpList_store_mid rfl 37 (.tmp 3) (.tmp 12) rfl (w.heap.size + 1 + 1) 0 m.head.cells.toArray rfl rfl HTH.out size37 (all_oneCell_toArray m.head.one) ?_
  dsimp only
  rw [← HU.out]
  clear HTH HV HWL HU q0 q1 q2 q3
  have kk : U.cell? ⟨w.heap.size, 0, none⟩ = some (.int .u8 m.k) := HM0.out.cell 0
  rw [HKK.out] at kk ⊢
  obtain ⟨wr, hwr⟩ : ∃ wr, wr = (((U.drew.setCell ⟨w.heap.size + 1 + 1, 4, none⟩ (.int .u32 m.vw)).setCells (w.heap.size + 1 + 1) 6 [.int .u8 m.rq.c, .int .u32 m.rq.t, .int .u8 m.rq.k, .int .u8 m.rq.y, .int .u16 m.rq.v]).setCell ⟨w.heap.size + 1 + 1, 14, none⟩ (.int .u32 m.rs)) := ⟨_, rfl⟩
  have M1 : Mem w wr w.heap.size m (((((((m.head.cells.toArray.setIfInBounds 4 (.int .u32 m.vw)).setIfInBounds 6 (.int .u8 m.rq.c)).setIfInBounds 7 (.int .u32 m.rq.t)).setIfInBounds 8 (.int .u8 m.rq.k)).setIfInBounds 9 (.int .u8 m.rq.y)).setIfInBounds 10 (.int .u16 m.rq.v)).setIfInBounds 14 (.int .u32 m.rs)) := by rw [hwr]; exact (((HM0.out.drew.set 4 (.int .u32 m.vw)).setRq (.int .u8 m.rq.c) (.int .u32 m.rq.t) (.int .u8 m.rq.k) (.int .u8 m.rq.y) (.int .u16 m.rq.v)).set 14 (.int .u32 m.rs))
  have hX : (((((((m.head.cells.toArray.setIfInBounds 4 (.int .u32 m.vw)).setIfInBounds 6 (.int .u8 m.rq.c)).setIfInBounds 7 (.int .u32 m.rq.t)).setIfInBounds 8 (.int .u8 m.rq.k)).setIfInBounds 9 (.int .u8 m.rq.y)).setIfInBounds 10 (.int .u16 m.rq.v)).setIfInBounds 14 (.int .u32 m.rs)) = B.cells.toArray := by rw [HBB.out]; rfl
  rw [hX] at M1
  have HMm := Lib.hid M1
  have HWR := Lib.hid hwr
  clear M1 hX hwr HBB
  have HSZ : m.head.cells.toArray.size = 25 := rfl
  have HDR := HM0.out.drew
  generalize m.head.cells.toArray = A2 at *
  go_upto_region 27 with fail
  refine wp_region_held_drew (S := SM w m) (by kernel_rfl) (⟨_, HSZ, HDR⟩) (fun hS => ?_)
  refine tg 0 (.pointer (some ⟨w.heap.size, 4, none⟩)) rfl hS ?_
  refine tk 1 (.int .u32 m.vw) rfl (yi_load 22 (.tmp 97) (.pointer (some ⟨w.heap.size, 4, none⟩)) rfl rfl rfl (fun wq hw => by have q : wq.cell? ⟨w.heap.size, 4, none⟩ = some (.int .u32 m.vw) := SM.cell hw 4; go_simp)) hS ?_
  refine tg 2 (.pointer (some ⟨w.heap.size, 6, none⟩)) rfl hS ?_
  refine tk 3 (.agg #[.int .u8 m.rq.c, .int .u32 m.rq.t, .int .u8 m.rq.k, .int .u8 m.rq.y, .int .u16 m.rq.v]) rfl (yi_load 27 (.tmp 99) (.pointer (some ⟨w.heap.size, 6, none⟩)) rfl rfl rfl (fun wq hw => SM.rq hw)) hS ?_
  refine tg 4 (.pointer (some ⟨w.heap.size, 14, none⟩)) rfl hS ?_
  refine tk 5 (.int .u32 m.rs) rfl (yi_load 22 (.tmp 101) (.pointer (some ⟨w.heap.size, 14, none⟩)) rfl rfl rfl (fun wq hw => by have q : wq.cell? ⟨w.heap.size, 14, none⟩ = some (.int .u32 m.rs) := SM.cell hw 14; go_simp)) hS ?_
  refine tg 6 (.pointer (some ⟨w.heap.size + 1 + 1, 4, none⟩)) rfl hS ?_
  refine wpAnyH_ready (rs := [7]) (by kernel_rfl) (by simp) ?_
  refine AllReadyH.cons rfl (fun K hK => ?_) AllReadyH.nil
  rw [if_pos (by rfl)]
  refine hwp_st (ty := 22) (p := .pointer (some ⟨w.heap.size + 1 + 1, 4, none⟩)) (v := .int .u32 m.vw) (ox := .tmp 103) (oy := .tmp 98) (SM.run22 hS 4 (by omega) _) rfl rfl rfl rfl ?_
  refine hK.out _ _ (SM.set hS 4 _) (fun hS => ?_)
  clear hK K
  refine tg 8 (.pointer (some ⟨w.heap.size + 1 + 1, 6, none⟩)) rfl hS ?_
  refine wpAnyH_ready (rs := [9]) (by kernel_rfl) (by simp) ?_
  refine AllReadyH.cons rfl (fun K hK => ?_) AllReadyH.nil
  rw [if_pos (by rfl)]
  refine hwp_st (ty := 27) (p := .pointer (some ⟨w.heap.size + 1 + 1, 6, none⟩)) (v := .agg #[.int .u8 m.rq.c, .int .u32 m.rq.t, .int .u8 m.rq.k, .int .u8 m.rq.y, .int .u16 m.rq.v]) (ox := .tmp 104) (oy := .tmp 100) (SM.runRq hS _ _ _ _ _) rfl rfl rfl rfl ?_
  refine hK.out _ _ (SM.setRq hS _ _ _ _ _) (fun hS => ?_)
  clear hK K
  generalize hw5 : World.setCells _ _ _ _ = w5 at hS ⊢
  refine tg 10 (.pointer (some ⟨w.heap.size + 1 + 1, 14, none⟩)) rfl hS ?_
  refine wpAnyH_ready (rs := [11]) (by kernel_rfl) (by simp) ?_
  refine AllReadyH.cons rfl (fun K hK => ?_) AllReadyH.nil
  rw [if_pos (by rfl)]
  refine hwp_st (ty := 22) (p := .pointer (some ⟨w.heap.size + 1 + 1, 14, none⟩)) (v := .int .u32 m.rs) (ox := .tmp 105) (oy := .tmp 102) (SM.run22 hS 14 (by omega) _) rfl rfl rfl rfl ?_
  refine hK.out _ _ (SM.set hS 14 _) (fun hS => ?_)
  clear hK K
  refine wpAnyH_done (by kernel_rfl) ?_ _
  all_goals
    go_upto_region 28 with fail
    subst hw5
    rw [← HWR.out]
    clear HWR kk
    have hr := HMm.out.res
    have hth : wr.there (w.heap.size + 1) 0 25 := fun i hi => by
      refine ⟨?_, frozen_of_row _ _ _ _ _ hr⟩
      rw [cell_of_row _ _ _ _ _ _ hr]; simp [Vz]; omega
    have HT := Lib.hid hth
    have HMade := Lib.hid HMm.out.made
    obtain ⟨w2, hw2⟩ : ∃ w2, w2 = wr.setCells (w.heap.size + 1) 0 B.cells := ⟨_, rfl⟩
    have hk := fun k (h : k ≠ w.heap.size + 1) => setCells_kept (w.heap.size + 1) B.cells 0 wr k h
    have hbel : Below w.heap.size w w2 := HMm.out.bel.trans (by rw [hw2]; exact ⟨(hk w.heap.size (by omega)).2.2.1, (hk w.heap.size (by omega)).2.2.2.1, (hk w.heap.size (by omega)).2.2.2.2, by rw [(hk w.heap.size (by omega)).2.1]; exact Nat.le_refl _, fun k h => (hk k (by omega)).1⟩)
    have hblk : w2.heap[w.heap.size + 1]? = some (.cells B.cells.toArray 37 (0, 0)) := by rw [hw2, setCells_block _ 37 _ _ _ _ hr, over_zero]
    have HBEL := Lib.hid hbel
    have HBLK := Lib.hid hblk
    have HW2 := Lib.hid hw2
    clear hth hr hbel hblk hw2 hk
    refine wp_region_lit ?_
    refine wpList_load_row rfl 37 (.tmp 3) rfl (w.heap.size + 1 + 1) rfl 37 _ (0, 0) _ HMade.out Tryz.underlying37 rfl size37 ?_
    refine wpList_store_mid rfl 37 (.tmp 2) (.tmp 106) rfl (w.heap.size + 1) 0 B.cells.toArray rfl rfl HT.out size37 (all_oneCell_toArray B.one) ?_
    dsimp only
    rw [← HW2.out]
    go_wp2_with fail
    (try simp only [Exit.inBlock, Exit.then])
    refine bodyPost_ret (results_cell_row (P := Tryz.prog) rfl _ _ (w.heap.size + 1) 37 _ (0, 0) _ rfl HBLK.out Tryz.underlying37 rfl size37) rfl ?_
    exact ⟨rfl, HBEL.out⟩
end Go.Proofs.YtbpfkeeikhhlnaaGreatDoor
namespace Go.Proofs.YtbpfkeeikhhlnaaGreatDoor
open Go.RowKit
set_option maxRecDepth 100000

theorem refBare_any (w : World) (m : Mg) :
    Calls Tryz.prog 35 #[.agg m.cells.toArray] w fun e w' => e = .returned (.agg (m.bare (partsOf m.k)).cells.toArray) ∧ Below w.heap.size w w' := by
  by_cases h1 : m.k = 1
  · have := refBare_k1 w m h1
    rwa [show partsOf m.k = [2] by rw [h1]; rfl]
  by_cases h2 : m.k = 2
  · have := refBare_k2 w m h2
    rwa [show partsOf m.k = [0, 1, 2] by rw [h2]; rfl]
  by_cases h3 : m.k = 3
  · have := refBare_k3 w m h3
    rwa [show partsOf m.k = [0, 1, 2] by rw [h3]; rfl]
  by_cases h4 : m.k = 4
  · have := refBare_k4 w m h4
    rwa [show partsOf m.k = [0, 1, 2] by rw [h4]; rfl]
  by_cases h5 : m.k = 5
  · have := refBare_k5 w m h5
    rwa [show partsOf m.k = [1, 3] by rw [h5]; rfl]
  by_cases h6 : m.k = 6
  · have := refBare_k6 w m h6
    rwa [show partsOf m.k = [7] by rw [h6]; rfl]
  by_cases h7 : m.k = 7
  · have := refBare_k7 w m h7
    rwa [show partsOf m.k = [0, 8] by rw [h7]; rfl]
  by_cases h8 : m.k = 8
  · have := refBare_k8 w m h8
    rwa [show partsOf m.k = [4] by rw [h8]; rfl]
  by_cases h9 : m.k = 9
  · have := refBare_k9 w m h9
    rwa [show partsOf m.k = [4] by rw [h9]; rfl]
  by_cases h10 : m.k = 10
  · have := refBare_k10 w m h10
    rwa [show partsOf m.k = [4, 1] by rw [h10]; rfl]
  by_cases h11 : m.k = 11
  · have := refBare_k11 w m h11
    rwa [show partsOf m.k = [1, 5] by rw [h11]; rfl]
  by_cases h12 : m.k = 12
  · have := refBare_k12 w m h12
    rwa [show partsOf m.k = [1, 9] by rw [h12]; rfl]
  by_cases h13 : m.k = 13
  · have := refBare_k13 w m h13
    rwa [show partsOf m.k = [1, 5, 10] by rw [h13]; rfl]
  by_cases h14 : m.k = 14
  · have := refBare_k14 w m h14
    rwa [show partsOf m.k = [0, 2, 6] by rw [h14]; rfl]
  have := refBare_k0 w m (by omega)
  rwa [show partsOf m.k = [] by unfold partsOf; simp only [h1, h2, h3, h4, h5, h6, h7, h8, h9, h10, h11, h12, h13, h14, if_false]]
end Go.Proofs.YtbpfkeeikhhlnaaGreatDoor
