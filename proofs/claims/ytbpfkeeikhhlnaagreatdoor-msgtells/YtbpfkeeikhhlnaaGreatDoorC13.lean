/- The document's bare: a message with just what its kind has. The document's bare of every message. -/
import Derived.Test.YtbpfkeeikhhlnaaGreatDoorC04
import Derived.Test.YtbpfkeeikhhlnaaGreatDoorC08
import Derived.Test.YtbpfkeeikhhlnaaGreatDoorC03
import Derived.Deep.CutRange
import Derived.Test.YtbpfkeeikhhlnaaGreatDoorC12
namespace Go.Proofs.YtbpfkeeikhhlnaaGreatDoor
open Go.RowKit
set_option maxRecDepth 100000

set_option maxHeartbeats 8000000 in
theorem refBare_k2 (w : World) (m : Mg) (hk : m.k = 2) :
    Calls Tryz.prog 35 #[.agg m.cells.toArray] w fun e w' => e = .returned (.agg (m.bare [0, 1, 2]).cells.toArray) ∧ Below w.heap.size w w' := by
  obtain ⟨B, hB⟩ : ∃ B, B = m.bare [0, 1, 2] := ⟨_, rfl⟩
  rw [← hB]
  have HBB := Lib.hid hB
  have HKK := Lib.hid hk
  clear hB hk
  obtain ⟨W, V, U, hW, hV, hU, q0, q1, q2, q3, M0, hth, hwl⟩ := bare_pre w m
  have HM0 := Lib.hid M0
  have HTH := Lib.hid hth
  have HW := Lib.hid hW
  have HV := Lib.hid hV
  have HU := Lib.hid hU
  have HWL := Lib.hid hwl
  clear M0 hW hU hth hV hwl
  simp only [Mg.cells, Vz] at HW ⊢
  go_enter Tryz.func35, Tryz.ntmps35
  go_upto_region 1 with fail
  rw [← HW.out]
  have eA := mgA m
  rw [eA]
  clear eA HW
  generalize m.cells.toArray = A
  refine wp_region_lit ?_
  refine wv (.pointer (some ⟨w.heap.size, 0, none⟩)) (W) (by go_simp) ?_
  refine wv (.int .u8 m.k) (W) (by go_simp) ?_
  refine wv (.pointer (some ⟨w.heap.size, 1, none⟩)) (W) (by go_simp) ?_
  refine wv (.int .u8 m.f) (W) (by go_simp) ?_
  refine wv (.pointer (some ⟨w.heap.size, 2, none⟩)) (W) (by go_simp) ?_
  refine wv (.int .u8 m.t) (W) (by go_simp) ?_
  refine wv (.pointer (some ⟨w.heap.size, 3, none⟩)) (W) (by go_simp) ?_
  refine wv (.int .u8 m.e) (W) (by go_simp) ?_
  refine wv (.agg m.head.cells.toArray) (W) (by simp only [Mg.head, Mg.cells, Rq.zero, Vt.zero]; go_simp) ?_
  refine wv (.pointer (some ⟨w.heap.size + 1 + 1, 0, none⟩)) (V) (by have e := HV.out; simp only [Vz] at e; rw [HWL.out, e]; go_simp) ?_
  refine wpList_store_mid rfl 37 (.tmp 3) (.tmp 12) rfl (w.heap.size + 1 + 1) 0 m.head.cells.toArray rfl rfl HTH.out size37 (all_oneCell_toArray m.head.one) ?_
  dsimp only
  rw [← HU.out]
  clear HTH HV HWL HU q0 q1 q2 q3
  have kk : U.cell? ⟨w.heap.size, 0, none⟩ = some (.int .u8 m.k) := HM0.out.cell 0
  rw [HKK.out] at kk ⊢
  obtain ⟨wr, hwr⟩ : ∃ wr, wr = (((U.drew.setCell ⟨w.heap.size + 1 + 1, 4, none⟩ (.int .u32 m.vw)).setCell ⟨w.heap.size + 1 + 1, 5, none⟩ (.int .u32 m.sq)).setCells (w.heap.size + 1 + 1) 6 [.int .u8 m.rq.c, .int .u32 m.rq.t, .int .u8 m.rq.k, .int .u8 m.rq.y, .int .u16 m.rq.v]) := ⟨_, rfl⟩
  have M1 : Mem w wr w.heap.size m (((((((m.head.cells.toArray.setIfInBounds 4 (.int .u32 m.vw)).setIfInBounds 5 (.int .u32 m.sq)).setIfInBounds 6 (.int .u8 m.rq.c)).setIfInBounds 7 (.int .u32 m.rq.t)).setIfInBounds 8 (.int .u8 m.rq.k)).setIfInBounds 9 (.int .u8 m.rq.y)).setIfInBounds 10 (.int .u16 m.rq.v)) := by rw [hwr]; exact (((HM0.out.drew.set 4 (.int .u32 m.vw)).set 5 (.int .u32 m.sq)).setRq (.int .u8 m.rq.c) (.int .u32 m.rq.t) (.int .u8 m.rq.k) (.int .u8 m.rq.y) (.int .u16 m.rq.v))
  have hX : (((((((m.head.cells.toArray.setIfInBounds 4 (.int .u32 m.vw)).setIfInBounds 5 (.int .u32 m.sq)).setIfInBounds 6 (.int .u8 m.rq.c)).setIfInBounds 7 (.int .u32 m.rq.t)).setIfInBounds 8 (.int .u8 m.rq.k)).setIfInBounds 9 (.int .u8 m.rq.y)).setIfInBounds 10 (.int .u16 m.rq.v)) = B.cells.toArray := by rw [HBB.out]; rfl
  rw [hX] at M1
  have HMm := Lib.hid M1
  have HWR := Lib.hid hwr
  clear M1 hX hwr HBB
  have HSZ : m.head.cells.toArray.size = 25 := rfl
  have HDR := HM0.out.drew
  generalize m.head.cells.toArray = A2 at *
  go_upto_region 8 with fail
  refine wp_region_held_drew (S := SM w m) (by kernel_rfl) (⟨_, HSZ, HDR⟩) (fun hS => ?_)
  refine tg 0 (.pointer (some ⟨w.heap.size, 4, none⟩)) rfl hS ?_
  refine tk 1 (.int .u32 m.vw) rfl (yi_load 22 (.tmp 24) (.pointer (some ⟨w.heap.size, 4, none⟩)) rfl rfl rfl (fun wq hw => by have q : wq.cell? ⟨w.heap.size, 4, none⟩ = some (.int .u32 m.vw) := SM.cell hw 4; go_simp)) hS ?_
  refine tg 2 (.pointer (some ⟨w.heap.size, 5, none⟩)) rfl hS ?_
  refine tk 3 (.int .u32 m.sq) rfl (yi_load 22 (.tmp 26) (.pointer (some ⟨w.heap.size, 5, none⟩)) rfl rfl rfl (fun wq hw => by have q : wq.cell? ⟨w.heap.size, 5, none⟩ = some (.int .u32 m.sq) := SM.cell hw 5; go_simp)) hS ?_
  refine tg 4 (.pointer (some ⟨w.heap.size, 6, none⟩)) rfl hS ?_
  refine tk 5 (.agg #[.int .u8 m.rq.c, .int .u32 m.rq.t, .int .u8 m.rq.k, .int .u8 m.rq.y, .int .u16 m.rq.v]) rfl (yi_load 27 (.tmp 28) (.pointer (some ⟨w.heap.size, 6, none⟩)) rfl rfl rfl (fun wq hw => SM.rq hw)) hS ?_
  refine tg 6 (.pointer (some ⟨w.heap.size + 1 + 1, 4, none⟩)) rfl hS ?_
  refine rdy1 7 rfl (fun K hK => ?_)
  rw [if_pos (by rfl)]
  refine hwp_st (ty := 22) (p := .pointer (some ⟨w.heap.size + 1 + 1, 4, none⟩)) (v := .int .u32 m.vw) (ox := .tmp 30) (oy := .tmp 25) (SM.run22 hS 4 (by omega) _) rfl rfl rfl rfl ?_
  refine hK.out _ _ (SM.set hS 4 _) (fun hS => ?_)
  clear hK K
  refine tg 8 (.pointer (some ⟨w.heap.size + 1 + 1, 5, none⟩)) rfl hS ?_
  refine rdy1 9 rfl (fun K hK => ?_)
  rw [if_pos (by rfl)]
  refine hwp_st (ty := 22) (p := .pointer (some ⟨w.heap.size + 1 + 1, 5, none⟩)) (v := .int .u32 m.sq) (ox := .tmp 31) (oy := .tmp 27) (SM.run22 hS 5 (by omega) _) rfl rfl rfl rfl ?_
  refine hK.out _ _ (SM.set hS 5 _) (fun hS => ?_)
  clear hK K
  refine tg 10 (.pointer (some ⟨w.heap.size + 1 + 1, 6, none⟩)) rfl hS ?_
  refine rdy1 11 rfl (fun K hK => ?_)
  rw [if_pos (by rfl)]
  refine hwp_st (ty := 27) (p := .pointer (some ⟨w.heap.size + 1 + 1, 6, none⟩)) (v := .agg #[.int .u8 m.rq.c, .int .u32 m.rq.t, .int .u8 m.rq.k, .int .u8 m.rq.y, .int .u16 m.rq.v]) (ox := .tmp 32) (oy := .tmp 29) (SM.runRq hS _ _ _ _ _) rfl rfl rfl rfl ?_
  refine hK.out _ _ (SM.setRq hS _ _ _ _ _) (fun hS => ?_)
  clear hK K
  refine wpAnyH_done (by kernel_rfl) ?_ _
  all_goals
    go_upto_region 28 with fail
    skip
    rw [← HWR.out]
    clear HWR kk
    obtain ⟨w2, hw2, hth, hbel, hblk⟩ := bare_post B HMm.out
    have HT := Lib.hid hth
    have HMade := Lib.hid HMm.out.made
    have HBEL := Lib.hid hbel
    have HBLK := Lib.hid hblk
    have HW2 := Lib.hid hw2
    clear hth hbel hblk hw2
    refine wp_region_lit ?_
    refine wpList_load_row rfl 37 (.tmp 3) rfl (w.heap.size + 1 + 1) rfl 37 _ (0, 0) _ HMade.out Tryz.underlying37 rfl size37 ?_
    refine wpList_store_mid rfl 37 (.tmp 2) (.tmp 106) rfl (w.heap.size + 1) 0 B.cells.toArray rfl rfl HT.out size37 (all_oneCell_toArray B.one) ?_
    dsimp only
    rw [← HW2.out]
    go_wp2_with fail
    (try simp only [Exit.inBlock, Exit.then])
    refine bodyPost_ret (results_cell_row (P := Tryz.prog) rfl _ _ (w.heap.size + 1) 37 _ (0, 0) _ rfl HBLK.out Tryz.underlying37 rfl size37) rfl ?_
    exact ⟨rfl, HBEL.out⟩

set_option maxHeartbeats 8000000 in
theorem refBare_k3 (w : World) (m : Mg) (hk : m.k = 3) :
    Calls Tryz.prog 35 #[.agg m.cells.toArray] w fun e w' => e = .returned (.agg (m.bare [0, 1, 2]).cells.toArray) ∧ Below w.heap.size w w' := by
  obtain ⟨B, hB⟩ : ∃ B, B = m.bare [0, 1, 2] := ⟨_, rfl⟩
  rw [← hB]
  have HBB := Lib.hid hB
  have HKK := Lib.hid hk
  clear hB hk
  obtain ⟨W, V, U, hW, hV, hU, q0, q1, q2, q3, M0, hth, hwl⟩ := bare_pre w m
  have HM0 := Lib.hid M0
  have HTH := Lib.hid hth
  have HW := Lib.hid hW
  have HV := Lib.hid hV
  have HU := Lib.hid hU
  have HWL := Lib.hid hwl
  clear M0 hW hU hth hV hwl
  simp only [Mg.cells, Vz] at HW ⊢
  go_enter Tryz.func35, Tryz.ntmps35
  go_upto_region 1 with fail
  rw [← HW.out]
  have eA := mgA m
  rw [eA]
  clear eA HW
  generalize m.cells.toArray = A
  refine wp_region_lit ?_
  refine wv (.pointer (some ⟨w.heap.size, 0, none⟩)) (W) (by go_simp) ?_
  refine wv (.int .u8 m.k) (W) (by go_simp) ?_
  refine wv (.pointer (some ⟨w.heap.size, 1, none⟩)) (W) (by go_simp) ?_
  refine wv (.int .u8 m.f) (W) (by go_simp) ?_
  refine wv (.pointer (some ⟨w.heap.size, 2, none⟩)) (W) (by go_simp) ?_
  refine wv (.int .u8 m.t) (W) (by go_simp) ?_
  refine wv (.pointer (some ⟨w.heap.size, 3, none⟩)) (W) (by go_simp) ?_
  refine wv (.int .u8 m.e) (W) (by go_simp) ?_
  refine wv (.agg m.head.cells.toArray) (W) (by simp only [Mg.head, Mg.cells, Rq.zero, Vt.zero]; go_simp) ?_
  refine wv (.pointer (some ⟨w.heap.size + 1 + 1, 0, none⟩)) (V) (by have e := HV.out; simp only [Vz] at e; rw [HWL.out, e]; go_simp) ?_
  refine wpList_store_mid rfl 37 (.tmp 3) (.tmp 12) rfl (w.heap.size + 1 + 1) 0 m.head.cells.toArray rfl rfl HTH.out size37 (all_oneCell_toArray m.head.one) ?_
  dsimp only
  rw [← HU.out]
  clear HTH HV HWL HU q0 q1 q2 q3
  have kk : U.cell? ⟨w.heap.size, 0, none⟩ = some (.int .u8 m.k) := HM0.out.cell 0
  rw [HKK.out] at kk ⊢
  obtain ⟨wr, hwr⟩ : ∃ wr, wr = (((U.drew.setCell ⟨w.heap.size + 1 + 1, 4, none⟩ (.int .u32 m.vw)).setCell ⟨w.heap.size + 1 + 1, 5, none⟩ (.int .u32 m.sq)).setCells (w.heap.size + 1 + 1) 6 [.int .u8 m.rq.c, .int .u32 m.rq.t, .int .u8 m.rq.k, .int .u8 m.rq.y, .int .u16 m.rq.v]) := ⟨_, rfl⟩
  have M1 : Mem w wr w.heap.size m (((((((m.head.cells.toArray.setIfInBounds 4 (.int .u32 m.vw)).setIfInBounds 5 (.int .u32 m.sq)).setIfInBounds 6 (.int .u8 m.rq.c)).setIfInBounds 7 (.int .u32 m.rq.t)).setIfInBounds 8 (.int .u8 m.rq.k)).setIfInBounds 9 (.int .u8 m.rq.y)).setIfInBounds 10 (.int .u16 m.rq.v)) := by rw [hwr]; exact (((HM0.out.drew.set 4 (.int .u32 m.vw)).set 5 (.int .u32 m.sq)).setRq (.int .u8 m.rq.c) (.int .u32 m.rq.t) (.int .u8 m.rq.k) (.int .u8 m.rq.y) (.int .u16 m.rq.v))
  have hX : (((((((m.head.cells.toArray.setIfInBounds 4 (.int .u32 m.vw)).setIfInBounds 5 (.int .u32 m.sq)).setIfInBounds 6 (.int .u8 m.rq.c)).setIfInBounds 7 (.int .u32 m.rq.t)).setIfInBounds 8 (.int .u8 m.rq.k)).setIfInBounds 9 (.int .u8 m.rq.y)).setIfInBounds 10 (.int .u16 m.rq.v)) = B.cells.toArray := by rw [HBB.out]; rfl
  rw [hX] at M1
  have HMm := Lib.hid M1
  have HWR := Lib.hid hwr
  clear M1 hX hwr HBB
  have HSZ : m.head.cells.toArray.size = 25 := rfl
  have HDR := HM0.out.drew
  generalize m.head.cells.toArray = A2 at *
  go_upto_region 8 with fail
  refine wp_region_held_drew (S := SM w m) (by kernel_rfl) (⟨_, HSZ, HDR⟩) (fun hS => ?_)
  refine tg 0 (.pointer (some ⟨w.heap.size, 4, none⟩)) rfl hS ?_
  refine tk 1 (.int .u32 m.vw) rfl (yi_load 22 (.tmp 24) (.pointer (some ⟨w.heap.size, 4, none⟩)) rfl rfl rfl (fun wq hw => by have q : wq.cell? ⟨w.heap.size, 4, none⟩ = some (.int .u32 m.vw) := SM.cell hw 4; go_simp)) hS ?_
  refine tg 2 (.pointer (some ⟨w.heap.size, 5, none⟩)) rfl hS ?_
  refine tk 3 (.int .u32 m.sq) rfl (yi_load 22 (.tmp 26) (.pointer (some ⟨w.heap.size, 5, none⟩)) rfl rfl rfl (fun wq hw => by have q : wq.cell? ⟨w.heap.size, 5, none⟩ = some (.int .u32 m.sq) := SM.cell hw 5; go_simp)) hS ?_
  refine tg 4 (.pointer (some ⟨w.heap.size, 6, none⟩)) rfl hS ?_
  refine tk 5 (.agg #[.int .u8 m.rq.c, .int .u32 m.rq.t, .int .u8 m.rq.k, .int .u8 m.rq.y, .int .u16 m.rq.v]) rfl (yi_load 27 (.tmp 28) (.pointer (some ⟨w.heap.size, 6, none⟩)) rfl rfl rfl (fun wq hw => SM.rq hw)) hS ?_
  refine tg 6 (.pointer (some ⟨w.heap.size + 1 + 1, 4, none⟩)) rfl hS ?_
  refine rdy1 7 rfl (fun K hK => ?_)
  rw [if_pos (by rfl)]
  refine hwp_st (ty := 22) (p := .pointer (some ⟨w.heap.size + 1 + 1, 4, none⟩)) (v := .int .u32 m.vw) (ox := .tmp 30) (oy := .tmp 25) (SM.run22 hS 4 (by omega) _) rfl rfl rfl rfl ?_
  refine hK.out _ _ (SM.set hS 4 _) (fun hS => ?_)
  clear hK K
  refine tg 8 (.pointer (some ⟨w.heap.size + 1 + 1, 5, none⟩)) rfl hS ?_
  refine rdy1 9 rfl (fun K hK => ?_)
  rw [if_pos (by rfl)]
  refine hwp_st (ty := 22) (p := .pointer (some ⟨w.heap.size + 1 + 1, 5, none⟩)) (v := .int .u32 m.sq) (ox := .tmp 31) (oy := .tmp 27) (SM.run22 hS 5 (by omega) _) rfl rfl rfl rfl ?_
  refine hK.out _ _ (SM.set hS 5 _) (fun hS => ?_)
  clear hK K
  refine tg 10 (.pointer (some ⟨w.heap.size + 1 + 1, 6, none⟩)) rfl hS ?_
  refine rdy1 11 rfl (fun K hK => ?_)
  rw [if_pos (by rfl)]
  refine hwp_st (ty := 27) (p := .pointer (some ⟨w.heap.size + 1 + 1, 6, none⟩)) (v := .agg #[.int .u8 m.rq.c, .int .u32 m.rq.t, .int .u8 m.rq.k, .int .u8 m.rq.y, .int .u16 m.rq.v]) (ox := .tmp 32) (oy := .tmp 29) (SM.runRq hS _ _ _ _ _) rfl rfl rfl rfl ?_
  refine hK.out _ _ (SM.setRq hS _ _ _ _ _) (fun hS => ?_)
  clear hK K
  refine wpAnyH_done (by kernel_rfl) ?_ _
  all_goals
    go_upto_region 28 with fail
    skip
    rw [← HWR.out]
    clear HWR kk
    obtain ⟨w2, hw2, hth, hbel, hblk⟩ := bare_post B HMm.out
    have HT := Lib.hid hth
    have HMade := Lib.hid HMm.out.made
    have HBEL := Lib.hid hbel
    have HBLK := Lib.hid hblk
    have HW2 := Lib.hid hw2
    clear hth hbel hblk hw2
    refine wp_region_lit ?_
    refine wpList_load_row rfl 37 (.tmp 3) rfl (w.heap.size + 1 + 1) rfl 37 _ (0, 0) _ HMade.out Tryz.underlying37 rfl size37 ?_
    refine wpList_store_mid rfl 37 (.tmp 2) (.tmp 106) rfl (w.heap.size + 1) 0 B.cells.toArray rfl rfl HT.out size37 (all_oneCell_toArray B.one) ?_
    dsimp only
    rw [← HW2.out]
    go_wp2_with fail
    (try simp only [Exit.inBlock, Exit.then])
    refine bodyPost_ret (results_cell_row (P := Tryz.prog) rfl _ _ (w.heap.size + 1) 37 _ (0, 0) _ rfl HBLK.out Tryz.underlying37 rfl size37) rfl ?_
    exact ⟨rfl, HBEL.out⟩

set_option maxHeartbeats 8000000 in
theorem refBare_k4 (w : World) (m : Mg) (hk : m.k = 4) :
    Calls Tryz.prog 35 #[.agg m.cells.toArray] w fun e w' => e = .returned (.agg (m.bare [0, 1, 2]).cells.toArray) ∧ Below w.heap.size w w' := by
  obtain ⟨B, hB⟩ : ∃ B, B = m.bare [0, 1, 2] := ⟨_, rfl⟩
  rw [← hB]
  have HBB := Lib.hid hB
  have HKK := Lib.hid hk
  clear hB hk
  obtain ⟨W, V, U, hW, hV, hU, q0, q1, q2, q3, M0, hth, hwl⟩ := bare_pre w m
  have HM0 := Lib.hid M0
  have HTH := Lib.hid hth
  have HW := Lib.hid hW
  have HV := Lib.hid hV
  have HU := Lib.hid hU
  have HWL := Lib.hid hwl
  clear M0 hW hU hth hV hwl
  simp only [Mg.cells, Vz] at HW ⊢
  go_enter Tryz.func35, Tryz.ntmps35
  go_upto_region 1 with fail
  rw [← HW.out]
  have eA := mgA m
  rw [eA]
  clear eA HW
  generalize m.cells.toArray = A
  refine wp_region_lit ?_
  refine wv (.pointer (some ⟨w.heap.size, 0, none⟩)) (W) (by go_simp) ?_
  refine wv (.int .u8 m.k) (W) (by go_simp) ?_
  refine wv (.pointer (some ⟨w.heap.size, 1, none⟩)) (W) (by go_simp) ?_
  refine wv (.int .u8 m.f) (W) (by go_simp) ?_
  refine wv (.pointer (some ⟨w.heap.size, 2, none⟩)) (W) (by go_simp) ?_
  refine wv (.int .u8 m.t) (W) (by go_simp) ?_
  refine wv (.pointer (some ⟨w.heap.size, 3, none⟩)) (W) (by go_simp) ?_
  refine wv (.int .u8 m.e) (W) (by go_simp) ?_
  refine wv (.agg m.head.cells.toArray) (W) (by simp only [Mg.head, Mg.cells, Rq.zero, Vt.zero]; go_simp) ?_
  refine wv (.pointer (some ⟨w.heap.size + 1 + 1, 0, none⟩)) (V) (by have e := HV.out; simp only [Vz] at e; rw [HWL.out, e]; go_simp) ?_
  refine wpList_store_mid rfl 37 (.tmp 3) (.tmp 12) rfl (w.heap.size + 1 + 1) 0 m.head.cells.toArray rfl rfl HTH.out size37 (all_oneCell_toArray m.head.one) ?_
  dsimp only
  rw [← HU.out]
  clear HTH HV HWL HU q0 q1 q2 q3
  have kk : U.cell? ⟨w.heap.size, 0, none⟩ = some (.int .u8 m.k) := HM0.out.cell 0
  rw [HKK.out] at kk ⊢
  obtain ⟨wr, hwr⟩ : ∃ wr, wr = (((U.drew.setCell ⟨w.heap.size + 1 + 1, 4, none⟩ (.int .u32 m.vw)).setCell ⟨w.heap.size + 1 + 1, 5, none⟩ (.int .u32 m.sq)).setCells (w.heap.size + 1 + 1) 6 [.int .u8 m.rq.c, .int .u32 m.rq.t, .int .u8 m.rq.k, .int .u8 m.rq.y, .int .u16 m.rq.v]) := ⟨_, rfl⟩
  have M1 : Mem w wr w.heap.size m (((((((m.head.cells.toArray.setIfInBounds 4 (.int .u32 m.vw)).setIfInBounds 5 (.int .u32 m.sq)).setIfInBounds 6 (.int .u8 m.rq.c)).setIfInBounds 7 (.int .u32 m.rq.t)).setIfInBounds 8 (.int .u8 m.rq.k)).setIfInBounds 9 (.int .u8 m.rq.y)).setIfInBounds 10 (.int .u16 m.rq.v)) := by rw [hwr]; exact (((HM0.out.drew.set 4 (.int .u32 m.vw)).set 5 (.int .u32 m.sq)).setRq (.int .u8 m.rq.c) (.int .u32 m.rq.t) (.int .u8 m.rq.k) (.int .u8 m.rq.y) (.int .u16 m.rq.v))
  have hX : (((((((m.head.cells.toArray.setIfInBounds 4 (.int .u32 m.vw)).setIfInBounds 5 (.int .u32 m.sq)).setIfInBounds 6 (.int .u8 m.rq.c)).setIfInBounds 7 (.int .u32 m.rq.t)).setIfInBounds 8 (.int .u8 m.rq.k)).setIfInBounds 9 (.int .u8 m.rq.y)).setIfInBounds 10 (.int .u16 m.rq.v)) = B.cells.toArray := by rw [HBB.out]; rfl
  rw [hX] at M1
  have HMm := Lib.hid M1
  have HWR := Lib.hid hwr
  clear M1 hX hwr HBB
  have HSZ : m.head.cells.toArray.size = 25 := rfl
  have HDR := HM0.out.drew
  generalize m.head.cells.toArray = A2 at *
  go_upto_region 8 with fail
  refine wp_region_held_drew (S := SM w m) (by kernel_rfl) (⟨_, HSZ, HDR⟩) (fun hS => ?_)
  refine tg 0 (.pointer (some ⟨w.heap.size, 4, none⟩)) rfl hS ?_
  refine tk 1 (.int .u32 m.vw) rfl (yi_load 22 (.tmp 24) (.pointer (some ⟨w.heap.size, 4, none⟩)) rfl rfl rfl (fun wq hw => by have q : wq.cell? ⟨w.heap.size, 4, none⟩ = some (.int .u32 m.vw) := SM.cell hw 4; go_simp)) hS ?_
  refine tg 2 (.pointer (some ⟨w.heap.size, 5, none⟩)) rfl hS ?_
  refine tk 3 (.int .u32 m.sq) rfl (yi_load 22 (.tmp 26) (.pointer (some ⟨w.heap.size, 5, none⟩)) rfl rfl rfl (fun wq hw => by have q : wq.cell? ⟨w.heap.size, 5, none⟩ = some (.int .u32 m.sq) := SM.cell hw 5; go_simp)) hS ?_
  refine tg 4 (.pointer (some ⟨w.heap.size, 6, none⟩)) rfl hS ?_
  refine tk 5 (.agg #[.int .u8 m.rq.c, .int .u32 m.rq.t, .int .u8 m.rq.k, .int .u8 m.rq.y, .int .u16 m.rq.v]) rfl (yi_load 27 (.tmp 28) (.pointer (some ⟨w.heap.size, 6, none⟩)) rfl rfl rfl (fun wq hw => SM.rq hw)) hS ?_
  refine tg 6 (.pointer (some ⟨w.heap.size + 1 + 1, 4, none⟩)) rfl hS ?_
  refine rdy1 7 rfl (fun K hK => ?_)
  rw [if_pos (by rfl)]
  refine hwp_st (ty := 22) (p := .pointer (some ⟨w.heap.size + 1 + 1, 4, none⟩)) (v := .int .u32 m.vw) (ox := .tmp 30) (oy := .tmp 25) (SM.run22 hS 4 (by omega) _) rfl rfl rfl rfl ?_
  refine hK.out _ _ (SM.set hS 4 _) (fun hS => ?_)
  clear hK K
  refine tg 8 (.pointer (some ⟨w.heap.size + 1 + 1, 5, none⟩)) rfl hS ?_
  refine rdy1 9 rfl (fun K hK => ?_)
  rw [if_pos (by rfl)]
  refine hwp_st (ty := 22) (p := .pointer (some ⟨w.heap.size + 1 + 1, 5, none⟩)) (v := .int .u32 m.sq) (ox := .tmp 31) (oy := .tmp 27) (SM.run22 hS 5 (by omega) _) rfl rfl rfl rfl ?_
  refine hK.out _ _ (SM.set hS 5 _) (fun hS => ?_)
  clear hK K
  refine tg 10 (.pointer (some ⟨w.heap.size + 1 + 1, 6, none⟩)) rfl hS ?_
  refine rdy1 11 rfl (fun K hK => ?_)
  rw [if_pos (by rfl)]
  refine hwp_st (ty := 27) (p := .pointer (some ⟨w.heap.size + 1 + 1, 6, none⟩)) (v := .agg #[.int .u8 m.rq.c, .int .u32 m.rq.t, .int .u8 m.rq.k, .int .u8 m.rq.y, .int .u16 m.rq.v]) (ox := .tmp 32) (oy := .tmp 29) (SM.runRq hS _ _ _ _ _) rfl rfl rfl rfl ?_
  refine hK.out _ _ (SM.setRq hS _ _ _ _ _) (fun hS => ?_)
  clear hK K
  refine wpAnyH_done (by kernel_rfl) ?_ _
  all_goals
    go_upto_region 28 with fail
    skip
    rw [← HWR.out]
    clear HWR kk
    obtain ⟨w2, hw2, hth, hbel, hblk⟩ := bare_post B HMm.out
    have HT := Lib.hid hth
    have HMade := Lib.hid HMm.out.made
    have HBEL := Lib.hid hbel
    have HBLK := Lib.hid hblk
    have HW2 := Lib.hid hw2
    clear hth hbel hblk hw2
    refine wp_region_lit ?_
    refine wpList_load_row rfl 37 (.tmp 3) rfl (w.heap.size + 1 + 1) rfl 37 _ (0, 0) _ HMade.out Tryz.underlying37 rfl size37 ?_
    refine wpList_store_mid rfl 37 (.tmp 2) (.tmp 106) rfl (w.heap.size + 1) 0 B.cells.toArray rfl rfl HT.out size37 (all_oneCell_toArray B.one) ?_
    dsimp only
    rw [← HW2.out]
    go_wp2_with fail
    (try simp only [Exit.inBlock, Exit.then])
    refine bodyPost_ret (results_cell_row (P := Tryz.prog) rfl _ _ (w.heap.size + 1) 37 _ (0, 0) _ rfl HBLK.out Tryz.underlying37 rfl size37) rfl ?_
    exact ⟨rfl, HBEL.out⟩

set_option maxHeartbeats 8000000 in
theorem refBare_k14 (w : World) (m : Mg) (hk : m.k = 14) :
    Calls Tryz.prog 35 #[.agg m.cells.toArray] w fun e w' => e = .returned (.agg (m.bare [0, 2, 6]).cells.toArray) ∧ Below w.heap.size w w' := by
  obtain ⟨B, hB⟩ : ∃ B, B = m.bare [0, 2, 6] := ⟨_, rfl⟩
  rw [← hB]
  have HBB := Lib.hid hB
  have HKK := Lib.hid hk
  clear hB hk
  obtain ⟨W, V, U, hW, hV, hU, q0, q1, q2, q3, M0, hth, hwl⟩ := bare_pre w m
  have HM0 := Lib.hid M0
  have HTH := Lib.hid hth
  have HW := Lib.hid hW
  have HV := Lib.hid hV
  have HU := Lib.hid hU
  have HWL := Lib.hid hwl
  clear M0 hW hU hth hV hwl
  simp only [Mg.cells, Vz] at HW ⊢
  go_enter Tryz.func35, Tryz.ntmps35
  go_upto_region 1 with fail
  rw [← HW.out]
  have eA := mgA m
  rw [eA]
  clear eA HW
  generalize m.cells.toArray = A
  refine wp_region_lit ?_
  refine wv (.pointer (some ⟨w.heap.size, 0, none⟩)) (W) (by go_simp) ?_
  refine wv (.int .u8 m.k) (W) (by go_simp) ?_
  refine wv (.pointer (some ⟨w.heap.size, 1, none⟩)) (W) (by go_simp) ?_
  refine wv (.int .u8 m.f) (W) (by go_simp) ?_
  refine wv (.pointer (some ⟨w.heap.size, 2, none⟩)) (W) (by go_simp) ?_
  refine wv (.int .u8 m.t) (W) (by go_simp) ?_
  refine wv (.pointer (some ⟨w.heap.size, 3, none⟩)) (W) (by go_simp) ?_
  refine wv (.int .u8 m.e) (W) (by go_simp) ?_
  refine wv (.agg m.head.cells.toArray) (W) (by simp only [Mg.head, Mg.cells, Rq.zero, Vt.zero]; go_simp) ?_
  refine wv (.pointer (some ⟨w.heap.size + 1 + 1, 0, none⟩)) (V) (by have e := HV.out; simp only [Vz] at e; rw [HWL.out, e]; go_simp) ?_
  refine wpList_store_mid rfl 37 (.tmp 3) (.tmp 12) rfl (w.heap.size + 1 + 1) 0 m.head.cells.toArray rfl rfl HTH.out size37 (all_oneCell_toArray m.head.one) ?_
  dsimp only
  rw [← HU.out]
  clear HTH HV HWL HU q0 q1 q2 q3
  have kk : U.cell? ⟨w.heap.size, 0, none⟩ = some (.int .u8 m.k) := HM0.out.cell 0
  rw [HKK.out] at kk ⊢
  obtain ⟨wr, hwr⟩ : ∃ wr, wr = (((U.drew.setCell ⟨w.heap.size + 1 + 1, 4, none⟩ (.int .u32 m.vw)).setCells (w.heap.size + 1 + 1) 6 [.int .u8 m.rq.c, .int .u32 m.rq.t, .int .u8 m.rq.k, .int .u8 m.rq.y, .int .u16 m.rq.v]).setCell ⟨w.heap.size + 1 + 1, 14, none⟩ (.int .u32 m.rs)) := ⟨_, rfl⟩
  have M1 : Mem w wr w.heap.size m (((((((m.head.cells.toArray.setIfInBounds 4 (.int .u32 m.vw)).setIfInBounds 6 (.int .u8 m.rq.c)).setIfInBounds 7 (.int .u32 m.rq.t)).setIfInBounds 8 (.int .u8 m.rq.k)).setIfInBounds 9 (.int .u8 m.rq.y)).setIfInBounds 10 (.int .u16 m.rq.v)).setIfInBounds 14 (.int .u32 m.rs)) := by rw [hwr]; exact (((HM0.out.drew.set 4 (.int .u32 m.vw)).setRq (.int .u8 m.rq.c) (.int .u32 m.rq.t) (.int .u8 m.rq.k) (.int .u8 m.rq.y) (.int .u16 m.rq.v)).set 14 (.int .u32 m.rs))
  have hX : (((((((m.head.cells.toArray.setIfInBounds 4 (.int .u32 m.vw)).setIfInBounds 6 (.int .u8 m.rq.c)).setIfInBounds 7 (.int .u32 m.rq.t)).setIfInBounds 8 (.int .u8 m.rq.k)).setIfInBounds 9 (.int .u8 m.rq.y)).setIfInBounds 10 (.int .u16 m.rq.v)).setIfInBounds 14 (.int .u32 m.rs)) = B.cells.toArray := by rw [HBB.out]; rfl
  rw [hX] at M1
  have HMm := Lib.hid M1
  have HWR := Lib.hid hwr
  clear M1 hX hwr HBB
  have HSZ : m.head.cells.toArray.size = 25 := rfl
  have HDR := HM0.out.drew
  generalize m.head.cells.toArray = A2 at *
  go_upto_region 27 with fail
  refine wp_region_held_drew (S := SM w m) (by kernel_rfl) (⟨_, HSZ, HDR⟩) (fun hS => ?_)
  refine tg 0 (.pointer (some ⟨w.heap.size, 4, none⟩)) rfl hS ?_
  refine tk 1 (.int .u32 m.vw) rfl (yi_load 22 (.tmp 97) (.pointer (some ⟨w.heap.size, 4, none⟩)) rfl rfl rfl (fun wq hw => by have q : wq.cell? ⟨w.heap.size, 4, none⟩ = some (.int .u32 m.vw) := SM.cell hw 4; go_simp)) hS ?_
  refine tg 2 (.pointer (some ⟨w.heap.size, 6, none⟩)) rfl hS ?_
  refine tk 3 (.agg #[.int .u8 m.rq.c, .int .u32 m.rq.t, .int .u8 m.rq.k, .int .u8 m.rq.y, .int .u16 m.rq.v]) rfl (yi_load 27 (.tmp 99) (.pointer (some ⟨w.heap.size, 6, none⟩)) rfl rfl rfl (fun wq hw => SM.rq hw)) hS ?_
  refine tg 4 (.pointer (some ⟨w.heap.size, 14, none⟩)) rfl hS ?_
  refine tk 5 (.int .u32 m.rs) rfl (yi_load 22 (.tmp 101) (.pointer (some ⟨w.heap.size, 14, none⟩)) rfl rfl rfl (fun wq hw => by have q : wq.cell? ⟨w.heap.size, 14, none⟩ = some (.int .u32 m.rs) := SM.cell hw 14; go_simp)) hS ?_
  refine tg 6 (.pointer (some ⟨w.heap.size + 1 + 1, 4, none⟩)) rfl hS ?_
  refine rdy1 7 rfl (fun K hK => ?_)
  rw [if_pos (by rfl)]
  refine hwp_st (ty := 22) (p := .pointer (some ⟨w.heap.size + 1 + 1, 4, none⟩)) (v := .int .u32 m.vw) (ox := .tmp 103) (oy := .tmp 98) (SM.run22 hS 4 (by omega) _) rfl rfl rfl rfl ?_
  refine hK.out _ _ (SM.set hS 4 _) (fun hS => ?_)
  clear hK K
  refine tg 8 (.pointer (some ⟨w.heap.size + 1 + 1, 6, none⟩)) rfl hS ?_
  refine rdy1 9 rfl (fun K hK => ?_)
  rw [if_pos (by rfl)]
  refine hwp_st (ty := 27) (p := .pointer (some ⟨w.heap.size + 1 + 1, 6, none⟩)) (v := .agg #[.int .u8 m.rq.c, .int .u32 m.rq.t, .int .u8 m.rq.k, .int .u8 m.rq.y, .int .u16 m.rq.v]) (ox := .tmp 104) (oy := .tmp 100) (SM.runRq hS _ _ _ _ _) rfl rfl rfl rfl ?_
  refine hK.out _ _ (SM.setRq hS _ _ _ _ _) (fun hS => ?_)
  clear hK K
  generalize hw5 : World.setCells _ _ _ _ = w5 at hS ⊢
  refine tg 10 (.pointer (some ⟨w.heap.size + 1 + 1, 14, none⟩)) rfl hS ?_
  refine rdy1 11 rfl (fun K hK => ?_)
  rw [if_pos (by rfl)]
  refine hwp_st (ty := 22) (p := .pointer (some ⟨w.heap.size + 1 + 1, 14, none⟩)) (v := .int .u32 m.rs) (ox := .tmp 105) (oy := .tmp 102) (SM.run22 hS 14 (by omega) _) rfl rfl rfl rfl ?_
  refine hK.out _ _ (SM.set hS 14 _) (fun hS => ?_)
  clear hK K
  refine wpAnyH_done (by kernel_rfl) ?_ _
  all_goals
    go_upto_region 28 with fail
    subst hw5
    rw [← HWR.out]
    clear HWR kk
    obtain ⟨w2, hw2, hth, hbel, hblk⟩ := bare_post B HMm.out
    have HT := Lib.hid hth
    have HMade := Lib.hid HMm.out.made
    have HBEL := Lib.hid hbel
    have HBLK := Lib.hid hblk
    have HW2 := Lib.hid hw2
    clear hth hbel hblk hw2
    refine wp_region_lit ?_
    refine wpList_load_row rfl 37 (.tmp 3) rfl (w.heap.size + 1 + 1) rfl 37 _ (0, 0) _ HMade.out Tryz.underlying37 rfl size37 ?_
    refine wpList_store_mid rfl 37 (.tmp 2) (.tmp 106) rfl (w.heap.size + 1) 0 B.cells.toArray rfl rfl HT.out size37 (all_oneCell_toArray B.one) ?_
    dsimp only
    rw [← HW2.out]
    go_wp2_with fail
    (try simp only [Exit.inBlock, Exit.then])
    refine bodyPost_ret (results_cell_row (P := Tryz.prog) rfl _ _ (w.heap.size + 1) 37 _ (0, 0) _ rfl HBLK.out Tryz.underlying37 rfl size37) rfl ?_
    exact ⟨rfl, HBEL.out⟩

theorem refBare_any (w : World) (m : Mg) :
    Calls Tryz.prog 35 #[.agg m.cells.toArray] w fun e w' => e = .returned (.agg (m.bare (partsOf m.k)).cells.toArray) ∧ Below w.heap.size w w' := by
  by_cases h1 : m.k = 1
  · have := refBare_k1 w m h1
    rwa [show partsOf m.k = [2] by rw [h1]; rfl]
  by_cases h2 : m.k = 2
  · have := refBare_k2 w m h2
    rwa [show partsOf m.k = [0, 1, 2] by rw [h2]; rfl]
  by_cases h3 : m.k = 3
  · have := refBare_k3 w m h3
    rwa [show partsOf m.k = [0, 1, 2] by rw [h3]; rfl]
  by_cases h4 : m.k = 4
  · have := refBare_k4 w m h4
    rwa [show partsOf m.k = [0, 1, 2] by rw [h4]; rfl]
  by_cases h5 : m.k = 5
  · have := refBare_k5 w m h5
    rwa [show partsOf m.k = [1, 3] by rw [h5]; rfl]
  by_cases h6 : m.k = 6
  · have := refBare_k6 w m h6
    rwa [show partsOf m.k = [7] by rw [h6]; rfl]
  by_cases h7 : m.k = 7
  · have := refBare_k7 w m h7
    rwa [show partsOf m.k = [0, 8] by rw [h7]; rfl]
  by_cases h8 : m.k = 8
  · have := refBare_k8 w m h8
    rwa [show partsOf m.k = [4] by rw [h8]; rfl]
  by_cases h9 : m.k = 9
  · have := refBare_k9 w m h9
    rwa [show partsOf m.k = [4] by rw [h9]; rfl]
  by_cases h10 : m.k = 10
  · have := refBare_k10 w m h10
    rwa [show partsOf m.k = [4, 1] by rw [h10]; rfl]
  by_cases h11 : m.k = 11
  · have := refBare_k11 w m h11
    rwa [show partsOf m.k = [1, 5] by rw [h11]; rfl]
  by_cases h12 : m.k = 12
  · have := refBare_k12 w m h12
    rwa [show partsOf m.k = [1, 9] by rw [h12]; rfl]
  by_cases h13 : m.k = 13
  · have := refBare_k13 w m h13
    rwa [show partsOf m.k = [1, 5, 10] by rw [h13]; rfl]
  by_cases h14 : m.k = 14
  · have := refBare_k14 w m h14
    rwa [show partsOf m.k = [0, 2, 6] by rw [h14]; rfl]
  have := refBare_k0 w m (by omega)
  rwa [show partsOf m.k = [] by unfold partsOf; simp only [h1, h2, h3, h4, h5, h6, h7, h8, h9, h10, h11, h12, h13, h14, if_false]]
end Go.Proofs.YtbpfkeeikhhlnaaGreatDoor
