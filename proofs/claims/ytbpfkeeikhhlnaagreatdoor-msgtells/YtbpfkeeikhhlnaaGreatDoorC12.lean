/- The document's bare: a message with just what its kind has. -/
import Derived.Test.YtbpfkeeikhhlnaaGreatDoorC04
import Derived.Deep.CutRange
namespace Go.Proofs.YtbpfkeeikhhlnaaGreatDoor
open Go.RowKit
set_option maxRecDepth 100000

set_option maxHeartbeats 8000000 in
theorem refBare_k0 (w : World) (m : Mg) (hk : m.k < 1 ∨ 14 < m.k) :
    Calls Tryz.prog 35 #[.agg m.cells.toArray] w fun e w' => e = .returned (.agg (m.bare []).cells.toArray) ∧ Below w.heap.size w w' := by
  obtain ⟨B, hB⟩ : ∃ B, B = m.bare [] := ⟨_, rfl⟩
  rw [← hB]
  have HBB := Lib.hid hB
  have HKK := Lib.hid hk
  clear hB hk
  obtain ⟨W, V, U, hW, hV, hU, q0, q1, q2, q3, M0, hth, hwl⟩ := bare_pre w m
  have HM0 := Lib.hid M0
  have HTH := Lib.hid hth
  have HW := Lib.hid hW
  have HV := Lib.hid hV
  have HU := Lib.hid hU
  have HWL := Lib.hid hwl
  clear M0 hW hU hth hV hwl
  simp only [Mg.cells, Vz] at HW ⊢
  go_enter Tryz.func35, Tryz.ntmps35
  go_upto_region 1 with fail
  rw [← HW.out]
  have eA := mgA m
  rw [eA]
  clear eA HW
  generalize m.cells.toArray = A
  refine wp_region_lit ?_
  refine wv (.pointer (some ⟨w.heap.size, 0, none⟩)) (W) (by go_simp) ?_
  refine wv (.int .u8 m.k) (W) (by go_simp) ?_
  refine wv (.pointer (some ⟨w.heap.size, 1, none⟩)) (W) (by go_simp) ?_
  refine wv (.int .u8 m.f) (W) (by go_simp) ?_
  refine wv (.pointer (some ⟨w.heap.size, 2, none⟩)) (W) (by go_simp) ?_
  refine wv (.int .u8 m.t) (W) (by go_simp) ?_
  refine wv (.pointer (some ⟨w.heap.size, 3, none⟩)) (W) (by go_simp) ?_
  refine wv (.int .u8 m.e) (W) (by go_simp) ?_
  refine wv (.agg m.head.cells.toArray) (W) (by simp only [Mg.head, Mg.cells, Rq.zero, Vt.zero]; go_simp) ?_
  refine wv (.pointer (some ⟨w.heap.size + 1 + 1, 0, none⟩)) (V) (by have e := HV.out; simp only [Vz] at e; rw [HWL.out, e]; go_simp) ?_
  refine wpList_store_mid rfl 37 (.tmp 3) (.tmp 12) rfl (w.heap.size + 1 + 1) 0 m.head.cells.toArray rfl rfl HTH.out size37 (all_oneCell_toArray m.head.one) ?_
  dsimp only
  rw [← HU.out]
  clear HTH HV HWL HU q0 q1 q2 q3
  have kk : U.cell? ⟨w.heap.size, 0, none⟩ = some (.int .u8 m.k) := HM0.out.cell 0
  have z1 : (m.k == 1) = false := by have := HKK.out; rw [beq_eq_false_iff_ne]; omega
  have z2 : (m.k == 2) = false := by have := HKK.out; rw [beq_eq_false_iff_ne]; omega
  have z3 : (m.k == 3) = false := by have := HKK.out; rw [beq_eq_false_iff_ne]; omega
  have z4 : (m.k == 4) = false := by have := HKK.out; rw [beq_eq_false_iff_ne]; omega
  have z5 : (m.k == 5) = false := by have := HKK.out; rw [beq_eq_false_iff_ne]; omega
  have z6 : (m.k == 6) = false := by have := HKK.out; rw [beq_eq_false_iff_ne]; omega
  have z7 : (m.k == 7) = false := by have := HKK.out; rw [beq_eq_false_iff_ne]; omega
  have z8 : (m.k == 8) = false := by have := HKK.out; rw [beq_eq_false_iff_ne]; omega
  have z9 : (m.k == 9) = false := by have := HKK.out; rw [beq_eq_false_iff_ne]; omega
  have z10 : (m.k == 10) = false := by have := HKK.out; rw [beq_eq_false_iff_ne]; omega
  have z11 : (m.k == 11) = false := by have := HKK.out; rw [beq_eq_false_iff_ne]; omega
  have z12 : (m.k == 12) = false := by have := HKK.out; rw [beq_eq_false_iff_ne]; omega
  have z13 : (m.k == 13) = false := by have := HKK.out; rw [beq_eq_false_iff_ne]; omega
  have z14 : (m.k == 14) = false := by have := HKK.out; rw [beq_eq_false_iff_ne]; omega
  obtain ⟨wr, hwr⟩ : ∃ wr, wr = U := ⟨_, rfl⟩
  have M1 : Mem w wr w.heap.size m m.head.cells.toArray := by rw [hwr]; exact HM0.out
  have hX : m.head.cells.toArray = B.cells.toArray := by rw [HBB.out]; rfl
  rw [hX] at M1
  have HMm := Lib.hid M1
  have HWR := Lib.hid hwr
  clear M1 hX hwr HM0 HBB
  generalize m.head.cells.toArray = A2 at *
  all_goals
    go_upto_region 28 with fail
    rw [← HWR.out]
    clear HWR kk
    obtain ⟨w2, hw2, hth, hbel, hblk⟩ := bare_post B HMm.out
    have HT := Lib.hid hth
    have HMade := Lib.hid HMm.out.made
    have HBEL := Lib.hid hbel
    have HBLK := Lib.hid hblk
    have HW2 := Lib.hid hw2
    clear hth hbel hblk hw2
    refine wp_region_lit ?_
    refine wpList_load_row rfl 37 (.tmp 3) rfl (w.heap.size + 1 + 1) rfl 37 _ (0, 0) _ HMade.out Tryz.underlying37 rfl size37 ?_
    refine wpList_store_mid rfl 37 (.tmp 2) (.tmp 106) rfl (w.heap.size + 1) 0 B.cells.toArray rfl rfl HT.out size37 (all_oneCell_toArray B.one) ?_
    dsimp only
    rw [← HW2.out]
    go_wp2_with fail
    (try simp only [Exit.inBlock, Exit.then])
    refine bodyPost_ret (results_cell_row (P := Tryz.prog) rfl _ _ (w.heap.size + 1) 37 _ (0, 0) _ rfl HBLK.out Tryz.underlying37 rfl size37) rfl ?_
    exact ⟨rfl, HBEL.out⟩

set_option maxHeartbeats 8000000 in
theorem refBare_k1 (w : World) (m : Mg) (hk : m.k = 1) :
    Calls Tryz.prog 35 #[.agg m.cells.toArray] w fun e w' => e = .returned (.agg (m.bare [2]).cells.toArray) ∧ Below w.heap.size w w' := by
  obtain ⟨B, hB⟩ : ∃ B, B = m.bare [2] := ⟨_, rfl⟩
  rw [← hB]
  have HBB := Lib.hid hB
  have HKK := Lib.hid hk
  clear hB hk
  obtain ⟨W, V, U, hW, hV, hU, q0, q1, q2, q3, M0, hth, hwl⟩ := bare_pre w m
  have HM0 := Lib.hid M0
  have HTH := Lib.hid hth
  have HW := Lib.hid hW
  have HV := Lib.hid hV
  have HU := Lib.hid hU
  have HWL := Lib.hid hwl
  clear M0 hW hU hth hV hwl
  simp only [Mg.cells, Vz] at HW ⊢
  go_enter Tryz.func35, Tryz.ntmps35
  go_upto_region 1 with fail
  rw [← HW.out]
  have eA := mgA m
  rw [eA]
  clear eA HW
  generalize m.cells.toArray = A
  refine wp_region_lit ?_
  refine wv (.pointer (some ⟨w.heap.size, 0, none⟩)) (W) (by go_simp) ?_
  refine wv (.int .u8 m.k) (W) (by go_simp) ?_
  refine wv (.pointer (some ⟨w.heap.size, 1, none⟩)) (W) (by go_simp) ?_
  refine wv (.int .u8 m.f) (W) (by go_simp) ?_
  refine wv (.pointer (some ⟨w.heap.size, 2, none⟩)) (W) (by go_simp) ?_
  refine wv (.int .u8 m.t) (W) (by go_simp) ?_
  refine wv (.pointer (some ⟨w.heap.size, 3, none⟩)) (W) (by go_simp) ?_
  refine wv (.int .u8 m.e) (W) (by go_simp) ?_
  refine wv (.agg m.head.cells.toArray) (W) (by simp only [Mg.head, Mg.cells, Rq.zero, Vt.zero]; go_simp) ?_
  refine wv (.pointer (some ⟨w.heap.size + 1 + 1, 0, none⟩)) (V) (by have e := HV.out; simp only [Vz] at e; rw [HWL.out, e]; go_simp) ?_
  refine wpList_store_mid rfl 37 (.tmp 3) (.tmp 12) rfl (w.heap.size + 1 + 1) 0 m.head.cells.toArray rfl rfl HTH.out size37 (all_oneCell_toArray m.head.one) ?_
  dsimp only
  rw [← HU.out]
  clear HTH HV HWL HU q0 q1 q2 q3
  have kk : U.cell? ⟨w.heap.size, 0, none⟩ = some (.int .u8 m.k) := HM0.out.cell 0
  rw [HKK.out] at kk ⊢
  have q6 : U.cell? ⟨w.heap.size, 6, none⟩ = some (.int .u8 m.rq.c) := HM0.out.cell 6
  have c6 : U.cell? ⟨w.heap.size + 1 + 1, 6, none⟩ = some (.int .u8 0) := HM0.out.there 6
  have f6 : U.frozen? ⟨w.heap.size + 1 + 1, 6, none⟩ = false := HM0.out.free 6
  have q7 : U.cell? ⟨w.heap.size, 7, none⟩ = some (.int .u32 m.rq.t) := HM0.out.cell 7
  have c7 : U.cell? ⟨w.heap.size + 1 + 1, 7, none⟩ = some (.int .u32 0) := HM0.out.there 7
  have f7 : U.frozen? ⟨w.heap.size + 1 + 1, 7, none⟩ = false := HM0.out.free 7
  have q8 : U.cell? ⟨w.heap.size, 8, none⟩ = some (.int .u8 m.rq.k) := HM0.out.cell 8
  have c8 : U.cell? ⟨w.heap.size + 1 + 1, 8, none⟩ = some (.int .u8 0) := HM0.out.there 8
  have f8 : U.frozen? ⟨w.heap.size + 1 + 1, 8, none⟩ = false := HM0.out.free 8
  have q9 : U.cell? ⟨w.heap.size, 9, none⟩ = some (.int .u8 m.rq.y) := HM0.out.cell 9
  have c9 : U.cell? ⟨w.heap.size + 1 + 1, 9, none⟩ = some (.int .u8 0) := HM0.out.there 9
  have f9 : U.frozen? ⟨w.heap.size + 1 + 1, 9, none⟩ = false := HM0.out.free 9
  have q10 : U.cell? ⟨w.heap.size, 10, none⟩ = some (.int .u16 m.rq.v) := HM0.out.cell 10
  have c10 : U.cell? ⟨w.heap.size + 1 + 1, 10, none⟩ = some (.int .u16 0) := HM0.out.there 10
  have f10 : U.frozen? ⟨w.heap.size + 1 + 1, 10, none⟩ = false := HM0.out.free 10
  obtain ⟨wr, hwr⟩ : ∃ wr, wr = (((((U.setCell ⟨w.heap.size + 1 + 1, 6, none⟩ (.int .u8 m.rq.c)).setCell ⟨w.heap.size + 1 + 1, 7, none⟩ (.int .u32 m.rq.t)).setCell ⟨w.heap.size + 1 + 1, 8, none⟩ (.int .u8 m.rq.k)).setCell ⟨w.heap.size + 1 + 1, 9, none⟩ (.int .u8 m.rq.y)).setCell ⟨w.heap.size + 1 + 1, 10, none⟩ (.int .u16 m.rq.v)) := ⟨_, rfl⟩
  have M1 : Mem w wr w.heap.size m (((((m.head.cells.toArray.setIfInBounds 6 (.int .u8 m.rq.c)).setIfInBounds 7 (.int .u32 m.rq.t)).setIfInBounds 8 (.int .u8 m.rq.k)).setIfInBounds 9 (.int .u8 m.rq.y)).setIfInBounds 10 (.int .u16 m.rq.v)) := by rw [hwr]; exact (((((HM0.out.set 6 (.int .u8 m.rq.c)).set 7 (.int .u32 m.rq.t)).set 8 (.int .u8 m.rq.k)).set 9 (.int .u8 m.rq.y)).set 10 (.int .u16 m.rq.v))
  have hX : (((((m.head.cells.toArray.setIfInBounds 6 (.int .u8 m.rq.c)).setIfInBounds 7 (.int .u32 m.rq.t)).setIfInBounds 8 (.int .u8 m.rq.k)).setIfInBounds 9 (.int .u8 m.rq.y)).setIfInBounds 10 (.int .u16 m.rq.v)) = B.cells.toArray := by rw [HBB.out]; rfl
  rw [hX] at M1
  have HMm := Lib.hid M1
  have HWR := Lib.hid hwr
  clear M1 hX hwr HM0 HBB
  generalize m.head.cells.toArray = A2 at *
  all_goals
    go_upto_region 28 with fail
    rw [← HWR.out]
    clear HWR kk q6 c6 f6 q7 c7 f7 q8 c8 f8 q9 c9 f9 q10 c10 f10
    obtain ⟨w2, hw2, hth, hbel, hblk⟩ := bare_post B HMm.out
    have HT := Lib.hid hth
    have HMade := Lib.hid HMm.out.made
    have HBEL := Lib.hid hbel
    have HBLK := Lib.hid hblk
    have HW2 := Lib.hid hw2
    clear hth hbel hblk hw2
    refine wp_region_lit ?_
    refine wpList_load_row rfl 37 (.tmp 3) rfl (w.heap.size + 1 + 1) rfl 37 _ (0, 0) _ HMade.out Tryz.underlying37 rfl size37 ?_
    refine wpList_store_mid rfl 37 (.tmp 2) (.tmp 106) rfl (w.heap.size + 1) 0 B.cells.toArray rfl rfl HT.out size37 (all_oneCell_toArray B.one) ?_
    dsimp only
    rw [← HW2.out]
    go_wp2_with fail
    (try simp only [Exit.inBlock, Exit.then])
    refine bodyPost_ret (results_cell_row (P := Tryz.prog) rfl _ _ (w.heap.size + 1) 37 _ (0, 0) _ rfl HBLK.out Tryz.underlying37 rfl size37) rfl ?_
    exact ⟨rfl, HBEL.out⟩

set_option maxHeartbeats 8000000 in
theorem refBare_k5 (w : World) (m : Mg) (hk : m.k = 5) :
    Calls Tryz.prog 35 #[.agg m.cells.toArray] w fun e w' => e = .returned (.agg (m.bare [1, 3]).cells.toArray) ∧ Below w.heap.size w w' := by
  obtain ⟨B, hB⟩ : ∃ B, B = m.bare [1, 3] := ⟨_, rfl⟩
  rw [← hB]
  have HBB := Lib.hid hB
  have HKK := Lib.hid hk
  clear hB hk
  obtain ⟨W, V, U, hW, hV, hU, q0, q1, q2, q3, M0, hth, hwl⟩ := bare_pre w m
  have HM0 := Lib.hid M0
  have HTH := Lib.hid hth
  have HW := Lib.hid hW
  have HV := Lib.hid hV
  have HU := Lib.hid hU
  have HWL := Lib.hid hwl
  clear M0 hW hU hth hV hwl
  simp only [Mg.cells, Vz] at HW ⊢
  go_enter Tryz.func35, Tryz.ntmps35
  go_upto_region 1 with fail
  rw [← HW.out]
  have eA := mgA m
  rw [eA]
  clear eA HW
  generalize m.cells.toArray = A
  refine wp_region_lit ?_
  refine wv (.pointer (some ⟨w.heap.size, 0, none⟩)) (W) (by go_simp) ?_
  refine wv (.int .u8 m.k) (W) (by go_simp) ?_
  refine wv (.pointer (some ⟨w.heap.size, 1, none⟩)) (W) (by go_simp) ?_
  refine wv (.int .u8 m.f) (W) (by go_simp) ?_
  refine wv (.pointer (some ⟨w.heap.size, 2, none⟩)) (W) (by go_simp) ?_
  refine wv (.int .u8 m.t) (W) (by go_simp) ?_
  refine wv (.pointer (some ⟨w.heap.size, 3, none⟩)) (W) (by go_simp) ?_
  refine wv (.int .u8 m.e) (W) (by go_simp) ?_
  refine wv (.agg m.head.cells.toArray) (W) (by simp only [Mg.head, Mg.cells, Rq.zero, Vt.zero]; go_simp) ?_
  refine wv (.pointer (some ⟨w.heap.size + 1 + 1, 0, none⟩)) (V) (by have e := HV.out; simp only [Vz] at e; rw [HWL.out, e]; go_simp) ?_
  refine wpList_store_mid rfl 37 (.tmp 3) (.tmp 12) rfl (w.heap.size + 1 + 1) 0 m.head.cells.toArray rfl rfl HTH.out size37 (all_oneCell_toArray m.head.one) ?_
  dsimp only
  rw [← HU.out]
  clear HTH HV HWL HU q0 q1 q2 q3
  have kk : U.cell? ⟨w.heap.size, 0, none⟩ = some (.int .u8 m.k) := HM0.out.cell 0
  rw [HKK.out] at kk ⊢
  have q5 : U.cell? ⟨w.heap.size, 5, none⟩ = some (.int .u32 m.sq) := HM0.out.cell 5
  have c5 : U.cell? ⟨w.heap.size + 1 + 1, 5, none⟩ = some (.int .u32 0) := HM0.out.there 5
  have f5 : U.frozen? ⟨w.heap.size + 1 + 1, 5, none⟩ = false := HM0.out.free 5
  have q11 : U.cell? ⟨w.heap.size, 11, none⟩ = some (.int .u64 m.ro) := HM0.out.cell 11
  have c11 : U.cell? ⟨w.heap.size + 1 + 1, 11, none⟩ = some (.int .u64 0) := HM0.out.there 11
  have f11 : U.frozen? ⟨w.heap.size + 1 + 1, 11, none⟩ = false := HM0.out.free 11
  obtain ⟨wr, hwr⟩ : ∃ wr, wr = (((U.setCell ⟨w.heap.size + 1 + 1, 5, none⟩ (.int .u32 m.sq)).setCell ⟨w.heap.size + 1 + 1, 11, none⟩ (.int .u64 m.ro))).drew := ⟨_, rfl⟩
  have M1 : Mem w wr w.heap.size m ((m.head.cells.toArray.setIfInBounds 5 (.int .u32 m.sq)).setIfInBounds 11 (.int .u64 m.ro)) := by rw [hwr]; exact (have q := ((HM0.out.set 5 (.int .u32 m.sq)).set 11 (.int .u64 m.ro)); ⟨q.box, q.res, q.made, q.bel.drew, q.hg⟩)
  have hX : ((m.head.cells.toArray.setIfInBounds 5 (.int .u32 m.sq)).setIfInBounds 11 (.int .u64 m.ro)) = B.cells.toArray := by rw [HBB.out]; rfl
  rw [hX] at M1
  have HMm := Lib.hid M1
  have HWR := Lib.hid hwr
  clear M1 hX hwr HM0 HBB
  generalize m.head.cells.toArray = A2 at *
  go_upto_region 10 with fail
  go_region
  all_goals
    go_upto_region 28 with fail
    rw [← HWR.out]
    clear HWR kk q5 c5 f5 q11 c11 f11
    obtain ⟨w2, hw2, hth, hbel, hblk⟩ := bare_post B HMm.out
    have HT := Lib.hid hth
    have HMade := Lib.hid HMm.out.made
    have HBEL := Lib.hid hbel
    have HBLK := Lib.hid hblk
    have HW2 := Lib.hid hw2
    clear hth hbel hblk hw2
    refine wp_region_lit ?_
    refine wpList_load_row rfl 37 (.tmp 3) rfl (w.heap.size + 1 + 1) rfl 37 _ (0, 0) _ HMade.out Tryz.underlying37 rfl size37 ?_
    refine wpList_store_mid rfl 37 (.tmp 2) (.tmp 106) rfl (w.heap.size + 1) 0 B.cells.toArray rfl rfl HT.out size37 (all_oneCell_toArray B.one) ?_
    dsimp only
    rw [← HW2.out]
    go_wp2_with fail
    (try simp only [Exit.inBlock, Exit.then])
    refine bodyPost_ret (results_cell_row (P := Tryz.prog) rfl _ _ (w.heap.size + 1) 37 _ (0, 0) _ rfl HBLK.out Tryz.underlying37 rfl size37) rfl ?_
    exact ⟨rfl, HBEL.out⟩

set_option maxHeartbeats 8000000 in
theorem refBare_k6 (w : World) (m : Mg) (hk : m.k = 6) :
    Calls Tryz.prog 35 #[.agg m.cells.toArray] w fun e w' => e = .returned (.agg (m.bare [7]).cells.toArray) ∧ Below w.heap.size w w' := by
  obtain ⟨B, hB⟩ : ∃ B, B = m.bare [7] := ⟨_, rfl⟩
  rw [← hB]
  have HBB := Lib.hid hB
  have HKK := Lib.hid hk
  clear hB hk
  obtain ⟨W, V, U, hW, hV, hU, q0, q1, q2, q3, M0, hth, hwl⟩ := bare_pre w m
  have HM0 := Lib.hid M0
  have HTH := Lib.hid hth
  have HW := Lib.hid hW
  have HV := Lib.hid hV
  have HU := Lib.hid hU
  have HWL := Lib.hid hwl
  clear M0 hW hU hth hV hwl
  simp only [Mg.cells, Vz] at HW ⊢
  go_enter Tryz.func35, Tryz.ntmps35
  go_upto_region 1 with fail
  rw [← HW.out]
  have eA := mgA m
  rw [eA]
  clear eA HW
  generalize m.cells.toArray = A
  refine wp_region_lit ?_
  refine wv (.pointer (some ⟨w.heap.size, 0, none⟩)) (W) (by go_simp) ?_
  refine wv (.int .u8 m.k) (W) (by go_simp) ?_
  refine wv (.pointer (some ⟨w.heap.size, 1, none⟩)) (W) (by go_simp) ?_
  refine wv (.int .u8 m.f) (W) (by go_simp) ?_
  refine wv (.pointer (some ⟨w.heap.size, 2, none⟩)) (W) (by go_simp) ?_
  refine wv (.int .u8 m.t) (W) (by go_simp) ?_
  refine wv (.pointer (some ⟨w.heap.size, 3, none⟩)) (W) (by go_simp) ?_
  refine wv (.int .u8 m.e) (W) (by go_simp) ?_
  refine wv (.agg m.head.cells.toArray) (W) (by simp only [Mg.head, Mg.cells, Rq.zero, Vt.zero]; go_simp) ?_
  refine wv (.pointer (some ⟨w.heap.size + 1 + 1, 0, none⟩)) (V) (by have e := HV.out; simp only [Vz] at e; rw [HWL.out, e]; go_simp) ?_
  refine wpList_store_mid rfl 37 (.tmp 3) (.tmp 12) rfl (w.heap.size + 1 + 1) 0 m.head.cells.toArray rfl rfl HTH.out size37 (all_oneCell_toArray m.head.one) ?_
  dsimp only
  rw [← HU.out]
  clear HTH HV HWL HU q0 q1 q2 q3
  have kk : U.cell? ⟨w.heap.size, 0, none⟩ = some (.int .u8 m.k) := HM0.out.cell 0
  rw [HKK.out] at kk ⊢
  have q15 : U.cell? ⟨w.heap.size, 15, none⟩ = some (.int .u8 m.vt.f) := HM0.out.cell 15
  have c15 : U.cell? ⟨w.heap.size + 1 + 1, 15, none⟩ = some (.int .u8 0) := HM0.out.there 15
  have f15 : U.frozen? ⟨w.heap.size + 1 + 1, 15, none⟩ = false := HM0.out.free 15
  have q16 : U.cell? ⟨w.heap.size, 16, none⟩ = some (.int .u8 m.vt.e) := HM0.out.cell 16
  have c16 : U.cell? ⟨w.heap.size + 1 + 1, 16, none⟩ = some (.int .u8 0) := HM0.out.there 16
  have f16 : U.frozen? ⟨w.heap.size + 1 + 1, 16, none⟩ = false := HM0.out.free 16
  have q17 : U.cell? ⟨w.heap.size, 17, none⟩ = some (.int .u32 m.vt.vw) := HM0.out.cell 17
  have c17 : U.cell? ⟨w.heap.size + 1 + 1, 17, none⟩ = some (.int .u32 0) := HM0.out.there 17
  have f17 : U.frozen? ⟨w.heap.size + 1 + 1, 17, none⟩ = false := HM0.out.free 17
  have q18 : U.cell? ⟨w.heap.size, 18, none⟩ = some (.int .u32 m.vt.lo) := HM0.out.cell 18
  have c18 : U.cell? ⟨w.heap.size + 1 + 1, 18, none⟩ = some (.int .u32 0) := HM0.out.there 18
  have f18 : U.frozen? ⟨w.heap.size + 1 + 1, 18, none⟩ = false := HM0.out.free 18
  have q19 : U.cell? ⟨w.heap.size, 19, none⟩ = some (.slice m.vt.ms.a m.vt.ms.n m.vt.ms.c) := HM0.out.cell 19
  have c19 : U.cell? ⟨w.heap.size + 1 + 1, 19, none⟩ = some (.slice none 0 0) := HM0.out.there 19
  have f19 : U.frozen? ⟨w.heap.size + 1 + 1, 19, none⟩ = false := HM0.out.free 19
  have q20 : U.cell? ⟨w.heap.size, 20, none⟩ = some (.slice m.vt.p.a m.vt.p.n m.vt.p.c) := HM0.out.cell 20
  have c20 : U.cell? ⟨w.heap.size + 1 + 1, 20, none⟩ = some (.slice none 0 0) := HM0.out.there 20
  have f20 : U.frozen? ⟨w.heap.size + 1 + 1, 20, none⟩ = false := HM0.out.free 20
  have q21 : U.cell? ⟨w.heap.size, 21, none⟩ = some (.slice m.vt.q.a m.vt.q.n m.vt.q.c) := HM0.out.cell 21
  have c21 : U.cell? ⟨w.heap.size + 1 + 1, 21, none⟩ = some (.slice none 0 0) := HM0.out.there 21
  have f21 : U.frozen? ⟨w.heap.size + 1 + 1, 21, none⟩ = false := HM0.out.free 21
  obtain ⟨wr, hwr⟩ : ∃ wr, wr = (((((((U.setCell ⟨w.heap.size + 1 + 1, 15, none⟩ (.int .u8 m.vt.f)).setCell ⟨w.heap.size + 1 + 1, 16, none⟩ (.int .u8 m.vt.e)).setCell ⟨w.heap.size + 1 + 1, 17, none⟩ (.int .u32 m.vt.vw)).setCell ⟨w.heap.size + 1 + 1, 18, none⟩ (.int .u32 m.vt.lo)).setCell ⟨w.heap.size + 1 + 1, 19, none⟩ (.slice m.vt.ms.a m.vt.ms.n m.vt.ms.c)).setCell ⟨w.heap.size + 1 + 1, 20, none⟩ (.slice m.vt.p.a m.vt.p.n m.vt.p.c)).setCell ⟨w.heap.size + 1 + 1, 21, none⟩ (.slice m.vt.q.a m.vt.q.n m.vt.q.c)) := ⟨_, rfl⟩
  have M1 : Mem w wr w.heap.size m (((((((m.head.cells.toArray.setIfInBounds 15 (.int .u8 m.vt.f)).setIfInBounds 16 (.int .u8 m.vt.e)).setIfInBounds 17 (.int .u32 m.vt.vw)).setIfInBounds 18 (.int .u32 m.vt.lo)).setIfInBounds 19 (.slice m.vt.ms.a m.vt.ms.n m.vt.ms.c)).setIfInBounds 20 (.slice m.vt.p.a m.vt.p.n m.vt.p.c)).setIfInBounds 21 (.slice m.vt.q.a m.vt.q.n m.vt.q.c)) := by rw [hwr]; exact (((((((HM0.out.set 15 (.int .u8 m.vt.f)).set 16 (.int .u8 m.vt.e)).set 17 (.int .u32 m.vt.vw)).set 18 (.int .u32 m.vt.lo)).set 19 (.slice m.vt.ms.a m.vt.ms.n m.vt.ms.c)).set 20 (.slice m.vt.p.a m.vt.p.n m.vt.p.c)).set 21 (.slice m.vt.q.a m.vt.q.n m.vt.q.c))
  have hX : (((((((m.head.cells.toArray.setIfInBounds 15 (.int .u8 m.vt.f)).setIfInBounds 16 (.int .u8 m.vt.e)).setIfInBounds 17 (.int .u32 m.vt.vw)).setIfInBounds 18 (.int .u32 m.vt.lo)).setIfInBounds 19 (.slice m.vt.ms.a m.vt.ms.n m.vt.ms.c)).setIfInBounds 20 (.slice m.vt.p.a m.vt.p.n m.vt.p.c)).setIfInBounds 21 (.slice m.vt.q.a m.vt.q.n m.vt.q.c)) = B.cells.toArray := by rw [HBB.out]; rfl
  rw [hX] at M1
  have HMm := Lib.hid M1
  have HWR := Lib.hid hwr
  clear M1 hX hwr HM0 HBB
  generalize m.head.cells.toArray = A2 at *
  all_goals
    go_upto_region 28 with fail
    rw [← HWR.out]
    clear HWR kk q15 c15 f15 q16 c16 f16 q17 c17 f17 q18 c18 f18 q19 c19 f19 q20 c20 f20 q21 c21 f21
    obtain ⟨w2, hw2, hth, hbel, hblk⟩ := bare_post B HMm.out
    have HT := Lib.hid hth
    have HMade := Lib.hid HMm.out.made
    have HBEL := Lib.hid hbel
    have HBLK := Lib.hid hblk
    have HW2 := Lib.hid hw2
    clear hth hbel hblk hw2
    refine wp_region_lit ?_
    refine wpList_load_row rfl 37 (.tmp 3) rfl (w.heap.size + 1 + 1) rfl 37 _ (0, 0) _ HMade.out Tryz.underlying37 rfl size37 ?_
    refine wpList_store_mid rfl 37 (.tmp 2) (.tmp 106) rfl (w.heap.size + 1) 0 B.cells.toArray rfl rfl HT.out size37 (all_oneCell_toArray B.one) ?_
    dsimp only
    rw [← HW2.out]
    go_wp2_with fail
    (try simp only [Exit.inBlock, Exit.then])
    refine bodyPost_ret (results_cell_row (P := Tryz.prog) rfl _ _ (w.heap.size + 1) 37 _ (0, 0) _ rfl HBLK.out Tryz.underlying37 rfl size37) rfl ?_
    exact ⟨rfl, HBEL.out⟩

set_option maxHeartbeats 8000000 in
theorem refBare_k7 (w : World) (m : Mg) (hk : m.k = 7) :
    Calls Tryz.prog 35 #[.agg m.cells.toArray] w fun e w' => e = .returned (.agg (m.bare [0, 8]).cells.toArray) ∧ Below w.heap.size w w' := by
  obtain ⟨B, hB⟩ : ∃ B, B = m.bare [0, 8] := ⟨_, rfl⟩
  rw [← hB]
  have HBB := Lib.hid hB
  have HKK := Lib.hid hk
  clear hB hk
  obtain ⟨W, V, U, hW, hV, hU, q0, q1, q2, q3, M0, hth, hwl⟩ := bare_pre w m
  have HM0 := Lib.hid M0
  have HTH := Lib.hid hth
  have HW := Lib.hid hW
  have HV := Lib.hid hV
  have HU := Lib.hid hU
  have HWL := Lib.hid hwl
  clear M0 hW hU hth hV hwl
  simp only [Mg.cells, Vz] at HW ⊢
  go_enter Tryz.func35, Tryz.ntmps35
  go_upto_region 1 with fail
  rw [← HW.out]
  have eA := mgA m
  rw [eA]
  clear eA HW
  generalize m.cells.toArray = A
  refine wp_region_lit ?_
  refine wv (.pointer (some ⟨w.heap.size, 0, none⟩)) (W) (by go_simp) ?_
  refine wv (.int .u8 m.k) (W) (by go_simp) ?_
  refine wv (.pointer (some ⟨w.heap.size, 1, none⟩)) (W) (by go_simp) ?_
  refine wv (.int .u8 m.f) (W) (by go_simp) ?_
  refine wv (.pointer (some ⟨w.heap.size, 2, none⟩)) (W) (by go_simp) ?_
  refine wv (.int .u8 m.t) (W) (by go_simp) ?_
  refine wv (.pointer (some ⟨w.heap.size, 3, none⟩)) (W) (by go_simp) ?_
  refine wv (.int .u8 m.e) (W) (by go_simp) ?_
  refine wv (.agg m.head.cells.toArray) (W) (by simp only [Mg.head, Mg.cells, Rq.zero, Vt.zero]; go_simp) ?_
  refine wv (.pointer (some ⟨w.heap.size + 1 + 1, 0, none⟩)) (V) (by have e := HV.out; simp only [Vz] at e; rw [HWL.out, e]; go_simp) ?_
  refine wpList_store_mid rfl 37 (.tmp 3) (.tmp 12) rfl (w.heap.size + 1 + 1) 0 m.head.cells.toArray rfl rfl HTH.out size37 (all_oneCell_toArray m.head.one) ?_
  dsimp only
  rw [← HU.out]
  clear HTH HV HWL HU q0 q1 q2 q3
  have kk : U.cell? ⟨w.heap.size, 0, none⟩ = some (.int .u8 m.k) := HM0.out.cell 0
  rw [HKK.out] at kk ⊢
  have q4 : U.cell? ⟨w.heap.size, 4, none⟩ = some (.int .u32 m.vw) := HM0.out.cell 4
  have c4 : U.cell? ⟨w.heap.size + 1 + 1, 4, none⟩ = some (.int .u32 0) := HM0.out.there 4
  have f4 : U.frozen? ⟨w.heap.size + 1 + 1, 4, none⟩ = false := HM0.out.free 4
  have q22 : U.cell? ⟨w.heap.size, 22, none⟩ = some (.slice m.vs.a m.vs.n m.vs.c) := HM0.out.cell 22
  have c22 : U.cell? ⟨w.heap.size + 1 + 1, 22, none⟩ = some (.slice none 0 0) := HM0.out.there 22
  have f22 : U.frozen? ⟨w.heap.size + 1 + 1, 22, none⟩ = false := HM0.out.free 22
  obtain ⟨wr, hwr⟩ : ∃ wr, wr = (((U.setCell ⟨w.heap.size + 1 + 1, 4, none⟩ (.int .u32 m.vw)).setCell ⟨w.heap.size + 1 + 1, 22, none⟩ (.slice m.vs.a m.vs.n m.vs.c))).drew := ⟨_, rfl⟩
  have M1 : Mem w wr w.heap.size m ((m.head.cells.toArray.setIfInBounds 4 (.int .u32 m.vw)).setIfInBounds 22 (.slice m.vs.a m.vs.n m.vs.c)) := by rw [hwr]; exact (have q := ((HM0.out.set 4 (.int .u32 m.vw)).set 22 (.slice m.vs.a m.vs.n m.vs.c)); ⟨q.box, q.res, q.made, q.bel.drew, q.hg⟩)
  have hX : ((m.head.cells.toArray.setIfInBounds 4 (.int .u32 m.vw)).setIfInBounds 22 (.slice m.vs.a m.vs.n m.vs.c)) = B.cells.toArray := by rw [HBB.out]; rfl
  rw [hX] at M1
  have HMm := Lib.hid M1
  have HWR := Lib.hid hwr
  clear M1 hX hwr HM0 HBB
  generalize m.head.cells.toArray = A2 at *
  go_upto_region 14 with fail
  go_region
  all_goals
    go_upto_region 28 with fail
    rw [← HWR.out]
    clear HWR kk q4 c4 f4 q22 c22 f22
    obtain ⟨w2, hw2, hth, hbel, hblk⟩ := bare_post B HMm.out
    have HT := Lib.hid hth
    have HMade := Lib.hid HMm.out.made
    have HBEL := Lib.hid hbel
    have HBLK := Lib.hid hblk
    have HW2 := Lib.hid hw2
    clear hth hbel hblk hw2
    refine wp_region_lit ?_
    refine wpList_load_row rfl 37 (.tmp 3) rfl (w.heap.size + 1 + 1) rfl 37 _ (0, 0) _ HMade.out Tryz.underlying37 rfl size37 ?_
    refine wpList_store_mid rfl 37 (.tmp 2) (.tmp 106) rfl (w.heap.size + 1) 0 B.cells.toArray rfl rfl HT.out size37 (all_oneCell_toArray B.one) ?_
    dsimp only
    rw [← HW2.out]
    go_wp2_with fail
    (try simp only [Exit.inBlock, Exit.then])
    refine bodyPost_ret (results_cell_row (P := Tryz.prog) rfl _ _ (w.heap.size + 1) 37 _ (0, 0) _ rfl HBLK.out Tryz.underlying37 rfl size37) rfl ?_
    exact ⟨rfl, HBEL.out⟩

set_option maxHeartbeats 8000000 in
theorem refBare_k8 (w : World) (m : Mg) (hk : m.k = 8) :
    Calls Tryz.prog 35 #[.agg m.cells.toArray] w fun e w' => e = .returned (.agg (m.bare [4]).cells.toArray) ∧ Below w.heap.size w w' := by
  obtain ⟨B, hB⟩ : ∃ B, B = m.bare [4] := ⟨_, rfl⟩
  rw [← hB]
  have HBB := Lib.hid hB
  have HKK := Lib.hid hk
  clear hB hk
  obtain ⟨W, V, U, hW, hV, hU, q0, q1, q2, q3, M0, hth, hwl⟩ := bare_pre w m
  have HM0 := Lib.hid M0
  have HTH := Lib.hid hth
  have HW := Lib.hid hW
  have HV := Lib.hid hV
  have HU := Lib.hid hU
  have HWL := Lib.hid hwl
  clear M0 hW hU hth hV hwl
  simp only [Mg.cells, Vz] at HW ⊢
  go_enter Tryz.func35, Tryz.ntmps35
  go_upto_region 1 with fail
  rw [← HW.out]
  have eA := mgA m
  rw [eA]
  clear eA HW
  generalize m.cells.toArray = A
  refine wp_region_lit ?_
  refine wv (.pointer (some ⟨w.heap.size, 0, none⟩)) (W) (by go_simp) ?_
  refine wv (.int .u8 m.k) (W) (by go_simp) ?_
  refine wv (.pointer (some ⟨w.heap.size, 1, none⟩)) (W) (by go_simp) ?_
  refine wv (.int .u8 m.f) (W) (by go_simp) ?_
  refine wv (.pointer (some ⟨w.heap.size, 2, none⟩)) (W) (by go_simp) ?_
  refine wv (.int .u8 m.t) (W) (by go_simp) ?_
  refine wv (.pointer (some ⟨w.heap.size, 3, none⟩)) (W) (by go_simp) ?_
  refine wv (.int .u8 m.e) (W) (by go_simp) ?_
  refine wv (.agg m.head.cells.toArray) (W) (by simp only [Mg.head, Mg.cells, Rq.zero, Vt.zero]; go_simp) ?_
  refine wv (.pointer (some ⟨w.heap.size + 1 + 1, 0, none⟩)) (V) (by have e := HV.out; simp only [Vz] at e; rw [HWL.out, e]; go_simp) ?_
  refine wpList_store_mid rfl 37 (.tmp 3) (.tmp 12) rfl (w.heap.size + 1 + 1) 0 m.head.cells.toArray rfl rfl HTH.out size37 (all_oneCell_toArray m.head.one) ?_
  dsimp only
  rw [← HU.out]
  clear HTH HV HWL HU q0 q1 q2 q3
  have kk : U.cell? ⟨w.heap.size, 0, none⟩ = some (.int .u8 m.k) := HM0.out.cell 0
  rw [HKK.out] at kk ⊢
  have q12 : U.cell? ⟨w.heap.size, 12, none⟩ = some (.int .u8 m.ct) := HM0.out.cell 12
  have c12 : U.cell? ⟨w.heap.size + 1 + 1, 12, none⟩ = some (.int .u8 0) := HM0.out.there 12
  have f12 : U.frozen? ⟨w.heap.size + 1 + 1, 12, none⟩ = false := HM0.out.free 12
  obtain ⟨wr, hwr⟩ : ∃ wr, wr = (U.setCell ⟨w.heap.size + 1 + 1, 12, none⟩ (.int .u8 m.ct)) := ⟨_, rfl⟩
  have M1 : Mem w wr w.heap.size m (m.head.cells.toArray.setIfInBounds 12 (.int .u8 m.ct)) := by rw [hwr]; exact (HM0.out.set 12 (.int .u8 m.ct))
  have hX : (m.head.cells.toArray.setIfInBounds 12 (.int .u8 m.ct)) = B.cells.toArray := by rw [HBB.out]; rfl
  rw [hX] at M1
  have HMm := Lib.hid M1
  have HWR := Lib.hid hwr
  clear M1 hX hwr HM0 HBB
  generalize m.head.cells.toArray = A2 at *
  all_goals
    go_upto_region 28 with fail
    rw [← HWR.out]
    clear HWR kk q12 c12 f12
    obtain ⟨w2, hw2, hth, hbel, hblk⟩ := bare_post B HMm.out
    have HT := Lib.hid hth
    have HMade := Lib.hid HMm.out.made
    have HBEL := Lib.hid hbel
    have HBLK := Lib.hid hblk
    have HW2 := Lib.hid hw2
    clear hth hbel hblk hw2
    refine wp_region_lit ?_
    refine wpList_load_row rfl 37 (.tmp 3) rfl (w.heap.size + 1 + 1) rfl 37 _ (0, 0) _ HMade.out Tryz.underlying37 rfl size37 ?_
    refine wpList_store_mid rfl 37 (.tmp 2) (.tmp 106) rfl (w.heap.size + 1) 0 B.cells.toArray rfl rfl HT.out size37 (all_oneCell_toArray B.one) ?_
    dsimp only
    rw [← HW2.out]
    go_wp2_with fail
    (try simp only [Exit.inBlock, Exit.then])
    refine bodyPost_ret (results_cell_row (P := Tryz.prog) rfl _ _ (w.heap.size + 1) 37 _ (0, 0) _ rfl HBLK.out Tryz.underlying37 rfl size37) rfl ?_
    exact ⟨rfl, HBEL.out⟩

set_option maxHeartbeats 8000000 in
theorem refBare_k9 (w : World) (m : Mg) (hk : m.k = 9) :
    Calls Tryz.prog 35 #[.agg m.cells.toArray] w fun e w' => e = .returned (.agg (m.bare [4]).cells.toArray) ∧ Below w.heap.size w w' := by
  obtain ⟨B, hB⟩ : ∃ B, B = m.bare [4] := ⟨_, rfl⟩
  rw [← hB]
  have HBB := Lib.hid hB
  have HKK := Lib.hid hk
  clear hB hk
  obtain ⟨W, V, U, hW, hV, hU, q0, q1, q2, q3, M0, hth, hwl⟩ := bare_pre w m
  have HM0 := Lib.hid M0
  have HTH := Lib.hid hth
  have HW := Lib.hid hW
  have HV := Lib.hid hV
  have HU := Lib.hid hU
  have HWL := Lib.hid hwl
  clear M0 hW hU hth hV hwl
  simp only [Mg.cells, Vz] at HW ⊢
  go_enter Tryz.func35, Tryz.ntmps35
  go_upto_region 1 with fail
  rw [← HW.out]
  have eA := mgA m
  rw [eA]
  clear eA HW
  generalize m.cells.toArray = A
  refine wp_region_lit ?_
  refine wv (.pointer (some ⟨w.heap.size, 0, none⟩)) (W) (by go_simp) ?_
  refine wv (.int .u8 m.k) (W) (by go_simp) ?_
  refine wv (.pointer (some ⟨w.heap.size, 1, none⟩)) (W) (by go_simp) ?_
  refine wv (.int .u8 m.f) (W) (by go_simp) ?_
  refine wv (.pointer (some ⟨w.heap.size, 2, none⟩)) (W) (by go_simp) ?_
  refine wv (.int .u8 m.t) (W) (by go_simp) ?_
  refine wv (.pointer (some ⟨w.heap.size, 3, none⟩)) (W) (by go_simp) ?_
  refine wv (.int .u8 m.e) (W) (by go_simp) ?_
  refine wv (.agg m.head.cells.toArray) (W) (by simp only [Mg.head, Mg.cells, Rq.zero, Vt.zero]; go_simp) ?_
  refine wv (.pointer (some ⟨w.heap.size + 1 + 1, 0, none⟩)) (V) (by have e := HV.out; simp only [Vz] at e; rw [HWL.out, e]; go_simp) ?_
  refine wpList_store_mid rfl 37 (.tmp 3) (.tmp 12) rfl (w.heap.size + 1 + 1) 0 m.head.cells.toArray rfl rfl HTH.out size37 (all_oneCell_toArray m.head.one) ?_
  dsimp only
  rw [← HU.out]
  clear HTH HV HWL HU q0 q1 q2 q3
  have kk : U.cell? ⟨w.heap.size, 0, none⟩ = some (.int .u8 m.k) := HM0.out.cell 0
  rw [HKK.out] at kk ⊢
  have q12 : U.cell? ⟨w.heap.size, 12, none⟩ = some (.int .u8 m.ct) := HM0.out.cell 12
  have c12 : U.cell? ⟨w.heap.size + 1 + 1, 12, none⟩ = some (.int .u8 0) := HM0.out.there 12
  have f12 : U.frozen? ⟨w.heap.size + 1 + 1, 12, none⟩ = false := HM0.out.free 12
  obtain ⟨wr, hwr⟩ : ∃ wr, wr = (U.setCell ⟨w.heap.size + 1 + 1, 12, none⟩ (.int .u8 m.ct)) := ⟨_, rfl⟩
  have M1 : Mem w wr w.heap.size m (m.head.cells.toArray.setIfInBounds 12 (.int .u8 m.ct)) := by rw [hwr]; exact (HM0.out.set 12 (.int .u8 m.ct))
  have hX : (m.head.cells.toArray.setIfInBounds 12 (.int .u8 m.ct)) = B.cells.toArray := by rw [HBB.out]; rfl
  rw [hX] at M1
  have HMm := Lib.hid M1
  have HWR := Lib.hid hwr
  clear M1 hX hwr HM0 HBB
  generalize m.head.cells.toArray = A2 at *
  all_goals
    go_upto_region 28 with fail
    rw [← HWR.out]
    clear HWR kk q12 c12 f12
    obtain ⟨w2, hw2, hth, hbel, hblk⟩ := bare_post B HMm.out
    have HT := Lib.hid hth
    have HMade := Lib.hid HMm.out.made
    have HBEL := Lib.hid hbel
    have HBLK := Lib.hid hblk
    have HW2 := Lib.hid hw2
    clear hth hbel hblk hw2
    refine wp_region_lit ?_
    refine wpList_load_row rfl 37 (.tmp 3) rfl (w.heap.size + 1 + 1) rfl 37 _ (0, 0) _ HMade.out Tryz.underlying37 rfl size37 ?_
    refine wpList_store_mid rfl 37 (.tmp 2) (.tmp 106) rfl (w.heap.size + 1) 0 B.cells.toArray rfl rfl HT.out size37 (all_oneCell_toArray B.one) ?_
    dsimp only
    rw [← HW2.out]
    go_wp2_with fail
    (try simp only [Exit.inBlock, Exit.then])
    refine bodyPost_ret (results_cell_row (P := Tryz.prog) rfl _ _ (w.heap.size + 1) 37 _ (0, 0) _ rfl HBLK.out Tryz.underlying37 rfl size37) rfl ?_
    exact ⟨rfl, HBEL.out⟩

set_option maxHeartbeats 8000000 in
theorem refBare_k10 (w : World) (m : Mg) (hk : m.k = 10) :
    Calls Tryz.prog 35 #[.agg m.cells.toArray] w fun e w' => e = .returned (.agg (m.bare [4, 1]).cells.toArray) ∧ Below w.heap.size w w' := by
  obtain ⟨B, hB⟩ : ∃ B, B = m.bare [4, 1] := ⟨_, rfl⟩
  rw [← hB]
  have HBB := Lib.hid hB
  have HKK := Lib.hid hk
  clear hB hk
  obtain ⟨W, V, U, hW, hV, hU, q0, q1, q2, q3, M0, hth, hwl⟩ := bare_pre w m
  have HM0 := Lib.hid M0
  have HTH := Lib.hid hth
  have HW := Lib.hid hW
  have HV := Lib.hid hV
  have HU := Lib.hid hU
  have HWL := Lib.hid hwl
  clear M0 hW hU hth hV hwl
  simp only [Mg.cells, Vz] at HW ⊢
  go_enter Tryz.func35, Tryz.ntmps35
  go_upto_region 1 with fail
  rw [← HW.out]
  have eA := mgA m
  rw [eA]
  clear eA HW
  generalize m.cells.toArray = A
  refine wp_region_lit ?_
  refine wv (.pointer (some ⟨w.heap.size, 0, none⟩)) (W) (by go_simp) ?_
  refine wv (.int .u8 m.k) (W) (by go_simp) ?_
  refine wv (.pointer (some ⟨w.heap.size, 1, none⟩)) (W) (by go_simp) ?_
  refine wv (.int .u8 m.f) (W) (by go_simp) ?_
  refine wv (.pointer (some ⟨w.heap.size, 2, none⟩)) (W) (by go_simp) ?_
  refine wv (.int .u8 m.t) (W) (by go_simp) ?_
  refine wv (.pointer (some ⟨w.heap.size, 3, none⟩)) (W) (by go_simp) ?_
  refine wv (.int .u8 m.e) (W) (by go_simp) ?_
  refine wv (.agg m.head.cells.toArray) (W) (by simp only [Mg.head, Mg.cells, Rq.zero, Vt.zero]; go_simp) ?_
  refine wv (.pointer (some ⟨w.heap.size + 1 + 1, 0, none⟩)) (V) (by have e := HV.out; simp only [Vz] at e; rw [HWL.out, e]; go_simp) ?_
  refine wpList_store_mid rfl 37 (.tmp 3) (.tmp 12) rfl (w.heap.size + 1 + 1) 0 m.head.cells.toArray rfl rfl HTH.out size37 (all_oneCell_toArray m.head.one) ?_
  dsimp only
  rw [← HU.out]
  clear HTH HV HWL HU q0 q1 q2 q3
  have kk : U.cell? ⟨w.heap.size, 0, none⟩ = some (.int .u8 m.k) := HM0.out.cell 0
  rw [HKK.out] at kk ⊢
  have q12 : U.cell? ⟨w.heap.size, 12, none⟩ = some (.int .u8 m.ct) := HM0.out.cell 12
  have c12 : U.cell? ⟨w.heap.size + 1 + 1, 12, none⟩ = some (.int .u8 0) := HM0.out.there 12
  have f12 : U.frozen? ⟨w.heap.size + 1 + 1, 12, none⟩ = false := HM0.out.free 12
  have q5 : U.cell? ⟨w.heap.size, 5, none⟩ = some (.int .u32 m.sq) := HM0.out.cell 5
  have c5 : U.cell? ⟨w.heap.size + 1 + 1, 5, none⟩ = some (.int .u32 0) := HM0.out.there 5
  have f5 : U.frozen? ⟨w.heap.size + 1 + 1, 5, none⟩ = false := HM0.out.free 5
  obtain ⟨wr, hwr⟩ : ∃ wr, wr = (((U.setCell ⟨w.heap.size + 1 + 1, 12, none⟩ (.int .u8 m.ct)).setCell ⟨w.heap.size + 1 + 1, 5, none⟩ (.int .u32 m.sq))).drew := ⟨_, rfl⟩
  have M1 : Mem w wr w.heap.size m ((m.head.cells.toArray.setIfInBounds 12 (.int .u8 m.ct)).setIfInBounds 5 (.int .u32 m.sq)) := by rw [hwr]; exact (have q := ((HM0.out.set 12 (.int .u8 m.ct)).set 5 (.int .u32 m.sq)); ⟨q.box, q.res, q.made, q.bel.drew, q.hg⟩)
  have hX : ((m.head.cells.toArray.setIfInBounds 12 (.int .u8 m.ct)).setIfInBounds 5 (.int .u32 m.sq)) = B.cells.toArray := by rw [HBB.out]; rfl
  rw [hX] at M1
  have HMm := Lib.hid M1
  have HWR := Lib.hid hwr
  clear M1 hX hwr HM0 HBB
  generalize m.head.cells.toArray = A2 at *
  go_upto_region 19 with fail
  go_region
  all_goals
    go_upto_region 28 with fail
    rw [← HWR.out]
    clear HWR kk q12 c12 f12 q5 c5 f5
    obtain ⟨w2, hw2, hth, hbel, hblk⟩ := bare_post B HMm.out
    have HT := Lib.hid hth
    have HMade := Lib.hid HMm.out.made
    have HBEL := Lib.hid hbel
    have HBLK := Lib.hid hblk
    have HW2 := Lib.hid hw2
    clear hth hbel hblk hw2
    refine wp_region_lit ?_
    refine wpList_load_row rfl 37 (.tmp 3) rfl (w.heap.size + 1 + 1) rfl 37 _ (0, 0) _ HMade.out Tryz.underlying37 rfl size37 ?_
    refine wpList_store_mid rfl 37 (.tmp 2) (.tmp 106) rfl (w.heap.size + 1) 0 B.cells.toArray rfl rfl HT.out size37 (all_oneCell_toArray B.one) ?_
    dsimp only
    rw [← HW2.out]
    go_wp2_with fail
    (try simp only [Exit.inBlock, Exit.then])
    refine bodyPost_ret (results_cell_row (P := Tryz.prog) rfl _ _ (w.heap.size + 1) 37 _ (0, 0) _ rfl HBLK.out Tryz.underlying37 rfl size37) rfl ?_
    exact ⟨rfl, HBEL.out⟩

set_option maxHeartbeats 8000000 in
theorem refBare_k11 (w : World) (m : Mg) (hk : m.k = 11) :
    Calls Tryz.prog 35 #[.agg m.cells.toArray] w fun e w' => e = .returned (.agg (m.bare [1, 5]).cells.toArray) ∧ Below w.heap.size w w' := by
  obtain ⟨B, hB⟩ : ∃ B, B = m.bare [1, 5] := ⟨_, rfl⟩
  rw [← hB]
  have HBB := Lib.hid hB
  have HKK := Lib.hid hk
  clear hB hk
  obtain ⟨W, V, U, hW, hV, hU, q0, q1, q2, q3, M0, hth, hwl⟩ := bare_pre w m
  have HM0 := Lib.hid M0
  have HTH := Lib.hid hth
  have HW := Lib.hid hW
  have HV := Lib.hid hV
  have HU := Lib.hid hU
  have HWL := Lib.hid hwl
  clear M0 hW hU hth hV hwl
  simp only [Mg.cells, Vz] at HW ⊢
  go_enter Tryz.func35, Tryz.ntmps35
  go_upto_region 1 with fail
  rw [← HW.out]
  have eA := mgA m
  rw [eA]
  clear eA HW
  generalize m.cells.toArray = A
  refine wp_region_lit ?_
  refine wv (.pointer (some ⟨w.heap.size, 0, none⟩)) (W) (by go_simp) ?_
  refine wv (.int .u8 m.k) (W) (by go_simp) ?_
  refine wv (.pointer (some ⟨w.heap.size, 1, none⟩)) (W) (by go_simp) ?_
  refine wv (.int .u8 m.f) (W) (by go_simp) ?_
  refine wv (.pointer (some ⟨w.heap.size, 2, none⟩)) (W) (by go_simp) ?_
  refine wv (.int .u8 m.t) (W) (by go_simp) ?_
  refine wv (.pointer (some ⟨w.heap.size, 3, none⟩)) (W) (by go_simp) ?_
  refine wv (.int .u8 m.e) (W) (by go_simp) ?_
  refine wv (.agg m.head.cells.toArray) (W) (by simp only [Mg.head, Mg.cells, Rq.zero, Vt.zero]; go_simp) ?_
  refine wv (.pointer (some ⟨w.heap.size + 1 + 1, 0, none⟩)) (V) (by have e := HV.out; simp only [Vz] at e; rw [HWL.out, e]; go_simp) ?_
  refine wpList_store_mid rfl 37 (.tmp 3) (.tmp 12) rfl (w.heap.size + 1 + 1) 0 m.head.cells.toArray rfl rfl HTH.out size37 (all_oneCell_toArray m.head.one) ?_
  dsimp only
  rw [← HU.out]
  clear HTH HV HWL HU q0 q1 q2 q3
  have kk : U.cell? ⟨w.heap.size, 0, none⟩ = some (.int .u8 m.k) := HM0.out.cell 0
  rw [HKK.out] at kk ⊢
  have q5 : U.cell? ⟨w.heap.size, 5, none⟩ = some (.int .u32 m.sq) := HM0.out.cell 5
  have c5 : U.cell? ⟨w.heap.size + 1 + 1, 5, none⟩ = some (.int .u32 0) := HM0.out.there 5
  have f5 : U.frozen? ⟨w.heap.size + 1 + 1, 5, none⟩ = false := HM0.out.free 5
  have q13 : U.cell? ⟨w.heap.size, 13, none⟩ = some (.int .u8 m.pg) := HM0.out.cell 13
  have c13 : U.cell? ⟨w.heap.size + 1 + 1, 13, none⟩ = some (.int .u8 0) := HM0.out.there 13
  have f13 : U.frozen? ⟨w.heap.size + 1 + 1, 13, none⟩ = false := HM0.out.free 13
  obtain ⟨wr, hwr⟩ : ∃ wr, wr = (((U.setCell ⟨w.heap.size + 1 + 1, 5, none⟩ (.int .u32 m.sq)).setCell ⟨w.heap.size + 1 + 1, 13, none⟩ (.int .u8 m.pg))).drew := ⟨_, rfl⟩
  have M1 : Mem w wr w.heap.size m ((m.head.cells.toArray.setIfInBounds 5 (.int .u32 m.sq)).setIfInBounds 13 (.int .u8 m.pg)) := by rw [hwr]; exact (have q := ((HM0.out.set 5 (.int .u32 m.sq)).set 13 (.int .u8 m.pg)); ⟨q.box, q.res, q.made, q.bel.drew, q.hg⟩)
  have hX : ((m.head.cells.toArray.setIfInBounds 5 (.int .u32 m.sq)).setIfInBounds 13 (.int .u8 m.pg)) = B.cells.toArray := by rw [HBB.out]; rfl
  rw [hX] at M1
  have HMm := Lib.hid M1
  have HWR := Lib.hid hwr
  clear M1 hX hwr HM0 HBB
  generalize m.head.cells.toArray = A2 at *
  go_upto_region 21 with fail
  go_region
  all_goals
    go_upto_region 28 with fail
    rw [← HWR.out]
    clear HWR kk q5 c5 f5 q13 c13 f13
    obtain ⟨w2, hw2, hth, hbel, hblk⟩ := bare_post B HMm.out
    have HT := Lib.hid hth
    have HMade := Lib.hid HMm.out.made
    have HBEL := Lib.hid hbel
    have HBLK := Lib.hid hblk
    have HW2 := Lib.hid hw2
    clear hth hbel hblk hw2
    refine wp_region_lit ?_
    refine wpList_load_row rfl 37 (.tmp 3) rfl (w.heap.size + 1 + 1) rfl 37 _ (0, 0) _ HMade.out Tryz.underlying37 rfl size37 ?_
    refine wpList_store_mid rfl 37 (.tmp 2) (.tmp 106) rfl (w.heap.size + 1) 0 B.cells.toArray rfl rfl HT.out size37 (all_oneCell_toArray B.one) ?_
    dsimp only
    rw [← HW2.out]
    go_wp2_with fail
    (try simp only [Exit.inBlock, Exit.then])
    refine bodyPost_ret (results_cell_row (P := Tryz.prog) rfl _ _ (w.heap.size + 1) 37 _ (0, 0) _ rfl HBLK.out Tryz.underlying37 rfl size37) rfl ?_
    exact ⟨rfl, HBEL.out⟩

set_option maxHeartbeats 8000000 in
theorem refBare_k12 (w : World) (m : Mg) (hk : m.k = 12) :
    Calls Tryz.prog 35 #[.agg m.cells.toArray] w fun e w' => e = .returned (.agg (m.bare [1, 9]).cells.toArray) ∧ Below w.heap.size w w' := by
  obtain ⟨B, hB⟩ : ∃ B, B = m.bare [1, 9] := ⟨_, rfl⟩
  rw [← hB]
  have HBB := Lib.hid hB
  have HKK := Lib.hid hk
  clear hB hk
  obtain ⟨W, V, U, hW, hV, hU, q0, q1, q2, q3, M0, hth, hwl⟩ := bare_pre w m
  have HM0 := Lib.hid M0
  have HTH := Lib.hid hth
  have HW := Lib.hid hW
  have HV := Lib.hid hV
  have HU := Lib.hid hU
  have HWL := Lib.hid hwl
  clear M0 hW hU hth hV hwl
  simp only [Mg.cells, Vz] at HW ⊢
  go_enter Tryz.func35, Tryz.ntmps35
  go_upto_region 1 with fail
  rw [← HW.out]
  have eA := mgA m
  rw [eA]
  clear eA HW
  generalize m.cells.toArray = A
  refine wp_region_lit ?_
  refine wv (.pointer (some ⟨w.heap.size, 0, none⟩)) (W) (by go_simp) ?_
  refine wv (.int .u8 m.k) (W) (by go_simp) ?_
  refine wv (.pointer (some ⟨w.heap.size, 1, none⟩)) (W) (by go_simp) ?_
  refine wv (.int .u8 m.f) (W) (by go_simp) ?_
  refine wv (.pointer (some ⟨w.heap.size, 2, none⟩)) (W) (by go_simp) ?_
  refine wv (.int .u8 m.t) (W) (by go_simp) ?_
  refine wv (.pointer (some ⟨w.heap.size, 3, none⟩)) (W) (by go_simp) ?_
  refine wv (.int .u8 m.e) (W) (by go_simp) ?_
  refine wv (.agg m.head.cells.toArray) (W) (by simp only [Mg.head, Mg.cells, Rq.zero, Vt.zero]; go_simp) ?_
  refine wv (.pointer (some ⟨w.heap.size + 1 + 1, 0, none⟩)) (V) (by have e := HV.out; simp only [Vz] at e; rw [HWL.out, e]; go_simp) ?_
  refine wpList_store_mid rfl 37 (.tmp 3) (.tmp 12) rfl (w.heap.size + 1 + 1) 0 m.head.cells.toArray rfl rfl HTH.out size37 (all_oneCell_toArray m.head.one) ?_
  dsimp only
  rw [← HU.out]
  clear HTH HV HWL HU q0 q1 q2 q3
  have kk : U.cell? ⟨w.heap.size, 0, none⟩ = some (.int .u8 m.k) := HM0.out.cell 0
  rw [HKK.out] at kk ⊢
  have q5 : U.cell? ⟨w.heap.size, 5, none⟩ = some (.int .u32 m.sq) := HM0.out.cell 5
  have c5 : U.cell? ⟨w.heap.size + 1 + 1, 5, none⟩ = some (.int .u32 0) := HM0.out.there 5
  have f5 : U.frozen? ⟨w.heap.size + 1 + 1, 5, none⟩ = false := HM0.out.free 5
  have q23 : U.cell? ⟨w.heap.size, 23, none⟩ = some (.slice m.sm.a m.sm.n m.sm.c) := HM0.out.cell 23
  have c23 : U.cell? ⟨w.heap.size + 1 + 1, 23, none⟩ = some (.slice none 0 0) := HM0.out.there 23
  have f23 : U.frozen? ⟨w.heap.size + 1 + 1, 23, none⟩ = false := HM0.out.free 23
  obtain ⟨wr, hwr⟩ : ∃ wr, wr = (((U.setCell ⟨w.heap.size + 1 + 1, 5, none⟩ (.int .u32 m.sq)).setCell ⟨w.heap.size + 1 + 1, 23, none⟩ (.slice m.sm.a m.sm.n m.sm.c))).drew := ⟨_, rfl⟩
  have M1 : Mem w wr w.heap.size m ((m.head.cells.toArray.setIfInBounds 5 (.int .u32 m.sq)).setIfInBounds 23 (.slice m.sm.a m.sm.n m.sm.c)) := by rw [hwr]; exact (have q := ((HM0.out.set 5 (.int .u32 m.sq)).set 23 (.slice m.sm.a m.sm.n m.sm.c)); ⟨q.box, q.res, q.made, q.bel.drew, q.hg⟩)
  have hX : ((m.head.cells.toArray.setIfInBounds 5 (.int .u32 m.sq)).setIfInBounds 23 (.slice m.sm.a m.sm.n m.sm.c)) = B.cells.toArray := by rw [HBB.out]; rfl
  rw [hX] at M1
  have HMm := Lib.hid M1
  have HWR := Lib.hid hwr
  clear M1 hX hwr HM0 HBB
  generalize m.head.cells.toArray = A2 at *
  go_upto_region 23 with fail
  go_region
  all_goals
    go_upto_region 28 with fail
    rw [← HWR.out]
    clear HWR kk q5 c5 f5 q23 c23 f23
    obtain ⟨w2, hw2, hth, hbel, hblk⟩ := bare_post B HMm.out
    have HT := Lib.hid hth
    have HMade := Lib.hid HMm.out.made
    have HBEL := Lib.hid hbel
    have HBLK := Lib.hid hblk
    have HW2 := Lib.hid hw2
    clear hth hbel hblk hw2
    refine wp_region_lit ?_
    refine wpList_load_row rfl 37 (.tmp 3) rfl (w.heap.size + 1 + 1) rfl 37 _ (0, 0) _ HMade.out Tryz.underlying37 rfl size37 ?_
    refine wpList_store_mid rfl 37 (.tmp 2) (.tmp 106) rfl (w.heap.size + 1) 0 B.cells.toArray rfl rfl HT.out size37 (all_oneCell_toArray B.one) ?_
    dsimp only
    rw [← HW2.out]
    go_wp2_with fail
    (try simp only [Exit.inBlock, Exit.then])
    refine bodyPost_ret (results_cell_row (P := Tryz.prog) rfl _ _ (w.heap.size + 1) 37 _ (0, 0) _ rfl HBLK.out Tryz.underlying37 rfl size37) rfl ?_
    exact ⟨rfl, HBEL.out⟩

set_option maxHeartbeats 8000000 in
theorem refBare_k13 (w : World) (m : Mg) (hk : m.k = 13) :
    Calls Tryz.prog 35 #[.agg m.cells.toArray] w fun e w' => e = .returned (.agg (m.bare [1, 5, 10]).cells.toArray) ∧ Below w.heap.size w w' := by
  obtain ⟨B, hB⟩ : ∃ B, B = m.bare [1, 5, 10] := ⟨_, rfl⟩
  rw [← hB]
  have HBB := Lib.hid hB
  have HKK := Lib.hid hk
  clear hB hk
  obtain ⟨W, V, U, hW, hV, hU, q0, q1, q2, q3, M0, hth, hwl⟩ := bare_pre w m
  have HM0 := Lib.hid M0
  have HTH := Lib.hid hth
  have HW := Lib.hid hW
  have HV := Lib.hid hV
  have HU := Lib.hid hU
  have HWL := Lib.hid hwl
  clear M0 hW hU hth hV hwl
  simp only [Mg.cells, Vz] at HW ⊢
  go_enter Tryz.func35, Tryz.ntmps35
  go_upto_region 1 with fail
  rw [← HW.out]
  have eA := mgA m
  rw [eA]
  clear eA HW
  generalize m.cells.toArray = A
  refine wp_region_lit ?_
  refine wv (.pointer (some ⟨w.heap.size, 0, none⟩)) (W) (by go_simp) ?_
  refine wv (.int .u8 m.k) (W) (by go_simp) ?_
  refine wv (.pointer (some ⟨w.heap.size, 1, none⟩)) (W) (by go_simp) ?_
  refine wv (.int .u8 m.f) (W) (by go_simp) ?_
  refine wv (.pointer (some ⟨w.heap.size, 2, none⟩)) (W) (by go_simp) ?_
  refine wv (.int .u8 m.t) (W) (by go_simp) ?_
  refine wv (.pointer (some ⟨w.heap.size, 3, none⟩)) (W) (by go_simp) ?_
  refine wv (.int .u8 m.e) (W) (by go_simp) ?_
  refine wv (.agg m.head.cells.toArray) (W) (by simp only [Mg.head, Mg.cells, Rq.zero, Vt.zero]; go_simp) ?_
  refine wv (.pointer (some ⟨w.heap.size + 1 + 1, 0, none⟩)) (V) (by have e := HV.out; simp only [Vz] at e; rw [HWL.out, e]; go_simp) ?_
  refine wpList_store_mid rfl 37 (.tmp 3) (.tmp 12) rfl (w.heap.size + 1 + 1) 0 m.head.cells.toArray rfl rfl HTH.out size37 (all_oneCell_toArray m.head.one) ?_
  dsimp only
  rw [← HU.out]
  clear HTH HV HWL HU q0 q1 q2 q3
  have kk : U.cell? ⟨w.heap.size, 0, none⟩ = some (.int .u8 m.k) := HM0.out.cell 0
  rw [HKK.out] at kk ⊢
  have q5 : U.cell? ⟨w.heap.size, 5, none⟩ = some (.int .u32 m.sq) := HM0.out.cell 5
  have c5 : U.cell? ⟨w.heap.size + 1 + 1, 5, none⟩ = some (.int .u32 0) := HM0.out.there 5
  have f5 : U.frozen? ⟨w.heap.size + 1 + 1, 5, none⟩ = false := HM0.out.free 5
  have q13 : U.cell? ⟨w.heap.size, 13, none⟩ = some (.int .u8 m.pg) := HM0.out.cell 13
  have c13 : U.cell? ⟨w.heap.size + 1 + 1, 13, none⟩ = some (.int .u8 0) := HM0.out.there 13
  have f13 : U.frozen? ⟨w.heap.size + 1 + 1, 13, none⟩ = false := HM0.out.free 13
  have q24 : U.cell? ⟨w.heap.size, 24, none⟩ = some (.slice m.dt.a m.dt.n m.dt.c) := HM0.out.cell 24
  have c24 : U.cell? ⟨w.heap.size + 1 + 1, 24, none⟩ = some (.slice none 0 0) := HM0.out.there 24
  have f24 : U.frozen? ⟨w.heap.size + 1 + 1, 24, none⟩ = false := HM0.out.free 24
  obtain ⟨wr, hwr⟩ : ∃ wr, wr = ((((U.setCell ⟨w.heap.size + 1 + 1, 5, none⟩ (.int .u32 m.sq)).setCell ⟨w.heap.size + 1 + 1, 13, none⟩ (.int .u8 m.pg)).setCell ⟨w.heap.size + 1 + 1, 24, none⟩ (.slice m.dt.a m.dt.n m.dt.c))).drew := ⟨_, rfl⟩
  have M1 : Mem w wr w.heap.size m (((m.head.cells.toArray.setIfInBounds 5 (.int .u32 m.sq)).setIfInBounds 13 (.int .u8 m.pg)).setIfInBounds 24 (.slice m.dt.a m.dt.n m.dt.c)) := by rw [hwr]; exact (have q := (((HM0.out.set 5 (.int .u32 m.sq)).set 13 (.int .u8 m.pg)).set 24 (.slice m.dt.a m.dt.n m.dt.c)); ⟨q.box, q.res, q.made, q.bel.drew, q.hg⟩)
  have hX : (((m.head.cells.toArray.setIfInBounds 5 (.int .u32 m.sq)).setIfInBounds 13 (.int .u8 m.pg)).setIfInBounds 24 (.slice m.dt.a m.dt.n m.dt.c)) = B.cells.toArray := by rw [HBB.out]; rfl
  rw [hX] at M1
  have HMm := Lib.hid M1
  have HWR := Lib.hid hwr
  clear M1 hX hwr HM0 HBB
  generalize m.head.cells.toArray = A2 at *
  go_upto_region 25 with fail
  go_region
  all_goals
    go_upto_region 28 with fail
    rw [← HWR.out]
    clear HWR kk q5 c5 f5 q13 c13 f13 q24 c24 f24
    obtain ⟨w2, hw2, hth, hbel, hblk⟩ := bare_post B HMm.out
    have HT := Lib.hid hth
    have HMade := Lib.hid HMm.out.made
    have HBEL := Lib.hid hbel
    have HBLK := Lib.hid hblk
    have HW2 := Lib.hid hw2
    clear hth hbel hblk hw2
    refine wp_region_lit ?_
    refine wpList_load_row rfl 37 (.tmp 3) rfl (w.heap.size + 1 + 1) rfl 37 _ (0, 0) _ HMade.out Tryz.underlying37 rfl size37 ?_
    refine wpList_store_mid rfl 37 (.tmp 2) (.tmp 106) rfl (w.heap.size + 1) 0 B.cells.toArray rfl rfl HT.out size37 (all_oneCell_toArray B.one) ?_
    dsimp only
    rw [← HW2.out]
    go_wp2_with fail
    (try simp only [Exit.inBlock, Exit.then])
    refine bodyPost_ret (results_cell_row (P := Tryz.prog) rfl _ _ (w.heap.size + 1) 37 _ (0, 0) _ rfl HBLK.out Tryz.underlying37 rfl size37) rfl ?_
    exact ⟨rfl, HBEL.out⟩
end Go.Proofs.YtbpfkeeikhhlnaaGreatDoor
