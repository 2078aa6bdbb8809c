/- The walk of KnowVotes. -/
import Derived.Test.YtigpfaecbmnklaaDoorVo8
import Derived.Deep.CutBlock
import Derived.Deep.CutRange
import Derived.Maps.AppendAt
namespace Go.Proofs.YtigpfaecbmnklaaDoor
open Go.RowKit Go.Maps
set_option maxRecDepth 100000

set_option maxHeartbeats 16000000 in
theorem kv_walk (a0 a1 : Int) (_h0 : 0 ≤ a0 ∧ a0 ≤ 255) (_h1 : 0 ≤ a1 ∧ a1 ≤ 255) (w : World) (ht : Tab w) : Calls Tryd.prog 8 #[.int .u8 a0, .int .u8 a1] w fun e w' => e = .returned (.bool true) ∧ Below w.heap.size w w' := by
  have HT := Lib.hid (fun w' (h : Below w.heap.size w w') => Tab.on ht h)
  have CK := Lib.hid (known17 w ht)
  obtain ⟨i0, hinfo⟩ := info_parts info32
  have HINFO := Lib.hid hinfo
  clear hinfo
  clear ht
  go_enter Tryd.func8, Tryd.ntmps8
  go_wp2_with fail
  refine Calls.mono CK.out ?_
  rintro e w1 ⟨rfl, hb1⟩
  have B1 := Lib.hid hb1
  clear hb1 CK
  go_wp2_with fail
  refine Calls.mono (new18 _) ?_
  rintro e w2 ⟨rfl, hw2⟩
  have hk2 : Kw w.heap.size w2 w1.heap.size Kn.none := by rw [hw2]; exact kw_new w1 _ B1.out.size
  have hb2 : Below w.heap.size w w2 := by rw [hw2]; exact B1.out.alloc B1.out.size _
  have HK2 := Lib.hid hk2
  have B2 := Lib.hid hb2
  clear hw2 hk2 hb2
  obtain ⟨B, hB⟩ : ∃ B, w1.heap.size = B := ⟨_, rfl⟩
  rw [hB] at HK2 ⊢
  clear hB B1
  obtain ⟨U, hU⟩ : ∃ U, U = (w2.alloc (.cells Vz.toArray 37)).setCells w2.heap.size 0 (nV ⟨none, 0, 0⟩).cells := ⟨_, rfl⟩
  obtain ⟨hbx, hbu, hth⟩ := msg_new w2 _ hU
  have HTH := Lib.hid hth
  have HU := Lib.hid hU
  have L0 : Hid (LayV w U B w2.heap.size 0 Kn.none) := Lib.hid ⟨none, 0, hbx, ⟨rfl, .inl ⟨rfl, rfl⟩⟩, (fun g e => by cases e), HK2.out.on hbu, B2.out.trans (hbu.mono B2.out.size), B2.out.size, HK2.out.lt⟩
  clear hU hbx hbu hth
  go_upto_region 4 with fail
  refine wp_region_lit ?_
  refine wpl_val (v := .agg (nV ⟨none, 0, 0⟩).cells.toArray) (w1 := w2) rfl (by simp only [nV, hm, Mg.cells, Rq.zero, Vt.zero]; go_simp) _ rfl ?_
  refine wpl_val (v := .pointer (some ⟨w2.heap.size, 0, none⟩)) (w1 := w2.alloc (.cells Vz.toArray 37)) rfl (by simp only [Vz]; go_simp) _ rfl ?_
  refine wpList_store_mid rfl 37 (.tmp 6) (.tmp 13) rfl w2.heap.size 0 (nV ⟨none, 0, 0⟩).cells.toArray rfl rfl HTH.out size37 (all_oneCell_toArray (Mg.one _)) ?_
  dsimp only
  rw [← HU.out]
  clear HTH HU HK2 B2
  generalize (nV ⟨none, 0, 0⟩).cells.toArray = A0 at *
  obtain ⟨M, hM⟩ : ∃ M, w2.heap.size = M := ⟨_, rfl⟩
  rw [hM] at L0 ⊢
  clear hM
  go_wp2_with fail
  generalize hq0 : bits BinOp.and IntKind.u8 (a0 / 2) 1 = q0
  generalize hq1 : (q0 == 1) = q1
  have HQ : Hid (q1 = hbF a0 1) := Lib.hid (by rw [← hq1, ← hq0]; rfl)
  clear hq0 hq1
  go_loopw [7, 8] (fun vok vi wr => ∃ j : Nat, j ≤ 3 ∧ vi = .int .u8 j ∧ vok = .bool (okJ (hbF a0) (hbF a1) j) ∧ Hid (LayV w wr B M j (stK (hbF a0) (hbF a1) j))) (fun _ i _ => 3 - (intOf i).toNat)
  case atStart => exact ⟨0, by omega, rfl, by rw [HQ.out]; rfl, L0⟩
  case round =>
    obtain ⟨j, hj, rfl, rfl, HL⟩ := hrel
    have hc : j = 0 ∨ j = 1 ∨ j = 2 ∨ j = 3 := by omega
    clear hj L0
    rcases hc with rfl | rfl | rfl | rfl
    · obtain ⟨ao, cap, g1, g2, g3, g4, g5, g6, g7⟩ := HL.out
      obtain ⟨V1, hV1⟩ : ∃ V, V = wr.alloc (.cells (vI 0).cells.toArray 32) := ⟨_, rfl⟩
      have hb1 : Below wr.heap.size wr V1 := by rw [hV1]; exact (Below.refl _ _).alloc (Nat.le_refl _) _
      have hv1 : V1.heap[wr.heap.size]? = some (.cells (vI 0).cells.toArray 32 (0, 0)) := by rw [hV1]; exact heap_alloc_new _ _
      obtain ⟨V2, hV2⟩ : ∃ V, V = V1.alloc (.cells (vI 0).cells.toArray 32) := ⟨_, rfl⟩
      have hb2 : Below V1.heap.size V1 V2 := by rw [hV2]; exact (Below.refl _ _).alloc (Nat.le_refl _) _
      have hb12 := hb1.trans (hb2.mono hb1.size)
      have qm : V1.cell? ⟨M, 22, none⟩ = some (.slice ao 0 cap) := by rw [cell_of_row _ _ _ _ _ _ ((hb1.block _ (lt_of_block g1)).trans g1)]; rfl
      have x0 : V1.cell? ⟨wr.heap.size, 0, none⟩ = some (.int .u8 0) := cell_vt hv1 0
      have x1 : V1.cell? ⟨wr.heap.size, 1, none⟩ = some (.int .u8 1) := cell_vt hv1 1
      have x2 : V1.cell? ⟨wr.heap.size, 2, none⟩ = some (.int .u32 1) := cell_vt hv1 2
      have x3 : V1.cell? ⟨wr.heap.size, 3, none⟩ = some (.int .u32 4) := cell_vt hv1 3
      have x4 : V1.cell? ⟨wr.heap.size, 4, none⟩ = some (.slice none 0 0) := cell_vt hv1 4
      have x5 : V1.cell? ⟨wr.heap.size, 5, none⟩ = some (.slice none 0 0) := cell_vt hv1 5
      have x6 : V1.cell? ⟨wr.heap.size, 6, none⟩ = some (.slice none 0 0) := cell_vt hv1 6
      have G1 := Lib.hid ((hb12.block _ (lt_of_block g1)).trans g1)
      have G2 := Lib.hid (ownV_kept g2 (Kept.ofBelow (S := fun _ => False) hb12) (fun _ _ h => h))
      have G3 := Lib.hid g3
      have G4 := Lib.hid (g4.on hb12)
      have G5 := Lib.hid (g5.trans (hb12.mono g5.size))
      have G6 := Lib.hid g6
      have G7 := Lib.hid g7
      have HGM := Lib.hid (show wr.heap.size ≠ M by have := lt_of_block g1; omega)
      have HGK := Lib.hid (show ∀ k, some k = (Value.slice ao 0 cap).ownBlock → wr.heap.size ≠ k from fun k e => by have := ownV_lt g2 k e; omega)
      have HGB := Lib.hid (show wr.heap.size ≠ B by have := lt_of_block g1; omega)
      have HV12 := Lib.hid ((hb2.block _ (lt_of_block hv1)).trans hv1)
      have NW := Lib.hid (show ∀ jj u, (vI 0).cells[jj]? = some u → V2.cell? ((⟨V1.heap.size, 0, none⟩ : Addr).add jj) = some u by rw [hV2]; exact newsV V1 _ _)
      simp only [vI, Vt.cells] at hV1 hV2
      have HV1 := Lib.hid hV1
      have HV2 := Lib.hid hV2
      obtain ⟨gv, hgv⟩ : ∃ g, g = wr.heap.size := ⟨_, rfl⟩
      rw [← hgv] at x0 x1 x2 x3 x4 x5 x6 HGM HGK HGB HV12
      have HGV := Lib.hid hgv
      clear hV1 hV2 hb1 hv1 hb2 hb12 g1 g2 g3 g4 g5 g6 g7 hgv HL
      obtain ⟨hi, hz0, hz1, hz2⟩ := HINFO.out
      go_upto_region 10 with fail
      rw [← HV1.out, ← HGV.out]
      clear HV1 HGV
      go_wp2_with (first | (at_builtin
                            rw [← HV2.out]
                            refine wpList_append_own_at _ rfl _ _ 33 rfl 0 32 i0 _ 7 88 Tryd.underlying33 hi hz0 hz1 hz2 rfl (by decide) (.slice ao 0 cap) 0 _ rfl G2.out ⟨V1.heap.size, 0, none⟩ 1 1 (vI 0).cells rfl rfl NW.out (by intro u hu; simp [vI, Vt.cells] at hu; (repeat' (rcases hu with rfl | hu)); all_goals first | rfl | (subst hu; rfl)) (by unfold maxLen; omega) (by omega) (Nat.zero_le _) ?_
                            intro v5 w5 ho5 hg5 hn5 hl5
                            obtain ⟨ao5, cap5, rfl⟩ := ownV_form ho5
                            have HO5 := Lib.hid ho5
                            have HG5 := Lib.hid hg5
                            have HL5 := Lib.hid hl5
                            clear ho5 hg5 hn5 hl5
                            refine Hid.out ?_) | go_in)
      refine Lib.hid ?_
      obtain ⟨la1, la2, la3, la4⟩ := LayV.app (j := 0) G1.out G2.out G3.out G4.out G5.out G6.out G7.out HO5.out HG5.out HL5.out
      have HLA : Hid (LayV w (w5.setCell ⟨M, 22, none⟩ (.slice ao5 1 cap5)) B M 1 (stK (hbF a0) (hbF a1) 0)) := Lib.hid la1
      have HVG : Hid ((w5.setCell ⟨M, 22, none⟩ (.slice ao5 1 cap5)).heap[gv]? = some (.cells (vI 0).cells.toArray 32 (0, 0))) := Lib.hid ((la4 gv HGM.out HGK.out (lt_of_block HV12.out)).trans HV12.out)
      clear la1 la4 HO5 HG5 HL5 G1 G2 G3 G4 G5 G6 G7 HV2 NW HV12 qm x0 x1 x2 x3 x4 x5 x6 hi hz0 hz1 hz2
      go_upto_region 11 with fail
      generalize w5.setCell ⟨M, 22, none⟩ (.slice ao5 1 cap5) = X at *
      obtain ⟨ln1, ln2, ln3⟩ := stK_len (hbF a0) (hbF a1) 0
      have eok : okJ (hbF a0) (hbF a1) 1 = (okJ (hbF a0) (hbF a1) 0 && ((bits .and .u8 a0 1 == 1) || (bits .and .u8 a1 1 == 1))) := rfl
      have est : stK (hbF a0) (hbF a1) 1 = if (bits .and .u8 a1 1 == 1) then seeV (if (bits .and .u8 a0 1 == 1) then learnK (stK (hbF a0) (hbF a1) 0) ⟨0, 1⟩ else stK (hbF a0) (hbF a1) 0) (cV 0) Mc.nil else if (bits .and .u8 a0 1 == 1) then learnK (stK (hbF a0) (hbF a1) 0) ⟨0, 1⟩ else stK (hbF a0) (hbF a1) 0 := rfl
      generalize hokb : okJ (hbF a0) (hbF a1) 0 = okb at *
      clear hokb
      generalize hst : stK (hbF a0) (hbF a1) 0 = SJ at *
      clear hst
      have EOK := Lib.hid eok
      have EST := Lib.hid est
      clear eok est la2 la3
      cases ha : (bits .and .u8 a0 1 == 1)
      · rw [ha] at EOK EST
        cases hb : (bits .and .u8 a1 1 == 1)
        · rw [hb] at EOK EST
          have HLF : Hid (LayV w X B M 1 (stK (hbF a0) (hbF a1) 1)) := Lib.hid (by rw [EST.out]; exact HLA.out)
          clear HLA HVG
          cases okb
          · go_wp2_with fail
            go_round
            case rel => exact ⟨1, by omega, rfl, by rw [EOK.out]; rfl, HLF⟩
            case measure => simp [intOf]
          · go_wp2_with fail
            go_round
            case rel => exact ⟨1, by omega, rfl, by rw [EOK.out]; rfl, HLF⟩
            case measure => simp [intOf]
        · rw [hb] at EOK EST
          have CS := Lib.hid (see20k w.heap.size X B SJ HLA.out.kw (cV 0) Mc.nil (cV_at _ _) nil_ok (fun w' h => HT.out w' (HLA.out.bel.trans h)) rfl rfl rfl rfl rfl rfl (by omega) (by omega))
          go_upto_region 14 with fail
          refine wp_region_lit ?_
          refine wpl_val (v := .pointer (some ⟨B, 0, none⟩)) (w1 := X) rfl (by go_simp) _ rfl ?_
          refine wpl_val (v := .int .u8 0) (w1 := X) rfl (by go_simp) _ rfl ?_
          refine wpl_val (v := .agg (vI 0).cells.toArray) (w1 := X) rfl (exec_load 32 (.tmp 9) rfl rfl (vt_load0 HVG.out)) _ rfl ?_
          refine wpl_val (v := .agg (cV 0).cells.toArray) (w1 := X) rfl (by simp only [cV, vI, hm, Mg.cells, Vt.cells, Rq.zero, Vt.zero]; go_simp) _ rfl ?_
          generalize (cV 0).cells.toArray = AC at *
          generalize (vI 0).cells.toArray = AV at *
          go_wp2_with fail
          refine Calls.mono CS.out ?_
          rintro e w7 ⟨rfl, hk7, hs7⟩
          have HLF : Hid (LayV w w7 B M 1 (stK (hbF a0) (hbF a1) 1)) := Lib.hid (by rw [EST.out]; exact HLA.out.step hk7 hs7)
          clear hk7 hs7 CS HLA HVG
          cases okb
          · go_wp2_with fail
            go_round
            case rel => exact ⟨1, by omega, rfl, by rw [EOK.out]; rfl, HLF⟩
            case measure => simp [intOf]
          · go_wp2_with fail
            go_round
            case rel => exact ⟨1, by omega, rfl, by rw [EOK.out]; rfl, HLF⟩
            case measure => simp [intOf]
      · rw [ha] at EOK EST
        have CL := learn19 w.heap.size X B SJ HLA.out.kw ⟨0, 1⟩ (by unfold Ky.ok; simp) (by omega)
        simp only [Ky.cells] at CL
        have CL := Lib.hid CL
        obtain ⟨lk1, lk2, lk3⟩ := learn_len SJ ⟨0, 1⟩
        go_wp2_with fail
        refine Calls.mono CL.out ?_
        rintro e w6 ⟨rfl, hk6, hs6⟩
        have HLA6 := Lib.hid (HLA.out.step hk6 hs6)
        have HVG6 := Lib.hid (hs6.stay _ _ _ _ HGB.out HVG.out)
        clear hk6 hs6 CL HLA HVG
        generalize hlk : learnK SJ ⟨0, 1⟩ = SL at *
        clear hlk
        cases hb : (bits .and .u8 a1 1 == 1)
        · rw [hb] at EOK EST
          have HLF : Hid (LayV w w6 B M 1 (stK (hbF a0) (hbF a1) 1)) := Lib.hid (by rw [EST.out]; exact HLA6.out)
          clear HLA6 HVG6
          cases okb
          · go_wp2_with fail
            go_round
            case rel => exact ⟨1, by omega, rfl, by rw [EOK.out]; rfl, HLF⟩
            case measure => simp [intOf]
          · go_wp2_with fail
            go_round
            case rel => exact ⟨1, by omega, rfl, by rw [EOK.out]; rfl, HLF⟩
            case measure => simp [intOf]
        · rw [hb] at EOK EST
          have CS := Lib.hid (see20k w.heap.size w6 B SL HLA6.out.kw (cV 0) Mc.nil (cV_at _ _) nil_ok (fun w' h => HT.out w' (HLA6.out.bel.trans h)) rfl rfl rfl rfl rfl rfl (by rw [lk2]; omega) (by rw [lk3]; omega))
          go_upto_region 14 with fail
          refine wp_region_lit ?_
          refine wpl_val (v := .pointer (some ⟨B, 0, none⟩)) (w1 := w6) rfl (by go_simp) _ rfl ?_
          refine wpl_val (v := .int .u8 0) (w1 := w6) rfl (by go_simp) _ rfl ?_
          refine wpl_val (v := .agg (vI 0).cells.toArray) (w1 := w6) rfl (exec_load 32 (.tmp 9) rfl rfl (vt_load0 HVG6.out)) _ rfl ?_
          refine wpl_val (v := .agg (cV 0).cells.toArray) (w1 := w6) rfl (by simp only [cV, vI, hm, Mg.cells, Vt.cells, Rq.zero, Vt.zero]; go_simp) _ rfl ?_
          generalize (cV 0).cells.toArray = AC at *
          generalize (vI 0).cells.toArray = AV at *
          go_wp2_with fail
          refine Calls.mono CS.out ?_
          rintro e w7 ⟨rfl, hk7, hs7⟩
          have HLF : Hid (LayV w w7 B M 1 (stK (hbF a0) (hbF a1) 1)) := Lib.hid (by rw [EST.out]; exact HLA6.out.step hk7 hs7)
          clear hk7 hs7 CS HLA6 HVG6
          cases okb
          · go_wp2_with fail
            go_round
            case rel => exact ⟨1, by omega, rfl, by rw [EOK.out]; rfl, HLF⟩
            case measure => simp [intOf]
          · go_wp2_with fail
            go_round
            case rel => exact ⟨1, by omega, rfl, by rw [EOK.out]; rfl, HLF⟩
            case measure => simp [intOf]
    · obtain ⟨ao, cap, g1, g2, g3, g4, g5, g6, g7⟩ := HL.out
      obtain ⟨V1, hV1⟩ : ∃ V, V = wr.alloc (.cells (vI 1).cells.toArray 32) := ⟨_, rfl⟩
      have hb1 : Below wr.heap.size wr V1 := by rw [hV1]; exact (Below.refl _ _).alloc (Nat.le_refl _) _
      have hv1 : V1.heap[wr.heap.size]? = some (.cells (vI 1).cells.toArray 32 (0, 0)) := by rw [hV1]; exact heap_alloc_new _ _
      obtain ⟨V2, hV2⟩ : ∃ V, V = V1.alloc (.cells (vI 1).cells.toArray 32) := ⟨_, rfl⟩
      have hb2 : Below V1.heap.size V1 V2 := by rw [hV2]; exact (Below.refl _ _).alloc (Nat.le_refl _) _
      have hb12 := hb1.trans (hb2.mono hb1.size)
      have qm : V1.cell? ⟨M, 22, none⟩ = some (.slice ao 1 cap) := by rw [cell_of_row _ _ _ _ _ _ ((hb1.block _ (lt_of_block g1)).trans g1)]; rfl
      have x0 : V1.cell? ⟨wr.heap.size, 0, none⟩ = some (.int .u8 1) := cell_vt hv1 0
      have x1 : V1.cell? ⟨wr.heap.size, 1, none⟩ = some (.int .u8 1) := cell_vt hv1 1
      have x2 : V1.cell? ⟨wr.heap.size, 2, none⟩ = some (.int .u32 1) := cell_vt hv1 2
      have x3 : V1.cell? ⟨wr.heap.size, 3, none⟩ = some (.int .u32 4) := cell_vt hv1 3
      have x4 : V1.cell? ⟨wr.heap.size, 4, none⟩ = some (.slice none 0 0) := cell_vt hv1 4
      have x5 : V1.cell? ⟨wr.heap.size, 5, none⟩ = some (.slice none 0 0) := cell_vt hv1 5
      have x6 : V1.cell? ⟨wr.heap.size, 6, none⟩ = some (.slice none 0 0) := cell_vt hv1 6
      have G1 := Lib.hid ((hb12.block _ (lt_of_block g1)).trans g1)
      have G2 := Lib.hid (ownV_kept g2 (Kept.ofBelow (S := fun _ => False) hb12) (fun _ _ h => h))
      have G3 := Lib.hid g3
      have G4 := Lib.hid (g4.on hb12)
      have G5 := Lib.hid (g5.trans (hb12.mono g5.size))
      have G6 := Lib.hid g6
      have G7 := Lib.hid g7
      have HGM := Lib.hid (show wr.heap.size ≠ M by have := lt_of_block g1; omega)
      have HGK := Lib.hid (show ∀ k, some k = (Value.slice ao 1 cap).ownBlock → wr.heap.size ≠ k from fun k e => by have := ownV_lt g2 k e; omega)
      have HGB := Lib.hid (show wr.heap.size ≠ B by have := lt_of_block g1; omega)
      have HV12 := Lib.hid ((hb2.block _ (lt_of_block hv1)).trans hv1)
      have NW := Lib.hid (show ∀ jj u, (vI 1).cells[jj]? = some u → V2.cell? ((⟨V1.heap.size, 0, none⟩ : Addr).add jj) = some u by rw [hV2]; exact newsV V1 _ _)
      simp only [vI, Vt.cells] at hV1 hV2
      have HV1 := Lib.hid hV1
      have HV2 := Lib.hid hV2
      obtain ⟨gv, hgv⟩ : ∃ g, g = wr.heap.size := ⟨_, rfl⟩
      rw [← hgv] at x0 x1 x2 x3 x4 x5 x6 HGM HGK HGB HV12
      have HGV := Lib.hid hgv
      clear hV1 hV2 hb1 hv1 hb2 hb12 g1 g2 g3 g4 g5 g6 g7 hgv HL
      obtain ⟨hi, hz0, hz1, hz2⟩ := HINFO.out
      go_upto_region 10 with fail
      rw [← HV1.out, ← HGV.out]
      clear HV1 HGV
      go_wp2_with (first | (at_builtin
                            rw [← HV2.out]
                            refine wpList_append_own_at _ rfl _ _ 33 rfl 0 32 i0 _ 7 88 Tryd.underlying33 hi hz0 hz1 hz2 rfl (by decide) (.slice ao 1 cap) 1 _ rfl G2.out ⟨V1.heap.size, 0, none⟩ 1 1 (vI 1).cells rfl rfl NW.out (by intro u hu; simp [vI, Vt.cells] at hu; (repeat' (rcases hu with rfl | hu)); all_goals first | rfl | (subst hu; rfl)) (by unfold maxLen; omega) (by omega) (Nat.zero_le _) ?_
                            intro v5 w5 ho5 hg5 hn5 hl5
                            obtain ⟨ao5, cap5, rfl⟩ := ownV_form ho5
                            have HO5 := Lib.hid ho5
                            have HG5 := Lib.hid hg5
                            have HL5 := Lib.hid hl5
                            clear ho5 hg5 hn5 hl5
                            refine Hid.out ?_) | go_in)
      refine Lib.hid ?_
      obtain ⟨la1, la2, la3, la4⟩ := LayV.app (j := 1) G1.out G2.out G3.out G4.out G5.out G6.out G7.out HO5.out HG5.out HL5.out
      have HLA : Hid (LayV w (w5.setCell ⟨M, 22, none⟩ (.slice ao5 2 cap5)) B M 2 (stK (hbF a0) (hbF a1) 1)) := Lib.hid la1
      have HVG : Hid ((w5.setCell ⟨M, 22, none⟩ (.slice ao5 2 cap5)).heap[gv]? = some (.cells (vI 1).cells.toArray 32 (0, 0))) := Lib.hid ((la4 gv HGM.out HGK.out (lt_of_block HV12.out)).trans HV12.out)
      clear la1 la4 HO5 HG5 HL5 G1 G2 G3 G4 G5 G6 G7 HV2 NW HV12 qm x0 x1 x2 x3 x4 x5 x6 hi hz0 hz1 hz2
      go_upto_region 11 with fail
      generalize w5.setCell ⟨M, 22, none⟩ (.slice ao5 2 cap5) = X at *
      obtain ⟨ln1, ln2, ln3⟩ := stK_len (hbF a0) (hbF a1) 1
      have eok : okJ (hbF a0) (hbF a1) 2 = (okJ (hbF a0) (hbF a1) 1 && ((bits .and .u8 (a0 / 2) 1 == 1) || (bits .and .u8 (a1 / 2) 1 == 1))) := rfl
      have est : stK (hbF a0) (hbF a1) 2 = if (bits .and .u8 (a1 / 2) 1 == 1) then seeV (if (bits .and .u8 (a0 / 2) 1 == 1) then learnK (stK (hbF a0) (hbF a1) 1) ⟨1, 1⟩ else stK (hbF a0) (hbF a1) 1) (cV 1) Mc.nil else if (bits .and .u8 (a0 / 2) 1 == 1) then learnK (stK (hbF a0) (hbF a1) 1) ⟨1, 1⟩ else stK (hbF a0) (hbF a1) 1 := rfl
      generalize hokb : okJ (hbF a0) (hbF a1) 1 = okb at *
      clear hokb
      generalize hst : stK (hbF a0) (hbF a1) 1 = SJ at *
      clear hst
      have EOK := Lib.hid eok
      have EST := Lib.hid est
      clear eok est la2 la3
      cases ha : (bits .and .u8 (a0 / 2) 1 == 1)
      · rw [ha] at EOK EST
        cases hb : (bits .and .u8 (a1 / 2) 1 == 1)
        · rw [hb] at EOK EST
          have HLF : Hid (LayV w X B M 2 (stK (hbF a0) (hbF a1) 2)) := Lib.hid (by rw [EST.out]; exact HLA.out)
          clear HLA HVG
          cases okb
          · go_wp2_with fail
            go_round
            case rel => exact ⟨2, by omega, rfl, by rw [EOK.out]; rfl, HLF⟩
            case measure => simp [intOf]
          · go_wp2_with fail
            go_round
            case rel => exact ⟨2, by omega, rfl, by rw [EOK.out]; rfl, HLF⟩
            case measure => simp [intOf]
        · rw [hb] at EOK EST
          have CS := Lib.hid (see20k w.heap.size X B SJ HLA.out.kw (cV 1) Mc.nil (cV_at _ _) nil_ok (fun w' h => HT.out w' (HLA.out.bel.trans h)) rfl rfl rfl rfl rfl rfl (by omega) (by omega))
          go_upto_region 14 with fail
          refine wp_region_lit ?_
          refine wpl_val (v := .pointer (some ⟨B, 0, none⟩)) (w1 := X) rfl (by go_simp) _ rfl ?_
          refine wpl_val (v := .int .u8 1) (w1 := X) rfl (by go_simp) _ rfl ?_
          refine wpl_val (v := .agg (vI 1).cells.toArray) (w1 := X) rfl (exec_load 32 (.tmp 9) rfl rfl (vt_load0 HVG.out)) _ rfl ?_
          refine wpl_val (v := .agg (cV 1).cells.toArray) (w1 := X) rfl (by simp only [cV, vI, hm, Mg.cells, Vt.cells, Rq.zero, Vt.zero]; go_simp) _ rfl ?_
          generalize (cV 1).cells.toArray = AC at *
          generalize (vI 1).cells.toArray = AV at *
          go_wp2_with fail
          refine Calls.mono CS.out ?_
          rintro e w7 ⟨rfl, hk7, hs7⟩
          have HLF : Hid (LayV w w7 B M 2 (stK (hbF a0) (hbF a1) 2)) := Lib.hid (by rw [EST.out]; exact HLA.out.step hk7 hs7)
          clear hk7 hs7 CS HLA HVG
          cases okb
          · go_wp2_with fail
            go_round
            case rel => exact ⟨2, by omega, rfl, by rw [EOK.out]; rfl, HLF⟩
            case measure => simp [intOf]
          · go_wp2_with fail
            go_round
            case rel => exact ⟨2, by omega, rfl, by rw [EOK.out]; rfl, HLF⟩
            case measure => simp [intOf]
      · rw [ha] at EOK EST
        have CL := learn19 w.heap.size X B SJ HLA.out.kw ⟨1, 1⟩ (by unfold Ky.ok; simp) (by omega)
        simp only [Ky.cells] at CL
        have CL := Lib.hid CL
        obtain ⟨lk1, lk2, lk3⟩ := learn_len SJ ⟨1, 1⟩
        go_wp2_with fail
        refine Calls.mono CL.out ?_
        rintro e w6 ⟨rfl, hk6, hs6⟩
        have HLA6 := Lib.hid (HLA.out.step hk6 hs6)
        have HVG6 := Lib.hid (hs6.stay _ _ _ _ HGB.out HVG.out)
        clear hk6 hs6 CL HLA HVG
        generalize hlk : learnK SJ ⟨1, 1⟩ = SL at *
        clear hlk
        cases hb : (bits .and .u8 (a1 / 2) 1 == 1)
        · rw [hb] at EOK EST
          have HLF : Hid (LayV w w6 B M 2 (stK (hbF a0) (hbF a1) 2)) := Lib.hid (by rw [EST.out]; exact HLA6.out)
          clear HLA6 HVG6
          cases okb
          · go_wp2_with fail
            go_round
            case rel => exact ⟨2, by omega, rfl, by rw [EOK.out]; rfl, HLF⟩
            case measure => simp [intOf]
          · go_wp2_with fail
            go_round
            case rel => exact ⟨2, by omega, rfl, by rw [EOK.out]; rfl, HLF⟩
            case measure => simp [intOf]
        · rw [hb] at EOK EST
          have CS := Lib.hid (see20k w.heap.size w6 B SL HLA6.out.kw (cV 1) Mc.nil (cV_at _ _) nil_ok (fun w' h => HT.out w' (HLA6.out.bel.trans h)) rfl rfl rfl rfl rfl rfl (by rw [lk2]; omega) (by rw [lk3]; omega))
          go_upto_region 14 with fail
          refine wp_region_lit ?_
          refine wpl_val (v := .pointer (some ⟨B, 0, none⟩)) (w1 := w6) rfl (by go_simp) _ rfl ?_
          refine wpl_val (v := .int .u8 1) (w1 := w6) rfl (by go_simp) _ rfl ?_
          refine wpl_val (v := .agg (vI 1).cells.toArray) (w1 := w6) rfl (exec_load 32 (.tmp 9) rfl rfl (vt_load0 HVG6.out)) _ rfl ?_
          refine wpl_val (v := .agg (cV 1).cells.toArray) (w1 := w6) rfl (by simp only [cV, vI, hm, Mg.cells, Vt.cells, Rq.zero, Vt.zero]; go_simp) _ rfl ?_
          generalize (cV 1).cells.toArray = AC at *
          generalize (vI 1).cells.toArray = AV at *
          go_wp2_with fail
          refine Calls.mono CS.out ?_
          rintro e w7 ⟨rfl, hk7, hs7⟩
          have HLF : Hid (LayV w w7 B M 2 (stK (hbF a0) (hbF a1) 2)) := Lib.hid (by rw [EST.out]; exact HLA6.out.step hk7 hs7)
          clear hk7 hs7 CS HLA6 HVG6
          cases okb
          · go_wp2_with fail
            go_round
            case rel => exact ⟨2, by omega, rfl, by rw [EOK.out]; rfl, HLF⟩
            case measure => simp [intOf]
          · go_wp2_with fail
            go_round
            case rel => exact ⟨2, by omega, rfl, by rw [EOK.out]; rfl, HLF⟩
            case measure => simp [intOf]
    · obtain ⟨ao, cap, g1, g2, g3, g4, g5, g6, g7⟩ := HL.out
      obtain ⟨V1, hV1⟩ : ∃ V, V = wr.alloc (.cells (vI 2).cells.toArray 32) := ⟨_, rfl⟩
      have hb1 : Below wr.heap.size wr V1 := by rw [hV1]; exact (Below.refl _ _).alloc (Nat.le_refl _) _
      have hv1 : V1.heap[wr.heap.size]? = some (.cells (vI 2).cells.toArray 32 (0, 0)) := by rw [hV1]; exact heap_alloc_new _ _
      obtain ⟨V2, hV2⟩ : ∃ V, V = V1.alloc (.cells (vI 2).cells.toArray 32) := ⟨_, rfl⟩
      have hb2 : Below V1.heap.size V1 V2 := by rw [hV2]; exact (Below.refl _ _).alloc (Nat.le_refl _) _
      have hb12 := hb1.trans (hb2.mono hb1.size)
      have qm : V1.cell? ⟨M, 22, none⟩ = some (.slice ao 2 cap) := by rw [cell_of_row _ _ _ _ _ _ ((hb1.block _ (lt_of_block g1)).trans g1)]; rfl
      have x0 : V1.cell? ⟨wr.heap.size, 0, none⟩ = some (.int .u8 2) := cell_vt hv1 0
      have x1 : V1.cell? ⟨wr.heap.size, 1, none⟩ = some (.int .u8 1) := cell_vt hv1 1
      have x2 : V1.cell? ⟨wr.heap.size, 2, none⟩ = some (.int .u32 1) := cell_vt hv1 2
      have x3 : V1.cell? ⟨wr.heap.size, 3, none⟩ = some (.int .u32 4) := cell_vt hv1 3
      have x4 : V1.cell? ⟨wr.heap.size, 4, none⟩ = some (.slice none 0 0) := cell_vt hv1 4
      have x5 : V1.cell? ⟨wr.heap.size, 5, none⟩ = some (.slice none 0 0) := cell_vt hv1 5
      have x6 : V1.cell? ⟨wr.heap.size, 6, none⟩ = some (.slice none 0 0) := cell_vt hv1 6
      have G1 := Lib.hid ((hb12.block _ (lt_of_block g1)).trans g1)
      have G2 := Lib.hid (ownV_kept g2 (Kept.ofBelow (S := fun _ => False) hb12) (fun _ _ h => h))
      have G3 := Lib.hid g3
      have G4 := Lib.hid (g4.on hb12)
      have G5 := Lib.hid (g5.trans (hb12.mono g5.size))
      have G6 := Lib.hid g6
      have G7 := Lib.hid g7
      have HGM := Lib.hid (show wr.heap.size ≠ M by have := lt_of_block g1; omega)
      have HGK := Lib.hid (show ∀ k, some k = (Value.slice ao 2 cap).ownBlock → wr.heap.size ≠ k from fun k e => by have := ownV_lt g2 k e; omega)
      have HGB := Lib.hid (show wr.heap.size ≠ B by have := lt_of_block g1; omega)
      have HV12 := Lib.hid ((hb2.block _ (lt_of_block hv1)).trans hv1)
      have NW := Lib.hid (show ∀ jj u, (vI 2).cells[jj]? = some u → V2.cell? ((⟨V1.heap.size, 0, none⟩ : Addr).add jj) = some u by rw [hV2]; exact newsV V1 _ _)
      simp only [vI, Vt.cells] at hV1 hV2
      have HV1 := Lib.hid hV1
      have HV2 := Lib.hid hV2
      obtain ⟨gv, hgv⟩ : ∃ g, g = wr.heap.size := ⟨_, rfl⟩
      rw [← hgv] at x0 x1 x2 x3 x4 x5 x6 HGM HGK HGB HV12
      have HGV := Lib.hid hgv
      clear hV1 hV2 hb1 hv1 hb2 hb12 g1 g2 g3 g4 g5 g6 g7 hgv HL
      obtain ⟨hi, hz0, hz1, hz2⟩ := HINFO.out
      go_upto_region 10 with fail
      rw [← HV1.out, ← HGV.out]
      clear HV1 HGV
      go_wp2_with (first | (at_builtin
                            rw [← HV2.out]
                            refine wpList_append_own_at _ rfl _ _ 33 rfl 0 32 i0 _ 7 88 Tryd.underlying33 hi hz0 hz1 hz2 rfl (by decide) (.slice ao 2 cap) 2 _ rfl G2.out ⟨V1.heap.size, 0, none⟩ 1 1 (vI 2).cells rfl rfl NW.out (by intro u hu; simp [vI, Vt.cells] at hu; (repeat' (rcases hu with rfl | hu)); all_goals first | rfl | (subst hu; rfl)) (by unfold maxLen; omega) (by omega) (Nat.zero_le _) ?_
                            intro v5 w5 ho5 hg5 hn5 hl5
                            obtain ⟨ao5, cap5, rfl⟩ := ownV_form ho5
                            have HO5 := Lib.hid ho5
                            have HG5 := Lib.hid hg5
                            have HL5 := Lib.hid hl5
                            clear ho5 hg5 hn5 hl5
                            refine Hid.out ?_) | go_in)
      refine Lib.hid ?_
      obtain ⟨la1, la2, la3, la4⟩ := LayV.app (j := 2) G1.out G2.out G3.out G4.out G5.out G6.out G7.out HO5.out HG5.out HL5.out
      have HLA : Hid (LayV w (w5.setCell ⟨M, 22, none⟩ (.slice ao5 3 cap5)) B M 3 (stK (hbF a0) (hbF a1) 2)) := Lib.hid la1
      have HVG : Hid ((w5.setCell ⟨M, 22, none⟩ (.slice ao5 3 cap5)).heap[gv]? = some (.cells (vI 2).cells.toArray 32 (0, 0))) := Lib.hid ((la4 gv HGM.out HGK.out (lt_of_block HV12.out)).trans HV12.out)
      clear la1 la4 HO5 HG5 HL5 G1 G2 G3 G4 G5 G6 G7 HV2 NW HV12 qm x0 x1 x2 x3 x4 x5 x6 hi hz0 hz1 hz2
      go_upto_region 11 with fail
      generalize w5.setCell ⟨M, 22, none⟩ (.slice ao5 3 cap5) = X at *
      obtain ⟨ln1, ln2, ln3⟩ := stK_len (hbF a0) (hbF a1) 2
      have eok : okJ (hbF a0) (hbF a1) 3 = (okJ (hbF a0) (hbF a1) 2 && ((bits .and .u8 (a0 / 4) 1 == 1) || (bits .and .u8 (a1 / 4) 1 == 1))) := rfl
      have est : stK (hbF a0) (hbF a1) 3 = if (bits .and .u8 (a1 / 4) 1 == 1) then seeV (if (bits .and .u8 (a0 / 4) 1 == 1) then learnK (stK (hbF a0) (hbF a1) 2) ⟨2, 1⟩ else stK (hbF a0) (hbF a1) 2) (cV 2) Mc.nil else if (bits .and .u8 (a0 / 4) 1 == 1) then learnK (stK (hbF a0) (hbF a1) 2) ⟨2, 1⟩ else stK (hbF a0) (hbF a1) 2 := rfl
      generalize hokb : okJ (hbF a0) (hbF a1) 2 = okb at *
      clear hokb
      generalize hst : stK (hbF a0) (hbF a1) 2 = SJ at *
      clear hst
      have EOK := Lib.hid eok
      have EST := Lib.hid est
      clear eok est la2 la3
      cases ha : (bits .and .u8 (a0 / 4) 1 == 1)
      · rw [ha] at EOK EST
        cases hb : (bits .and .u8 (a1 / 4) 1 == 1)
        · rw [hb] at EOK EST
          have HLF : Hid (LayV w X B M 3 (stK (hbF a0) (hbF a1) 3)) := Lib.hid (by rw [EST.out]; exact HLA.out)
          clear HLA HVG
          cases okb
          · go_wp2_with fail
            go_round
            case rel => exact ⟨3, by omega, rfl, by rw [EOK.out]; rfl, HLF⟩
            case measure => simp [intOf]
          · go_wp2_with fail
            go_round
            case rel => exact ⟨3, by omega, rfl, by rw [EOK.out]; rfl, HLF⟩
            case measure => simp [intOf]
        · rw [hb] at EOK EST
          have CS := Lib.hid (see20k w.heap.size X B SJ HLA.out.kw (cV 2) Mc.nil (cV_at _ _) nil_ok (fun w' h => HT.out w' (HLA.out.bel.trans h)) rfl rfl rfl rfl rfl rfl (by omega) (by omega))
          go_upto_region 14 with fail
          refine wp_region_lit ?_
          refine wpl_val (v := .pointer (some ⟨B, 0, none⟩)) (w1 := X) rfl (by go_simp) _ rfl ?_
          refine wpl_val (v := .int .u8 2) (w1 := X) rfl (by go_simp) _ rfl ?_
          refine wpl_val (v := .agg (vI 2).cells.toArray) (w1 := X) rfl (exec_load 32 (.tmp 9) rfl rfl (vt_load0 HVG.out)) _ rfl ?_
          refine wpl_val (v := .agg (cV 2).cells.toArray) (w1 := X) rfl (by simp only [cV, vI, hm, Mg.cells, Vt.cells, Rq.zero, Vt.zero]; go_simp) _ rfl ?_
          generalize (cV 2).cells.toArray = AC at *
          generalize (vI 2).cells.toArray = AV at *
          go_wp2_with fail
          refine Calls.mono CS.out ?_
          rintro e w7 ⟨rfl, hk7, hs7⟩
          have HLF : Hid (LayV w w7 B M 3 (stK (hbF a0) (hbF a1) 3)) := Lib.hid (by rw [EST.out]; exact HLA.out.step hk7 hs7)
          clear hk7 hs7 CS HLA HVG
          cases okb
          · go_wp2_with fail
            go_round
            case rel => exact ⟨3, by omega, rfl, by rw [EOK.out]; rfl, HLF⟩
            case measure => simp [intOf]
          · go_wp2_with fail
            go_round
            case rel => exact ⟨3, by omega, rfl, by rw [EOK.out]; rfl, HLF⟩
            case measure => simp [intOf]
      · rw [ha] at EOK EST
        have CL := learn19 w.heap.size X B SJ HLA.out.kw ⟨2, 1⟩ (by unfold Ky.ok; simp) (by omega)
        simp only [Ky.cells] at CL
        have CL := Lib.hid CL
        obtain ⟨lk1, lk2, lk3⟩ := learn_len SJ ⟨2, 1⟩
        go_wp2_with fail
        refine Calls.mono CL.out ?_
        rintro e w6 ⟨rfl, hk6, hs6⟩
        have HLA6 := Lib.hid (HLA.out.step hk6 hs6)
        have HVG6 := Lib.hid (hs6.stay _ _ _ _ HGB.out HVG.out)
        clear hk6 hs6 CL HLA HVG
        generalize hlk : learnK SJ ⟨2, 1⟩ = SL at *
        clear hlk
        cases hb : (bits .and .u8 (a1 / 4) 1 == 1)
        · rw [hb] at EOK EST
          have HLF : Hid (LayV w w6 B M 3 (stK (hbF a0) (hbF a1) 3)) := Lib.hid (by rw [EST.out]; exact HLA6.out)
          clear HLA6 HVG6
          cases okb
          · go_wp2_with fail
            go_round
            case rel => exact ⟨3, by omega, rfl, by rw [EOK.out]; rfl, HLF⟩
            case measure => simp [intOf]
          · go_wp2_with fail
            go_round
            case rel => exact ⟨3, by omega, rfl, by rw [EOK.out]; rfl, HLF⟩
            case measure => simp [intOf]
        · rw [hb] at EOK EST
          have CS := Lib.hid (see20k w.heap.size w6 B SL HLA6.out.kw (cV 2) Mc.nil (cV_at _ _) nil_ok (fun w' h => HT.out w' (HLA6.out.bel.trans h)) rfl rfl rfl rfl rfl rfl (by rw [lk2]; omega) (by rw [lk3]; omega))
          go_upto_region 14 with fail
          refine wp_region_lit ?_
          refine wpl_val (v := .pointer (some ⟨B, 0, none⟩)) (w1 := w6) rfl (by go_simp) _ rfl ?_
          refine wpl_val (v := .int .u8 2) (w1 := w6) rfl (by go_simp) _ rfl ?_
          refine wpl_val (v := .agg (vI 2).cells.toArray) (w1 := w6) rfl (exec_load 32 (.tmp 9) rfl rfl (vt_load0 HVG6.out)) _ rfl ?_
          refine wpl_val (v := .agg (cV 2).cells.toArray) (w1 := w6) rfl (by simp only [cV, vI, hm, Mg.cells, Vt.cells, Rq.zero, Vt.zero]; go_simp) _ rfl ?_
          generalize (cV 2).cells.toArray = AC at *
          generalize (vI 2).cells.toArray = AV at *
          go_wp2_with fail
          refine Calls.mono CS.out ?_
          rintro e w7 ⟨rfl, hk7, hs7⟩
          have HLF : Hid (LayV w w7 B M 3 (stK (hbF a0) (hbF a1) 3)) := Lib.hid (by rw [EST.out]; exact HLA6.out.step hk7 hs7)
          clear hk7 hs7 CS HLA6 HVG6
          cases okb
          · go_wp2_with fail
            go_round
            case rel => exact ⟨3, by omega, rfl, by rw [EOK.out]; rfl, HLF⟩
            case measure => simp [intOf]
          · go_wp2_with fail
            go_round
            case rel => exact ⟨3, by omega, rfl, by rw [EOK.out]; rfl, HLF⟩
            case measure => simp [intOf]
    · obtain ⟨s, hbx, hat⟩ := nV_at HL.out
      have CC := can22r w.heap.size wr B _ HL.out.kw (nV s) (mcI 3) hat mcI_ok (HT.out wr HL.out.bel) (nV_no s) nV_ky (by unfold Ky.ok; simp [nV, hm]) zero_ok
      rw [ten'] at CC
      have CC := Lib.hid CC
      have HBX := Lib.hid hbx
      have HBEL := Lib.hid HL.out.bel
      have HSZ := Lib.hid (show (nV s).cells.toArray.size = 25 from rfl)
      clear hbx hat HL
      generalize (nV s).cells.toArray = AN at *
      generalize okJ (hbF a0) (hbF a1) 3 = okb at *
      go_upto_region 16 with fail
      refine wp_region_lit ?_
      refine wpl_val (v := .pointer (some ⟨B, 0, none⟩)) (w1 := wr) rfl (by go_simp) _ rfl ?_
      refine wpList_load_row rfl 37 (.tmp 6) rfl M rfl 37 _ (0, 0) _ HBX.out Tryd.underlying37 rfl (by rw [HSZ.out]; exact size37) ?_
      go_wp2_with fail
      refine Calls.mono CC.out ?_
      rintro e w7 ⟨rfl, hb7⟩
      have HB7 := Lib.hid (HBEL.out.trans (hb7.mono HBEL.out.size))
      clear hb7 CC
      cases okb
      · go_wp2_with fail
        go_ret
        exact ⟨rfl, HB7.out⟩
      · go_wp2_with fail
        go_ret
        exact ⟨rfl, HB7.out⟩
end Go.Proofs.YtigpfaecbmnklaaDoor
