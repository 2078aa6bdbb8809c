/- The known answers of layer 6. -/
import Derived.Test.YtmkeckablkccnaaDoorNc10
namespace Go.Proofs.YtmkeckablkccnaaDoor
open Go.RowKit
set_option maxRecDepth 100000

set_option maxHeartbeats 8000000 in
theorem known14 (w : World) (ht : Tab w) : Calls Tryd.prog 14 #[] w fun e w' => e = .returned (.bool true) ∧ Below w.heap.size w w' := by
  have HT := Lib.hid ht
  clear ht
  go_enter Tryd.func14, Tryd.ntmps14
  go_wp2_with fail
  refine Calls.mono (new15 w) ?_
  rintro e w1 ⟨rfl, hb, hbl⟩
  have B1 := Lib.hid (show Bo w w1 w.heap.size none [] from ⟨hb, hbl, Nat.le_refl _, fun x e => by cases e⟩)
  clear hb hbl
  obtain ⟨B, hB⟩ : ∃ B, B = w.heap.size := ⟨_, rfl⟩
  rw [← hB] at B1 ⊢
  have HB := Lib.hid hB
  clear hB
  go_wp2_with fail
  refine Calls.mono (query26 w1 1) ?_
  rintro e w2 ⟨rfl, hb⟩
  have B2 := Lib.hid (B1.out.below hb)
  clear hb B1
  go_wp2_with fail
  refine Calls.mono (send16 w2 B none [] (qM 1) B2.out.bag (qM_nil 1) (B2.out.tab HT.out)) ?_
  rintro e w3 ⟨r, g3, l', rfl, h1, h2, h3⟩
  obtain ⟨rfl, rfl⟩ : r = 0 ∧ l' = [qM 1] := by
    rcases h3 with ⟨e, _⟩ | ⟨_, ⟨e, _⟩ | ⟨_, e1, e2⟩⟩
    · rw [qM_is1] at e; cases e
    · simp at e
    · exact ⟨e1, e2⟩
  have B3 := Lib.hid (B2.out.step h1 h2)
  clear h1 h2 h3 B2
  go_wp2_with fail
  refine Calls.mono (query26 w3 2) ?_
  rintro e w4 ⟨rfl, hb⟩
  have B4 := Lib.hid (B3.out.below hb)
  clear hb B3
  go_wp2_with fail
  refine Calls.mono (send16 w4 B g3 [qM 1] (qM 2) B4.out.bag (qM_nil 2) (B4.out.tab HT.out)) ?_
  rintro e w5 ⟨r, g5, l', rfl, h1, h2, h3⟩
  obtain ⟨rfl, rfl⟩ : r = 0 ∧ l' = [qM 1, qM 2] := by
    rcases h3 with ⟨e, _⟩ | ⟨_, ⟨e, _⟩ | ⟨_, e1, e2⟩⟩
    · rw [qM_is2] at e; cases e
    · simp at e
    · exact ⟨e1, e2⟩
  have B5 := Lib.hid (B4.out.step h1 h2)
  clear h1 h2 h3 B4
  go_wp2_with fail
  refine Calls.mono (send16 w5 B g5 [qM 1, qM 2] zeroM B5.out.bag zeroM_nil (B5.out.tab HT.out)) ?_
  rintro e w6 ⟨r, g6, l', rfl, h1, h2, h3⟩
  obtain ⟨rfl, rfl⟩ : r = 30 ∧ l' = [qM 1, qM 2] := by
    rcases h3 with ⟨_, e1, e2⟩ | ⟨e, _⟩
    · exact ⟨e1, e2⟩
    · rw [zeroM_is] at e; cases e
  have B6 := Lib.hid (B5.out.step h1 h2)
  clear h1 h2 h3 B5
  go_wp2_with fail
  refine Calls.mono (take_yes w6 B g6 [qM 1, qM 2] 0 (qM 1) B6.out.bag rfl) ?_
  rintro e w7 ⟨rfl, h1, h2⟩
  have B7 := Lib.hid (show Bo w w7 B g6 [qM 2] from B6.out.step h1 h2)
  clear h1 h2 B6
  obtain ⟨m1, hm1⟩ : ∃ m1, m1 = qM 1 := ⟨_, rfl⟩
  rw [← hm1]
  have HM1 := Lib.hid hm1
  clear hm1
  obtain ⟨V, hV⟩ : ∃ V, V = w7.alloc (.cells Vz.toArray 37) := ⟨_, rfl⟩
  obtain ⟨U, hU⟩ : ∃ U, U = V.setCells w7.heap.size 0 m1.cells := ⟨_, rfl⟩
  obtain ⟨u1, u2, u3⟩ := msg_new w7 m1 (show U = (w7.alloc (.cells Vz.toArray 37)).setCells w7.heap.size 0 m1.cells by rw [hU, hV])
  rw [← hV] at u3
  have HV := Lib.hid hV
  obtain ⟨gy, hgy⟩ : ∃ gy, gy = w7.heap.size := ⟨_, rfl⟩
  have HGYE := Lib.hid hgy
  rw [← hgy] at hU u3 u1
  have HU := Lib.hid hU
  have HT1 := Lib.hid u3
  have HY := Lib.hid u1
  have HUB := Lib.hid u2
  clear hU u1 u2 u3 hV hgy
  rename_i K1 hK1 K2 hK2
  refine hK2 _ _ ?_
  clear hK2 K2
  refine wpl_val (v := .tuple #[.agg m1.cells.toArray, .int .i64 0]) (w1 := w7) rfl (by go_simp) ({ tmps := #[.bool false, .pointer (some ⟨B, 0, none⟩), undef, undef, undef, undef, .pointer (some ⟨B, 0, none⟩), .pointer (some ⟨B, 0, none⟩), .bool false, .bool false, .pointer (some ⟨B, 0, none⟩), _, .int .i64 0, .bool false, .bool false, .bool false, .pointer (some ⟨B, 0, none⟩), _, .int .i64 0, .bool false, .bool false, .bool false, .pointer (some ⟨B, 0, none⟩), _, .int .i64 30, .bool false, .bool false, .tuple #[.agg m1.cells.toArray, .int .i64 0], .pointer (some ⟨B, 0, none⟩), .tuple #[.agg m1.cells.toArray, .int .i64 0], undef, undef, undef, undef, undef, undef, undef, undef, undef, undef, undef, undef, undef, undef, undef, undef, undef, undef, undef, undef, undef, undef, undef, undef, undef, undef, undef, undef, undef, undef, undef, undef, undef], defers := [] }) rfl ?_
  refine wpl_val (v := .agg m1.cells.toArray) (w1 := w7) rfl (by go_simp) ({ tmps := #[.bool false, .pointer (some ⟨B, 0, none⟩), undef, undef, undef, undef, .pointer (some ⟨B, 0, none⟩), .pointer (some ⟨B, 0, none⟩), .bool false, .bool false, .pointer (some ⟨B, 0, none⟩), _, .int .i64 0, .bool false, .bool false, .bool false, .pointer (some ⟨B, 0, none⟩), _, .int .i64 0, .bool false, .bool false, .bool false, .pointer (some ⟨B, 0, none⟩), _, .int .i64 30, .bool false, .bool false, .tuple #[.agg m1.cells.toArray, .int .i64 0], .pointer (some ⟨B, 0, none⟩), .tuple #[.agg m1.cells.toArray, .int .i64 0], .agg m1.cells.toArray, undef, undef, undef, undef, undef, undef, undef, undef, undef, undef, undef, undef, undef, undef, undef, undef, undef, undef, undef, undef, undef, undef, undef, undef, undef, undef, undef, undef, undef, undef, undef, undef], defers := [] }) rfl ?_
  refine wpl_val (v := .int .i64 0) (w1 := w7) rfl (by go_simp) ({ tmps := #[.bool false, .pointer (some ⟨B, 0, none⟩), undef, undef, undef, undef, .pointer (some ⟨B, 0, none⟩), .pointer (some ⟨B, 0, none⟩), .bool false, .bool false, .pointer (some ⟨B, 0, none⟩), _, .int .i64 0, .bool false, .bool false, .bool false, .pointer (some ⟨B, 0, none⟩), _, .int .i64 0, .bool false, .bool false, .bool false, .pointer (some ⟨B, 0, none⟩), _, .int .i64 30, .bool false, .bool false, .tuple #[.agg m1.cells.toArray, .int .i64 0], .pointer (some ⟨B, 0, none⟩), .tuple #[.agg m1.cells.toArray, .int .i64 0], .agg m1.cells.toArray, .int .i64 0, undef, undef, undef, undef, undef, undef, undef, undef, undef, undef, undef, undef, undef, undef, undef, undef, undef, undef, undef, undef, undef, undef, undef, undef, undef, undef, undef, undef, undef, undef, undef], defers := [] }) rfl ?_
  refine wpl_val (v := .pointer (some ⟨gy, 0, none⟩)) (w1 := V) rfl (by have e1 := HV.out; simp only [Vz] at e1; rw [e1, HGYE.out]; go_simp) ({ tmps := #[.bool false, .pointer (some ⟨B, 0, none⟩), .pointer (some ⟨gy, 0, none⟩), undef, undef, undef, .pointer (some ⟨B, 0, none⟩), .pointer (some ⟨B, 0, none⟩), .bool false, .bool false, .pointer (some ⟨B, 0, none⟩), _, .int .i64 0, .bool false, .bool false, .bool false, .pointer (some ⟨B, 0, none⟩), _, .int .i64 0, .bool false, .bool false, .bool false, .pointer (some ⟨B, 0, none⟩), _, .int .i64 30, .bool false, .bool false, .tuple #[.agg m1.cells.toArray, .int .i64 0], .pointer (some ⟨B, 0, none⟩), .tuple #[.agg m1.cells.toArray, .int .i64 0], .agg m1.cells.toArray, .int .i64 0, undef, undef, undef, undef, undef, undef, undef, undef, undef, undef, undef, undef, undef, undef, undef, undef, undef, undef, undef, undef, undef, undef, undef, undef, undef, undef, undef, undef, undef, undef, undef], defers := [] }) rfl ?_
  refine wpList_store_mid rfl 37 (.tmp 2) (.tmp 30) rfl gy 0 m1.cells.toArray rfl rfl HT1.out size37 (all_oneCell_toArray (Mg.one _)) ?_
  dsimp only
  rw [← HU.out]
  clear HU HT1 HV HGYE
  have HQ := Lib.hid (show U.cell? ⟨gy, 2, none⟩ = some (.int .u8 1) by rw [cell_box HY.out, HM1.out]; rfl)
  have B8 := Lib.hid (B7.out.below HUB.out)
  clear HY HUB B7
  go_wp2_with fail
  refine Calls.mono (take_no U B g6 [qM 2] 5 B8.out.bag (by decide)) ?_
  rintro e w8 ⟨rfl, hb⟩
  have HQ8 := Lib.hid ((hb.cell (cell_block HQ.out)).trans HQ.out)
  have B9 := Lib.hid (B8.out.below hb)
  clear hb B8 HQ
  obtain ⟨m2, hm2⟩ : ∃ m2, m2 = zeroM := ⟨_, rfl⟩
  rw [← hm2]
  clear hm2
  obtain ⟨Y, hV⟩ : ∃ Y, Y = w8.alloc (.cells Vz.toArray 37) := ⟨_, rfl⟩
  obtain ⟨X, hU⟩ : ∃ X, X = Y.setCells w8.heap.size 0 m2.cells := ⟨_, rfl⟩
  obtain ⟨u1, u2, u3⟩ := msg_new w8 m2 (show X = (w8.alloc (.cells Vz.toArray 37)).setCells w8.heap.size 0 m2.cells by rw [hU, hV])
  rw [← hV] at u3
  have HV := Lib.hid hV
  obtain ⟨gz, hgy⟩ : ∃ gz, gz = w8.heap.size := ⟨_, rfl⟩
  have HGYE := Lib.hid hgy
  rw [← hgy] at hU u3 u1
  have HU := Lib.hid hU
  have HT1 := Lib.hid u3
  have HY := Lib.hid u1
  have HUB := Lib.hid u2
  clear hU u1 u2 u3 hV hgy
  rename_i K1 hK1 K2 hK2
  refine hK2 _ _ ?_
  clear hK2 K2
  refine wpl_val (v := .tuple #[.agg m2.cells.toArray, .int .i64 61]) (w1 := w8) rfl (by go_simp) ({ tmps := #[.bool false, .pointer (some ⟨B, 0, none⟩), .pointer (some ⟨gy, 0, none⟩), .int .i64 0, undef, undef, .pointer (some ⟨B, 0, none⟩), .pointer (some ⟨B, 0, none⟩), .bool false, .bool false, .pointer (some ⟨B, 0, none⟩), _, .int .i64 0, .bool false, .bool false, .bool false, .pointer (some ⟨B, 0, none⟩), _, .int .i64 0, .bool false, .bool false, .bool false, .pointer (some ⟨B, 0, none⟩), _, .int .i64 30, .bool false, .bool false, .tuple #[.agg m1.cells.toArray, .int .i64 0], .pointer (some ⟨B, 0, none⟩), .tuple #[.agg m1.cells.toArray, .int .i64 0], .agg m1.cells.toArray, .int .i64 0, .tuple #[.agg m2.cells.toArray, .int .i64 61], .pointer (some ⟨B, 0, none⟩), .tuple #[.agg m2.cells.toArray, .int .i64 61], undef, undef, undef, undef, undef, undef, undef, undef, undef, undef, undef, undef, undef, undef, undef, undef, undef, undef, undef, undef, undef, undef, undef, undef, undef, undef, undef, undef], defers := [] }) rfl ?_
  refine wpl_val (v := .agg m2.cells.toArray) (w1 := w8) rfl (by go_simp) ({ tmps := #[.bool false, .pointer (some ⟨B, 0, none⟩), .pointer (some ⟨gy, 0, none⟩), .int .i64 0, undef, undef, .pointer (some ⟨B, 0, none⟩), .pointer (some ⟨B, 0, none⟩), .bool false, .bool false, .pointer (some ⟨B, 0, none⟩), _, .int .i64 0, .bool false, .bool false, .bool false, .pointer (some ⟨B, 0, none⟩), _, .int .i64 0, .bool false, .bool false, .bool false, .pointer (some ⟨B, 0, none⟩), _, .int .i64 30, .bool false, .bool false, .tuple #[.agg m1.cells.toArray, .int .i64 0], .pointer (some ⟨B, 0, none⟩), .tuple #[.agg m1.cells.toArray, .int .i64 0], .agg m1.cells.toArray, .int .i64 0, .tuple #[.agg m2.cells.toArray, .int .i64 61], .pointer (some ⟨B, 0, none⟩), .tuple #[.agg m2.cells.toArray, .int .i64 61], .agg m2.cells.toArray, undef, undef, undef, undef, undef, undef, undef, undef, undef, undef, undef, undef, undef, undef, undef, undef, undef, undef, undef, undef, undef, undef, undef, undef, undef, undef, undef], defers := [] }) rfl ?_
  refine wpl_val (v := .int .i64 61) (w1 := w8) rfl (by go_simp) ({ tmps := #[.bool false, .pointer (some ⟨B, 0, none⟩), .pointer (some ⟨gy, 0, none⟩), .int .i64 0, undef, undef, .pointer (some ⟨B, 0, none⟩), .pointer (some ⟨B, 0, none⟩), .bool false, .bool false, .pointer (some ⟨B, 0, none⟩), _, .int .i64 0, .bool false, .bool false, .bool false, .pointer (some ⟨B, 0, none⟩), _, .int .i64 0, .bool false, .bool false, .bool false, .pointer (some ⟨B, 0, none⟩), _, .int .i64 30, .bool false, .bool false, .tuple #[.agg m1.cells.toArray, .int .i64 0], .pointer (some ⟨B, 0, none⟩), .tuple #[.agg m1.cells.toArray, .int .i64 0], .agg m1.cells.toArray, .int .i64 0, .tuple #[.agg m2.cells.toArray, .int .i64 61], .pointer (some ⟨B, 0, none⟩), .tuple #[.agg m2.cells.toArray, .int .i64 61], .agg m2.cells.toArray, .int .i64 61, undef, undef, undef, undef, undef, undef, undef, undef, undef, undef, undef, undef, undef, undef, undef, undef, undef, undef, undef, undef, undef, undef, undef, undef, undef, undef], defers := [] }) rfl ?_
  refine wpl_val (v := .pointer (some ⟨gz, 0, none⟩)) (w1 := Y) rfl (by have e1 := HV.out; simp only [Vz] at e1; rw [e1, HGYE.out]; go_simp) ({ tmps := #[.bool false, .pointer (some ⟨B, 0, none⟩), .pointer (some ⟨gy, 0, none⟩), .int .i64 0, .pointer (some ⟨gz, 0, none⟩), undef, .pointer (some ⟨B, 0, none⟩), .pointer (some ⟨B, 0, none⟩), .bool false, .bool false, .pointer (some ⟨B, 0, none⟩), _, .int .i64 0, .bool false, .bool false, .bool false, .pointer (some ⟨B, 0, none⟩), _, .int .i64 0, .bool false, .bool false, .bool false, .pointer (some ⟨B, 0, none⟩), _, .int .i64 30, .bool false, .bool false, .tuple #[.agg m1.cells.toArray, .int .i64 0], .pointer (some ⟨B, 0, none⟩), .tuple #[.agg m1.cells.toArray, .int .i64 0], .agg m1.cells.toArray, .int .i64 0, .tuple #[.agg m2.cells.toArray, .int .i64 61], .pointer (some ⟨B, 0, none⟩), .tuple #[.agg m2.cells.toArray, .int .i64 61], .agg m2.cells.toArray, .int .i64 61, undef, undef, undef, undef, undef, undef, undef, undef, undef, undef, undef, undef, undef, undef, undef, undef, undef, undef, undef, undef, undef, undef, undef, undef, undef, undef], defers := [] }) rfl ?_
  refine wpList_store_mid rfl 37 (.tmp 4) (.tmp 35) rfl gz 0 m2.cells.toArray rfl rfl HT1.out size37 (all_oneCell_toArray (Mg.one _)) ?_
  dsimp only
  rw [← HU.out]
  clear HU HT1 HV HGYE
  have q2 := (HUB.out.cell (cell_block HQ8.out)).trans HQ8.out
  have BA := Lib.hid (B9.out.below HUB.out)
  clear HY HUB B9 HQ8
  go_wp2_with fail
  refine Calls.mono (len25 X B g6 [qM 2] BA.out.bag) ?_
  rintro e w9 ⟨rfl, rfl⟩
  go_wp2_with fail
  refine Calls.mono (double_yes w9 B g6 [qM 2] 0 (qM 2) BA.out.bag rfl) ?_
  rintro e wa ⟨r, ga, l', rfl, h1, h2, h3⟩
  obtain ⟨rfl, rfl⟩ : r = 0 ∧ l' = [qM 2, qM 2] := by
    rcases h3 with ⟨e, _⟩ | ⟨_, e1, e2⟩
    · simp at e
    · exact ⟨e1, e2⟩
  have BB := Lib.hid (BA.out.step h1 h2)
  clear h1 h2 h3 BA q2
  go_wp2_with fail
  refine Calls.mono (len25 wa B ga [qM 2, qM 2] BB.out.bag) ?_
  rintro e wb ⟨rfl, rfl⟩
  go_wp2_with fail
  go_ret
  exact ⟨rfl, BB.out.bel⟩
end Go.Proofs.YtmkeckablkccnaaDoor
