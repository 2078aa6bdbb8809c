/- The bag: At, Take. -/
import Derived.Test.YtmkeckablkccnaaDoorNc7
namespace Go.Proofs.YtmkeckablkccnaaDoor
open Go.RowKit
set_option maxRecDepth 100000

def zeroM : Mg := ⟨⟨0, 0, 0, 0, 0, 0, Rq.zero, 0, 0, 0, 0⟩, Vt.zero, ⟨none, 0, 0⟩, ⟨none, 0, 0⟩, ⟨none, 0, 0⟩⟩
theorem zeroM_nil : Mnil zeroM := ⟨⟨rfl, rfl, rfl⟩, rfl, rfl, rfl⟩
theorem build37 (w : World) : (Instr.build 37 #[]).run Tryd.prog w = .ok (.agg zeroM.cells.toArray) w := by
  simp only [zeroM, Mg.cells, Rq.zero, Vt.zero]
  go_simp
theorem res_store {w W w1 : World} {gx : Nat} (m : Mg) (hW : W = w.alloc (.cells Vz.toArray 37)) (hgx : gx = w.heap.size) (hb : Below W.heap.size W w1) :
    w1.there gx 0 25 ∧ (w1.setCells gx 0 m.cells).heap[gx]? = some (.cells m.cells.toArray 37 (0, 0)) ∧ Below gx w (w1.setCells gx 0 m.cells) := by
  have h0 : W.heap[gx]? = some (.cells Vz.toArray 37 (0, 0)) := by rw [hW, hgx]; exact heap_alloc_new _ _
  have h1 : w1.heap[gx]? = some (.cells Vz.toArray 37 (0, 0)) := by rw [hb.block gx (lt_of_block h0)]; exact h0
  have hk : Kept (fun k => k = gx) w1 (w1.setCells gx 0 m.cells) := kept_setCells
  have hbw : Below gx w W := by rw [hW, hgx]; exact (Below.refl _ _).alloc (Nat.le_refl _) _
  refine ⟨there_row h1 rfl, by rw [setCells_block _ 37 _ _ _ _ h1, over_zero], ?_⟩
  have hb1 : Below gx w w1 := hbw.trans (hb.mono (by have := lt_of_block h0; omega))
  exact hb1.trans (hk.below (by have := lt_of_block h1; omega) (fun k e => by omega))

set_option maxHeartbeats 4000000 in
theorem at_no (w : World) (B : Nat) (g : Option Nat) (l : List Mg) (i : Int) (h : Bag w B g l) (hi : inB i l.length = false) :
    Calls Tryd.prog 22 #[.pointer (some ⟨B, 0, none⟩), .int .i64 i] w fun e w' => e = .returned (.tuple #[.agg zeroM.cells.toArray, .bool false]) ∧ Below w.heap.size w w' := by
  obtain ⟨W, hW⟩ : ∃ W, W = w.alloc (.cells Vz.toArray 37) := ⟨_, rfl⟩
  have hb : Below w.heap.size w W := by rw [hW]; exact (Below.refl _ _).alloc (Nat.le_refl _) _
  obtain ⟨gx, hgx⟩ : ∃ gx, gx = w.heap.size := ⟨_, rfl⟩
  have HGX := Lib.hid hgx
  have C := has54 W B g l i (h.below hb)
  rw [hi] at C
  have HC := Lib.hid C
  obtain ⟨r1, r2, r3⟩ := res_store zeroM hW hgx (Below.refl W.heap.size W)
  obtain ⟨W7, hW7⟩ : ∃ W7, W7 = W.setCells gx 0 zeroM.cells := ⟨_, rfl⟩
  rw [← hW7] at r2 r3
  have HTH := Lib.hid r1
  have HBLK := Lib.hid r2
  have HBEL := Lib.hid r3
  have HW7 := Lib.hid hW7
  have HW := Lib.hid hW
  clear C h hi hb r1 r2 r3 hW7 hW hgx
  simp only [Vz] at HW
  go_enter Tryd.func22, Tryd.ntmps22
  go_upto_region 1 with fail
  rw [← HW.out, ← HGX.out]
  clear HW
  go_wp2_with fail
  refine Calls.mono HC.out ?_
  rintro e w1 ⟨rfl, rfl⟩
  go_upto_region 2 with fail
  refine wp_region_lit ?_
  refine wpl_val (v := .agg zeroM.cells.toArray) (w1 := w1) rfl (by have := build37 w1; unfold execOp; simp [this, Result.andThen]) _ rfl ?_
  refine wpList_store_mid rfl 37 (.tmp 4) (.tmp 10) rfl gx 0 zeroM.cells.toArray rfl rfl HTH.out size37 (all_oneCell_toArray (Mg.one _)) ?_
  dsimp only
  rw [← HW7.out]
  clear HTH HW7
  go_wp2_with fail
  (try simp only [Exit.inBlock, Exit.then])
  refine bodyPost_ret (v := .tuple #[.agg zeroM.cells.toArray, .bool false]) ?_ rfl ⟨rfl, by rw [← HGX.out]; exact HBEL.out⟩
  rw [results_cell_tmp rfl]
  have hlv := run_loadVar_row (P := Tryd.prog) W7 gx 37 37 _ (0, 0) _ HBLK.out Tryd.underlying37 rfl size37
  show ((asAddr (.pointer (some ⟨gx, 0, none⟩))).run Tryd.prog W7).andThen (fun a w₁ => ((loadVar 37 a).run Tryd.prog w₁).andThen fun v w₂ => .ok (Value.tuple #[v, .bool false]) w₂) = _
  simp only [asAddr, Sem.run_pure, Result.andThen_ok, hlv]
set_option maxHeartbeats 4000000 in
theorem at_yes (w : World) (B : Nat) (g : Option Nat) (l : List Mg) (i : Nat) (m : Mg) (h : Bag w B g l) (hi : l[i]? = some m) :
    Calls Tryd.prog 22 #[.pointer (some ⟨B, 0, none⟩), .int .i64 i] w fun e w' => e = .returned (.tuple #[.agg m.cells.toArray, .bool true]) ∧ Below w.heap.size w w' := by
  have hlt : i < l.length := (List.getElem?_eq_some_iff.1 hi).1
  obtain ⟨W, hW⟩ : ∃ W, W = w.alloc (.cells Vz.toArray 37) := ⟨_, rfl⟩
  have hb : Below w.heap.size w W := by rw [hW]; exact (Below.refl _ _).alloc (Nat.le_refl _) _
  obtain ⟨gx, hgx⟩ : ∃ gx, gx = w.heap.size := ⟨_, rfl⟩
  have HGX := Lib.hid hgx
  have h := h.below hb
  have C := has54 W B g l i h
  rw [show inB i l.length = true by simp [inB]; omega] at C
  obtain ⟨ao, cap, h⟩ := h
  obtain ⟨b, rfl, hg, hr, cur, c1, c2, c3, c4, c5⟩ := h.at hi
  have q := h.cell
  have HN := Lib.hid (copyNil W m (h.nil m (List.mem_of_getElem? hi)))
  have HR := Lib.hid hr
  have HC := Lib.hid C
  have RS := Lib.hid (fun w1 hb => res_store (w1 := w1) m hW hgx hb)
  have SZ := Lib.hid (show (Tryd.prog.info? 37).map (·.size) = some m.cells.length from size37)
  have HW := Lib.hid hW
  clear C h hg c1 c2 c3 c4 c5 hi hr hb hW hgx
  generalize l.length = n at *
  simp only [Vz] at HW
  go_enter Tryd.func22, Tryd.ntmps22
  go_upto_region 1 with fail
  rw [← HW.out, ← HGX.out]
  clear HW
  go_wp2_with fail
  refine Calls.mono HC.out ?_
  rintro e w1 ⟨rfl, rfl⟩
  go_wp2_with (first | (refine wpList_load_mid rfl 37 (.tmp 16) rfl b (i * 25) (by first | rfl | simp) m.cells _ HR.out Tryd.underlying37 rfl SZ.out ?_; refine Hid.out ?_) | go_in)
  refine Lib.hid ?_
  go_wp2_with fail
  refine Calls.mono HN.out ?_
  rintro e w2 ⟨rfl, hb⟩
  obtain ⟨r1, r2, r3⟩ := RS.out w2 hb
  obtain ⟨W7, hW7⟩ : ∃ W7, W7 = w2.setCells gx 0 m.cells := ⟨_, rfl⟩
  rw [← hW7] at r2 r3
  have HTH := Lib.hid r1
  have HBLK := Lib.hid r2
  have HBEL := Lib.hid r3
  have HW7 := Lib.hid hW7
  clear r1 r2 r3 hW7 hb RS HN HR HC q
  rename_i K1 hK1 K2 hK2
  refine hK2 _ _ ?_
  refine wpList_store_mid rfl 37 (.tmp 4) (.tmp 18) rfl gx 0 m.cells.toArray rfl rfl HTH.out size37 (all_oneCell_toArray (Mg.one _)) ?_
  dsimp only
  clear hK2 K2
  rw [← HW7.out]
  clear HTH HW7
  go_wp2_with fail
  (try simp only [Exit.inBlock, Exit.then])
  refine bodyPost_ret (v := .tuple #[.agg m.cells.toArray, .bool true]) ?_ rfl ⟨rfl, by rw [← HGX.out]; exact HBEL.out⟩
  rw [results_cell_tmp rfl]
  have hlv := run_loadVar_row (P := Tryd.prog) W7 gx 37 37 _ (0, 0) _ HBLK.out Tryd.underlying37 rfl size37
  show ((asAddr (.pointer (some ⟨gx, 0, none⟩))).run Tryd.prog W7).andThen (fun a w₁ => ((loadVar 37 a).run Tryd.prog w₁).andThen fun v w₂ => .ok (Value.tuple #[v, .bool true]) w₂) = _
  simp only [asAddr, Sem.run_pure, Result.andThen_ok, hlv]
end Go.Proofs.YtmkeckablkccnaaDoor
