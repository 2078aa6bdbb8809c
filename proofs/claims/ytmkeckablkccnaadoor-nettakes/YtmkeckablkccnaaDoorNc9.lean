/- The bag: Take. -/
import Derived.Test.YtmkeckablkccnaaDoorNc8
namespace Go.Proofs.YtmkeckablkccnaaDoor
open Go.RowKit
set_option maxRecDepth 100000

set_option maxHeartbeats 4000000 in
theorem take_no (w : World) (B : Nat) (g : Option Nat) (l : List Mg) (i : Int) (h : Bag w B g l) (hi : inB i l.length = false) :
    Calls Tryd.prog 18 #[.pointer (some ⟨B, 0, none⟩), .int .i64 i] w fun e w' => e = .returned (.tuple #[.agg zeroM.cells.toArray, .int .i64 61]) ∧ Below w.heap.size w w' := by
  obtain ⟨W, hW⟩ : ∃ W, W = w.alloc (.cells Vz.toArray 37) := ⟨_, rfl⟩
  have hb : Below w.heap.size w W := by rw [hW]; exact (Below.refl _ _).alloc (Nat.le_refl _) _
  obtain ⟨gx, hgx⟩ : ∃ gx, gx = w.heap.size := ⟨_, rfl⟩
  have HGX := Lib.hid hgx
  obtain ⟨m, hm⟩ : ∃ m, m = zeroM := ⟨_, rfl⟩
  have C := at_no W B g l i (h.below hb) hi
  rw [← hm] at C ⊢
  have HC := Lib.hid C
  have BU := Lib.hid build37
  rw [← hm] at BU
  have RS := Lib.hid (fun w1 hb => res_store (w1 := w1) m hW hgx hb)
  have HW := Lib.hid hW
  clear h hi hb hW hgx hm C
  simp only [Vz] at HW
  go_enter Tryd.func18, Tryd.ntmps18
  go_upto_region 1 with fail
  rw [← HW.out, ← HGX.out]
  clear HW
  go_wp2_with fail
  refine Calls.mono HC.out ?_
  rintro e w1 ⟨rfl, hb⟩
  obtain ⟨V, hV⟩ : ∃ V, V = w1.alloc (.cells Vz.toArray 37) := ⟨_, rfl⟩
  obtain ⟨U, hU⟩ : ∃ U, U = V.setCells w1.heap.size 0 m.cells := ⟨_, rfl⟩
  obtain ⟨u1, u2, u3⟩ := msg_new w1 m (show U = (w1.alloc (.cells Vz.toArray 37)).setCells w1.heap.size 0 m.cells by rw [hU, hV])
  rw [← hV] at u3
  have HV := Lib.hid hV
  obtain ⟨gy, hgy⟩ : ∃ gy, gy = w1.heap.size := ⟨_, rfl⟩
  have HGYE := Lib.hid hgy
  rw [← hgy] at hU u3
  obtain ⟨r1, r2, r3⟩ := RS.out U (hb.trans (u2.mono hb.size))
  obtain ⟨W7, hW7⟩ : ∃ W7, W7 = U.setCells gx 0 m.cells := ⟨_, rfl⟩
  rw [← hW7] at r2 r3
  have HU := Lib.hid hU
  have HT1 := Lib.hid u3
  have HTH := Lib.hid r1
  have HBLK := Lib.hid r2
  have HBEL := Lib.hid r3
  have HW7 := Lib.hid hW7
  clear r1 r2 r3 hW7 hb RS HC hU u1 u2 u3 hV hgy
  rename_i K1 hK1 K2 hK2
  refine hK2 _ _ ?_
  clear hK2 K2
  refine wpl_val (v := .tuple #[.agg m.cells.toArray, .bool false]) (w1 := w1) rfl (by go_simp) ({ tmps := #[.pointer (some ⟨B, 0, none⟩), .int .i64 i, undef, undef, .pointer (some ⟨gx, 0, none⟩), .int .i64 0, undef, undef, .tuple #[.agg m.cells.toArray, .bool false], .pointer (some ⟨B, 0, none⟩), .int .i64 i, .tuple #[.agg m.cells.toArray, .bool false], undef, undef, undef, undef, undef, undef, undef, undef, undef], defers := [] }) rfl ?_
  refine wpl_val (v := .agg m.cells.toArray) (w1 := w1) rfl (by go_simp) ({ tmps := #[.pointer (some ⟨B, 0, none⟩), .int .i64 i, undef, undef, .pointer (some ⟨gx, 0, none⟩), .int .i64 0, undef, undef, .tuple #[.agg m.cells.toArray, .bool false], .pointer (some ⟨B, 0, none⟩), .int .i64 i, .tuple #[.agg m.cells.toArray, .bool false], .agg m.cells.toArray, undef, undef, undef, undef, undef, undef, undef, undef], defers := [] }) rfl ?_
  refine wpl_val (v := .bool false) (w1 := w1) rfl (by go_simp) ({ tmps := #[.pointer (some ⟨B, 0, none⟩), .int .i64 i, undef, undef, .pointer (some ⟨gx, 0, none⟩), .int .i64 0, undef, undef, .tuple #[.agg m.cells.toArray, .bool false], .pointer (some ⟨B, 0, none⟩), .int .i64 i, .tuple #[.agg m.cells.toArray, .bool false], .agg m.cells.toArray, .bool false, undef, undef, undef, undef, undef, undef, undef], defers := [] }) rfl ?_
  refine wpl_val (v := .pointer (some ⟨gy, 0, none⟩)) (w1 := V) rfl (by have e1 := HV.out; simp only [Vz] at e1; rw [e1, HGYE.out]; go_simp) ({ tmps := #[.pointer (some ⟨B, 0, none⟩), .int .i64 i, undef, undef, .pointer (some ⟨gx, 0, none⟩), .int .i64 0, .pointer (some ⟨gy, 0, none⟩), undef, .tuple #[.agg m.cells.toArray, .bool false], .pointer (some ⟨B, 0, none⟩), .int .i64 i, .tuple #[.agg m.cells.toArray, .bool false], .agg m.cells.toArray, .bool false, undef, undef, undef, undef, undef, undef, undef], defers := [] }) rfl ?_
  refine wpList_store_mid rfl 37 (.tmp 6) (.tmp 12) rfl gy 0 m.cells.toArray rfl rfl HT1.out size37 (all_oneCell_toArray (Mg.one _)) ?_
  dsimp only
  rw [← HU.out]
  clear HU HT1 HV
  go_upto_region 3 with fail
  refine wp_region_lit ?_
  refine wpl_val (v := .agg m.cells.toArray) (w1 := U) rfl (by have := BU.out U; unfold execOp; simp [this, Result.andThen]) _ rfl ?_
  refine wpList_store_mid rfl 37 (.tmp 4) (.tmp 16) rfl gx 0 m.cells.toArray rfl rfl HTH.out size37 (all_oneCell_toArray (Mg.one _)) ?_
  dsimp only
  rw [← HW7.out]
  clear HTH HW7
  go_wp2_with fail
  (try simp only [Exit.inBlock, Exit.then])
  refine bodyPost_ret (v := .tuple #[.agg m.cells.toArray, .int .i64 61]) ?_ rfl ⟨rfl, by rw [← HGX.out]; exact HBEL.out⟩
  rw [results_cell_tmp rfl]
  have hlv := run_loadVar_row (P := Tryd.prog) W7 gx 37 37 _ (0, 0) _ HBLK.out Tryd.underlying37 rfl size37
  show ((asAddr (.pointer (some ⟨gx, 0, none⟩))).run Tryd.prog W7).andThen (fun a w₁ => ((loadVar 37 a).run Tryd.prog w₁).andThen fun v w₂ => .ok (Value.tuple #[v, .int .i64 61]) w₂) = _
  simp only [asAddr, Sem.run_pure, Result.andThen_ok, hlv]

theorem take_end {w W U w3 : World} {B gx gy : Nat} {g : Option Nat} {l' : List Mg} {m : Mg} (hgx : gx = w.heap.size) (hx : W.heap[gx]? = some (.cells Vz.toArray 37 (0, 0))) (hbw : Below w.heap.size w W) (hbu : Below W.heap.size W U) (hlt : B < w.heap.size) (hglt : ∀ x, g = some x → x < w.heap.size) (hgy : W.heap.size ≤ gy) (hy : U.heap[gy]? = some (.cells m.cells.toArray 37 (0, 0)))
    (hb3 : Bag w3 B g l') (hg3 : Gone U.drew B g w3 g) : w3.heap[gy]? = some (.cells m.cells.toArray 37 (0, 0)) ∧ w3.there gx 0 25 ∧ (w3.setCells gx 0 m.cells).heap[gy]? = some (.cells m.cells.toArray 37 (0, 0)) ∧ (w3.setCells gx 0 m.cells).heap[gx]? = some (.cells m.cells.toArray 37 (0, 0)) ∧ Bag (w3.setCells gx 0 m.cells) B g l' ∧ Gone w B g (w3.setCells gx 0 m.cells) g := by
  have hxlt := lt_of_block hx
  have hx1 : U.heap[gx]? = some (.cells Vz.toArray 37 (0, 0)) := by rw [hbu.block gx hxlt]; exact hx
  have hx3 : w3.heap[gx]? = some (.cells Vz.toArray 37 (0, 0)) := by
    rw [(hg3.far (k := gx) (show gx < U.drew.heap.size from lt_of_block hx1) (by omega) (fun e => by have := hglt gx e; omega)).1]; exact hx1
  have hy3 : w3.heap[gy]? = some (.cells m.cells.toArray 37 (0, 0)) := by
    rw [(hg3.far (k := gy) (show gy < U.drew.heap.size from lt_of_block hy) (by have := hbw.size; omega) (fun e => by have := hglt gy e; have := hbw.size; omega)).1]; exact hy
  have hk : Kept (fun k => k = gx) w3 (w3.setCells gx 0 m.cells) := kept_setCells
  refine ⟨hy3, there_row hx3 rfl, ?_, by rw [setCells_block _ 37 _ _ _ _ hx3, over_zero], hb3.kept hk (by omega) (fun x e hx => by have := hglt x e; omega), ?_⟩
  · rw [hk.block gy (lt_of_block hy3) (by omega)]; exact hy3
  · have h1 : Gone w B g U.drew g := (Gone.below hbw).trans ((Gone.below hbu).trans (Gone.below (below_drew U U.heap.size)))
    exact ⟨(h1.trans hg3).1.trans hk (fun i hi e => by omega), .inl rfl⟩

set_option maxHeartbeats 8000000 in
theorem take_yes (w : World) (B : Nat) (g : Option Nat) (l : List Mg) (i : Nat) (m : Mg) (h : Bag w B g l) (hi : l[i]? = some m) :
    Calls Tryd.prog 18 #[.pointer (some ⟨B, 0, none⟩), .int .i64 i] w fun e w' => e = .returned (.tuple #[.agg m.cells.toArray, .int .i64 0]) ∧ Bag w' B g (l.eraseIdx i) ∧ Gone w B g w' g := by
  have hlt : i < l.length := (List.getElem?_eq_some_iff.1 hi).1
  obtain ⟨W, hW⟩ : ∃ W, W = w.alloc (.cells Vz.toArray 37) := ⟨_, rfl⟩
  have hb : Below w.heap.size w W := by rw [hW]; exact (Below.refl _ _).alloc (Nat.le_refl _) _
  obtain ⟨gx, hgx⟩ : ∃ gx, gx = w.heap.size := ⟨_, rfl⟩
  have HGX := Lib.hid hgx
  have HC := Lib.hid (at_yes W B g l i m (h.below hb) hi)
  have HW := Lib.hid hW
  have HBW := Lib.hid hb
  have HBG := Lib.hid (h.below hb)
  have HX := Lib.hid (show W.heap[gx]? = some (.cells Vz.toArray 37 (0, 0)) by rw [hW, hgx]; exact heap_alloc_new _ _)
  have HLT := Lib.hid h.lt
  have HI := Lib.hid hlt
  clear h hi hb hW hgx hlt
  simp only [Vz] at HW
  go_enter Tryd.func18, Tryd.ntmps18
  go_upto_region 1 with fail
  rw [← HW.out, ← HGX.out]
  clear HW
  go_wp2_with fail
  refine Calls.mono HC.out ?_
  rintro e w1 ⟨rfl, hb⟩
  obtain ⟨V, hV⟩ : ∃ V, V = w1.alloc (.cells Vz.toArray 37) := ⟨_, rfl⟩
  obtain ⟨U, hU⟩ : ∃ U, U = V.setCells w1.heap.size 0 m.cells := ⟨_, rfl⟩
  obtain ⟨u1, u2, u3⟩ := msg_new w1 m (show U = (w1.alloc (.cells Vz.toArray 37)).setCells w1.heap.size 0 m.cells by rw [hU, hV])
  rw [← hV] at u3
  have HV := Lib.hid hV
  obtain ⟨gy, hgy⟩ : ∃ gy, gy = w1.heap.size := ⟨_, rfl⟩
  have HGYE := Lib.hid hgy
  rw [← hgy] at hU u3 u1
  have hbu := hb.trans (u2.mono hb.size)
  have HGY := Lib.hid (show W.heap.size ≤ gy by rw [hgy]; exact hb.size)
  have HU := Lib.hid hU
  have HT1 := Lib.hid u3
  have HY := Lib.hid u1
  have HBU := Lib.hid hbu
  have HBG2 := Lib.hid (HBG.out.below hbu)
  clear hb HC hU u1 u2 u3 hbu HBG hV hgy
  rename_i K1 hK1 K2 hK2
  refine hK2 _ _ ?_
  clear hK2 K2
  refine wpl_val (v := .tuple #[.agg m.cells.toArray, .bool true]) (w1 := w1) rfl (by go_simp) ({ tmps := #[.pointer (some ⟨B, 0, none⟩), .int .i64 i, undef, undef, .pointer (some ⟨gx, 0, none⟩), .int .i64 0, undef, undef, .tuple #[.agg m.cells.toArray, .bool true], .pointer (some ⟨B, 0, none⟩), .int .i64 i, .tuple #[.agg m.cells.toArray, .bool true], undef, undef, undef, undef, undef, undef, undef, undef, undef], defers := [] }) rfl ?_
  refine wpl_val (v := .agg m.cells.toArray) (w1 := w1) rfl (by go_simp) ({ tmps := #[.pointer (some ⟨B, 0, none⟩), .int .i64 i, undef, undef, .pointer (some ⟨gx, 0, none⟩), .int .i64 0, undef, undef, .tuple #[.agg m.cells.toArray, .bool true], .pointer (some ⟨B, 0, none⟩), .int .i64 i, .tuple #[.agg m.cells.toArray, .bool true], .agg m.cells.toArray, undef, undef, undef, undef, undef, undef, undef, undef], defers := [] }) rfl ?_
  refine wpl_val (v := .bool true) (w1 := w1) rfl (by go_simp) ({ tmps := #[.pointer (some ⟨B, 0, none⟩), .int .i64 i, undef, undef, .pointer (some ⟨gx, 0, none⟩), .int .i64 0, undef, undef, .tuple #[.agg m.cells.toArray, .bool true], .pointer (some ⟨B, 0, none⟩), .int .i64 i, .tuple #[.agg m.cells.toArray, .bool true], .agg m.cells.toArray, .bool true, undef, undef, undef, undef, undef, undef, undef], defers := [] }) rfl ?_
  refine wpl_val (v := .pointer (some ⟨gy, 0, none⟩)) (w1 := V) rfl (by have e1 := HV.out; simp only [Vz] at e1; rw [e1, HGYE.out]; go_simp) ({ tmps := #[.pointer (some ⟨B, 0, none⟩), .int .i64 i, undef, undef, .pointer (some ⟨gx, 0, none⟩), .int .i64 0, .pointer (some ⟨gy, 0, none⟩), undef, .tuple #[.agg m.cells.toArray, .bool true], .pointer (some ⟨B, 0, none⟩), .int .i64 i, .tuple #[.agg m.cells.toArray, .bool true], .agg m.cells.toArray, .bool true, undef, undef, undef, undef, undef, undef, undef], defers := [] }) rfl ?_
  refine wpList_store_mid rfl 37 (.tmp 6) (.tmp 12) rfl gy 0 m.cells.toArray rfl rfl HT1.out size37 (all_oneCell_toArray (Mg.one _)) ?_
  dsimp only
  rw [← HU.out]
  clear HU HT1 HV
  go_wp2_with fail
  have hWd : U.drew.heap[gy]? = some (.cells m.cells.toArray 37 (0, 0)) := HY.out
  have HBD := Lib.hid (show Bag U.drew B g l from HBG2.out.below (below_drew U U.heap.size))
  refine wp_region_held_drew (S := fun w' => w'.heap[gy]? = some (.cells m.cells.toArray 37 (0, 0))) (by kernel_rfl) hWd (fun hS => ?_)
  clear hWd HBG2
  refine takeA (i := 0) (v := .agg m.cells.toArray) ({ tmps := #[.pointer (some ⟨B, 0, none⟩), .int .i64 i, undef, undef, .pointer (some ⟨gx, 0, none⟩), .int .i64 0, .pointer (some ⟨gy, 0, none⟩), .bool true, .tuple #[.agg m.cells.toArray, .bool true], .pointer (some ⟨B, 0, none⟩), .int .i64 i, .tuple #[.agg m.cells.toArray, .bool true], .agg m.cells.toArray, .bool true, .bool true, .bool false, undef, .agg m.cells.toArray, undef, undef, undef], defers := [] }) rfl (by kernel_rfl) (by kernel_rfl) (by kernel_rfl) (fun _ _ _ h => h) (.inl ⟨rfl, fun w' hS => exec_load 37 (.tmp 6) rfl rfl (msg_load hS)⟩) hS rfl ?_
  refine takeA (i := 1) (v := .pointer (some ⟨B, 0, none⟩)) ({ tmps := #[.pointer (some ⟨B, 0, none⟩), .int .i64 i, undef, undef, .pointer (some ⟨gx, 0, none⟩), .int .i64 0, .pointer (some ⟨gy, 0, none⟩), .bool true, .tuple #[.agg m.cells.toArray, .bool true], .pointer (some ⟨B, 0, none⟩), .int .i64 i, .tuple #[.agg m.cells.toArray, .bool true], .agg m.cells.toArray, .bool true, .bool true, .bool false, undef, .agg m.cells.toArray, .pointer (some ⟨B, 0, none⟩), undef, undef], defers := [] }) rfl (by kernel_rfl) (by kernel_rfl) (by kernel_rfl) (fun _ _ _ h => h) (.inl ⟨rfl, fun _ _ => rfl⟩) hS rfl ?_
  refine takeA (i := 2) (v := .int .i64 i) ({ tmps := #[.pointer (some ⟨B, 0, none⟩), .int .i64 i, undef, undef, .pointer (some ⟨gx, 0, none⟩), .int .i64 0, .pointer (some ⟨gy, 0, none⟩), .bool true, .tuple #[.agg m.cells.toArray, .bool true], .pointer (some ⟨B, 0, none⟩), .int .i64 i, .tuple #[.agg m.cells.toArray, .bool true], .agg m.cells.toArray, .bool true, .bool true, .bool false, undef, .agg m.cells.toArray, .pointer (some ⟨B, 0, none⟩), .int .i64 i, undef], defers := [] }) rfl (by kernel_rfl) (by kernel_rfl) (by kernel_rfl) (fun _ _ _ h => h) (.inl ⟨rfl, fun _ _ => rfl⟩) hS rfl ?_
  refine wpAnyH_ready (rs := [3]) (by kernel_rfl) (by simp) ?_
  refine AllReadyH.cons rfl (fun K hK => ?_) AllReadyH.nil
  rw [if_pos (by rfl)]
  go_simp
  refine Calls.mono (drop_yes U.drew B g l i HBD.out HI.out) ?_
  rintro e w3 ⟨rfl, hb3, hg3⟩
  obtain ⟨e1, e2, e3, e4, e5, e6⟩ := take_end HGX.out HX.out HBW.out HBU.out HLT.out.1 HLT.out.2 HGY.out HY.out hb3 hg3
  refine hK.out ({ tmps := #[.pointer (some ⟨B, 0, none⟩), .int .i64 i, undef, undef, .pointer (some ⟨gx, 0, none⟩), .int .i64 0, .pointer (some ⟨gy, 0, none⟩), .bool true, .tuple #[.agg m.cells.toArray, .bool true], .pointer (some ⟨B, 0, none⟩), .int .i64 i, .tuple #[.agg m.cells.toArray, .bool true], .agg m.cells.toArray, .bool true, .bool true, .bool false, undef, .agg m.cells.toArray, .pointer (some ⟨B, 0, none⟩), .int .i64 i, .int .i64 0], defers := [] }) w3 e1 (fun hS => ?_)
  clear hK K hb3 hg3 HBD
  refine wpAnyH_ready (rs := [4]) (by kernel_rfl) (by simp) ?_
  refine AllReadyH.cons rfl (fun K hK => ?_) AllReadyH.nil
  rw [if_pos (by rfl)]
  refine wp_sto (run_storeAt_mid (P := Tryd.prog) w3 gx 0 37 m.cells.toArray e2 size37 (all_oneCell_toArray (Mg.one _))) rfl rfl rfl rfl ?_
  obtain ⟨W7, hW7⟩ : ∃ W7, W7 = w3.setCells gx 0 m.cells := ⟨_, rfl⟩
  rw [← hW7] at e3 e4 e5 e6
  show K _ (w3.setCells gx 0 m.cells)
  rw [← hW7]
  refine hK.out ({ tmps := #[.pointer (some ⟨B, 0, none⟩), .int .i64 i, undef, undef, .pointer (some ⟨gx, 0, none⟩), .int .i64 0, .pointer (some ⟨gy, 0, none⟩), .bool true, .tuple #[.agg m.cells.toArray, .bool true], .pointer (some ⟨B, 0, none⟩), .int .i64 i, .tuple #[.agg m.cells.toArray, .bool true], .agg m.cells.toArray, .bool true, .bool true, .bool false, undef, .agg m.cells.toArray, .pointer (some ⟨B, 0, none⟩), .int .i64 i, .int .i64 0], defers := [] }) W7 e3 (fun hS => ?_)
  clear hK K
  refine takeA (i := 5) (v := .int .i64 0) ({ tmps := #[.pointer (some ⟨B, 0, none⟩), .int .i64 i, undef, undef, .pointer (some ⟨gx, 0, none⟩), .int .i64 0, .pointer (some ⟨gy, 0, none⟩), .bool true, .tuple #[.agg m.cells.toArray, .bool true], .pointer (some ⟨B, 0, none⟩), .int .i64 i, .tuple #[.agg m.cells.toArray, .bool true], .agg m.cells.toArray, .bool true, .bool true, .bool false, undef, .agg m.cells.toArray, .pointer (some ⟨B, 0, none⟩), .int .i64 i, .int .i64 0], defers := [] }) rfl (by kernel_rfl) (by kernel_rfl) (by kernel_rfl) (fun _ _ _ h => h) (.inl ⟨rfl, fun _ _ => rfl⟩) hS rfl ?_
  refine wpAnyH_done (by kernel_rfl) ?_ _
  have HBLK := Lib.hid e4
  have HE5 := Lib.hid e5
  have HE6 := Lib.hid e6
  clear hS e1 e2 e3 e4 e5 e6 hW7
  go_wp2_with fail
  (try simp only [Exit.inBlock, Exit.then])
  refine bodyPost_ret (v := .tuple #[.agg m.cells.toArray, .int .i64 0]) ?_ rfl ⟨rfl, HE5.out, HE6.out⟩
  rw [results_cell_tmp rfl]
  have hlv := run_loadVar_row (P := Tryd.prog) W7 gx 37 37 _ (0, 0) _ HBLK.out Tryd.underlying37 rfl size37
  show ((asAddr (.pointer (some ⟨gx, 0, none⟩))).run Tryd.prog W7).andThen (fun a w₁ => ((loadVar 37 a).run Tryd.prog w₁).andThen fun v w₂ => .ok (Value.tuple #[v, .int .i64 0]) w₂) = _
  simp only [asAddr, Sem.run_pure, Result.andThen_ok, hlv]
end Go.Proofs.YtmkeckablkccnaaDoor
