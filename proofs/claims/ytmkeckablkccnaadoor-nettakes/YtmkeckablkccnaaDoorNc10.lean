/- The bag since a world; the document's query. -/
import Derived.Test.YtmkeckablkccnaaDoorNc9
namespace Go.Proofs.YtmkeckablkccnaaDoor
open Go.RowKit
set_option maxRecDepth 100000

/-- since w0: a bag at B -/
structure Bo (w0 w : World) (B : Nat) (g : Option Nat) (l : List Mg) : Prop where
  bag : Bag w B g l
  bel : Below w0.heap.size w0 w
  hB : w0.heap.size ≤ B
  hg : ∀ x, g = some x → w0.heap.size ≤ x
theorem Bo.step {w0 w w' : World} {B : Nat} {g g' : Option Nat} {l l' : List Mg} (h : Bo w0 w B g l) (hb : Bag w' B g' l') (hk : Gone w B g w' g') : Bo w0 w' B g' l' := by
  have hs := h.bel.size
  refine ⟨hb, h.bel.trans (hk.1.below hs (fun k e => ?_)), h.hB, fun x e => ?_⟩
  · rcases e with e | e
    · rw [e]; exact h.hB
    · exact h.hg k e.symm
  · rcases hk.2 with e1 | e1 | ⟨y, e1, hy⟩
    · exact h.hg x (by rw [← e1, e])
    · rw [e1] at e; injection e with e; omega
    · rw [e1] at e; injection e with e; omega
theorem Bo.below {w0 w w' : World} {B : Nat} {g : Option Nat} {l : List Mg} (h : Bo w0 w B g l) (hb : Below w.heap.size w w') : Bo w0 w' B g l := h.step (h.bag.below hb) (Gone.below hb)
theorem Bo.tab {w0 w : World} {B : Nat} {g : Option Nat} {l : List Mg} (h : Bo w0 w B g l) (ht : Tab w0) : Tab w := Tab.on ht h.bel

def qM (t : Int) : Mg := { zeroM with k := 9, f := 0, t := t, e := 1, ct := 1 }
theorem qM_nil (t : Int) : Mnil (qM t) := ⟨⟨rfl, rfl, rfl⟩, rfl, rfl, rfl⟩
theorem qM_is1 : isM (qM 1) Mc.nil = true := by decide +kernel
theorem qM_is2 : isM (qM 2) Mc.nil = true := by decide +kernel
theorem qM_is3 : isM (qM 3) Mc.nil = true := by decide +kernel
theorem zeroM_is : isM zeroM Mc.nil = false := by decide +kernel

set_option maxHeartbeats 4000000 in
theorem query26 (w : World) (t : Int) : Calls Tryd.prog 26 #[.int .u8 t] w fun e w' => e = .returned (.agg (qM t).cells.toArray) ∧ Below w.heap.size w w' := by
  obtain ⟨W, hW⟩ : ∃ W, W = w.alloc (.cells Vz.toArray 37) := ⟨_, rfl⟩
  obtain ⟨gx, hgx⟩ : ∃ gx, gx = w.heap.size := ⟨_, rfl⟩
  have HGX := Lib.hid hgx
  obtain ⟨r1, r2, r3⟩ := res_store (qM t) hW hgx (Below.refl W.heap.size W)
  obtain ⟨W7, hW7⟩ : ∃ W7, W7 = W.setCells gx 0 (qM t).cells := ⟨_, rfl⟩
  rw [← hW7] at r2 r3
  have HTH := Lib.hid r1
  have HBLK := Lib.hid r2
  have HBEL := Lib.hid r3
  have HW7 := Lib.hid hW7
  have HW := Lib.hid hW
  clear r1 r2 r3 hW7 hW hgx
  simp only [Vz] at HW
  go_enter Tryd.func26, Tryd.ntmps26
  go_upto_region 1 with fail
  rw [← HW.out, ← HGX.out]
  clear HW
  refine wp_region_lit ?_
  refine wpl_val (v := .int .u8 t) (w1 := W) rfl (by go_simp) ({ tmps := #[.int .u8 t, undef, .pointer (some ⟨gx, 0, none⟩), .int .u8 t, undef], defers := [] }) rfl ?_
  refine wpl_val (v := .agg (qM t).cells.toArray) (w1 := W) rfl (by simp only [qM, zeroM, Mg.cells, Rq.zero, Vt.zero]; go_simp) _ rfl ?_
  refine wpList_store_mid rfl 37 (.tmp 2) (.tmp 4) rfl gx 0 (qM t).cells.toArray rfl rfl HTH.out size37 (all_oneCell_toArray (Mg.one _)) ?_
  dsimp only
  rw [← HW7.out]
  clear HTH HW7
  go_wp2_with fail
  (try simp only [Exit.inBlock, Exit.then])
  refine bodyPost_ret (results_cell_row (P := Tryd.prog) rfl _ _ gx 37 _ (0, 0) _ rfl HBLK.out Tryd.underlying37 rfl size37) rfl ?_
  exact ⟨rfl, by rw [← HGX.out]; exact HBEL.out⟩
end Go.Proofs.YtmkeckablkccnaaDoor
