/- A request, a mark, an entry are read. -/
import Derived.Test.YtmkeckablkccnaaDoorSr1
import Derived.Test.YtmkeckablkccnaaDoorKindsB
namespace Go.Proofs.YtmkeckablkccnaaDoor
open Go.RowKit
set_option maxRecDepth 100000

def pRq (s : Sr) : Rq × Sr := (⟨(p8 s).1, (p32 (p8 s).2).1, (p8 (p32 (p8 s).2).2).1, (p8 (p8 (p32 (p8 s).2).2).2).1, (p16 (p8 (p8 (p32 (p8 s).2).2).2).2).1⟩, (p16 (p8 (p8 (p32 (p8 s).2).2).2).2).2)
def pMk (s : Sr) : Mk × Sr := (⟨(p32 s).1, (p64 (p32 s).2).1⟩, (p64 (p32 s).2).2)
def pEn (s : Sr) : En × Sr := (⟨(p32 s).1, (p32 (p32 s).2).1, (pRq (p32 (p32 s).2).2).1⟩, (pRq (p32 (p32 s).2).2).2)

/-- what a block of the call's own is, behind calls on a source -/
theorem own_block {S R g : Nat} {w w' : World} {x : Option Obj} (hk : Kept (SR S R) w w') (h : w.heap[g]? = x) (hlt : g < w.heap.size) (hS : g ≠ S) (hR : g ≠ R) : w'.heap[g]? = x := by
  rw [hk.block g hlt (fun e => by rcases e with e | e; exact hS e; exact hR e)]; exact h
theorem there_row {w : World} {g n : Nat} {Z : Array Value} {T : TypeId} (h : w.heap[g]? = some (.cells Z T (0, 0))) (hn : Z.size = n) : w.there g 0 n := by
  intro i hi
  refine ⟨?_, frozen_of_row _ _ _ _ _ h⟩
  rw [cell_of_row _ _ _ _ _ _ h]; simp; omega
theorem Kept.new {S R g : Nat} {w W w5 : World} {vs : List Value} (hb : Below w.heap.size w W) (hk : Kept (SR S R) W w5) (hg : w.heap.size ≤ g) : Kept (SR S R) w (w5.setCells g 0 vs) := by
  have h1 : Kept (SR S R) w w5 := (Kept.ofBelow (S := SR S R) hb).trans hk (fun _ _ h => h)
  have hh := fun k (h : k ≠ g) => setCells_kept g vs 0 w5 k h
  refine ⟨?_, ?_, ?_, ?_, fun k hk' hs => ?_⟩
  · rw [(hh (g + 1) (by omega)).2.2.1]; exact h1.os
  · rw [(hh (g + 1) (by omega)).2.2.2.1]; exact h1.tape
  · rw [(hh (g + 1) (by omega)).2.2.2.2]; exact h1.output
  · rw [(hh (g + 1) (by omega)).2.1]; exact h1.size
  · rw [(hh k (by omega)).1]; exact h1.block k hk' hs
theorem Kept.apart {g : Nat} {w : World} {vs : List Value} : Kept (fun k => k = g) w (w.setCells g 0 vs) := by
  have hh := fun k (h : k ≠ g) => setCells_kept g vs 0 w k h
  refine ⟨?_, ?_, ?_, ?_, fun k hk' hs => ?_⟩
  · rw [(hh (g + 1) (by omega)).2.2.1]
  · rw [(hh (g + 1) (by omega)).2.2.2.1]
  · rw [(hh (g + 1) (by omega)).2.2.2.2]
  · rw [(hh (g + 1) (by omega)).2.1]; exact Nat.le_refl _
  · exact (hh k hs).1
theorem size51 : (Tryd.prog.info? 127).map (·.size) = some 2 := by kernel_rfl
theorem size49 : (Tryd.prog.info? 130).map (·.size) = some 7 := by kernel_rfl

theorem over_req (x : Rq) : over #[.int .u8 0, .int .u32 0, .int .u8 0, .int .u8 0, .int .u16 0] 0 x.cells = x.cells.toArray := by
  simp only [over, Rq.cells, List.setIfInBounds_toArray, List.set_cons_zero, List.set_cons_succ, Nat.zero_add, Nat.reduceAdd]

set_option maxHeartbeats 4000000 in
theorem req_any (w : World) (S R : Nat) (s : Sr) (h : Sat w S R s) :
    Calls Tryd.prog 68 #[.pointer (some ⟨S, 0, none⟩)] w fun e w' => e = .returned (.agg (pRq s).1.cells.toArray) ∧ Sat w' S R (pRq s).2 ∧ Kept (SR S R) w w' := by
  obtain ⟨W, hW⟩ : ∃ W, W = w.alloc (.cells #[.int .u8 0, .int .u32 0, .int .u8 0, .int .u8 0, .int .u16 0] 27) := ⟨_, rfl⟩
  have hbl : Below w.heap.size w W := by rw [hW]; exact (Below.refl _ _).alloc (Nat.le_refl _) _
  have hbx : W.heap[w.heap.size]? = some (.cells #[.int .u8 0, .int .u32 0, .int .u8 0, .int .u8 0, .int .u16 0] 27 (0, 0)) := by rw [hW]; exact heap_alloc_new _ _
  have hsat := h.on hbl
  have hgS : w.heap.size ≠ S := by have := h.lt; omega
  have hgR : R < w.heap.size := h.lt.2
  have HGS := Lib.hid hgS
  have HGR := Lib.hid hgR
  have HBL := Lib.hid hbl
  have HBX := Lib.hid hbx
  have HS0 := Lib.hid hsat
  have HK0 := Lib.hid (Kept.refl (SR S R) W)
  have HW := Lib.hid hW
  obtain ⟨X, hX⟩ : ∃ X, X = pRq s := ⟨_, rfl⟩
  rw [← hX]
  unfold pRq at hX
  have HX := Lib.hid hX
  clear h hW hbl hbx hsat hgS hgR hX
  obtain ⟨gx, hgx⟩ : ∃ g, g = w.heap.size := ⟨_, rfl⟩
  have HGX := Lib.hid (show w.heap.size ≤ gx by omega)
  rw [← hgx] at HGS HGR HBX
  have HGE := Lib.hid hgx
  clear hgx
  go_enter Tryd.func68, Tryd.ntmps68
  go_upto_region 1 with fail
  rw [← HW.out, ← HGE.out]
  clear HW HGE
  go_wp2_with fail
  refine Calls.mono (s8 _ S R _ HS0.out) ?_
  rintro e w1 ⟨rfl, h, k⟩
  have HS1 := Lib.hid h
  have HK1 := Lib.hid (HK0.out.trans k (fun _ _ h => h))
  clear h k HS0 HK0
  go_wp2_with fail
  refine Calls.mono (s32 _ S R _ HS1.out) ?_
  rintro e w2 ⟨rfl, h, k⟩
  have HS2 := Lib.hid h
  have HK2 := Lib.hid (HK1.out.trans k (fun _ _ h => h))
  clear h k HS1 HK1
  go_wp2_with fail
  refine Calls.mono (s8 _ S R _ HS2.out) ?_
  rintro e w3 ⟨rfl, h, k⟩
  have HS3 := Lib.hid h
  have HK3 := Lib.hid (HK2.out.trans k (fun _ _ h => h))
  clear h k HS2 HK2
  go_wp2_with fail
  refine Calls.mono (s8 _ S R _ HS3.out) ?_
  rintro e w4 ⟨rfl, h, k⟩
  have HS4 := Lib.hid h
  have HK4 := Lib.hid (HK3.out.trans k (fun _ _ h => h))
  clear h k HS3 HK3
  go_wp2_with fail
  refine Calls.mono (s16 _ S R _ HS4.out) ?_
  rintro e w5 ⟨rfl, h, k⟩
  have HS5 := Lib.hid h
  have HK5 := Lib.hid (HK4.out.trans k (fun _ _ h => h))
  clear h k HS4 HK4
  have HB := Lib.hid (own_block HK5.out HBX.out (lt_of_block HBX.out) HGS.out (by have := HGR.out; omega))
  have HTH := Lib.hid (there_row HB.out rfl)
  have HXC := Lib.hid (show X.1.cells.toArray = #[.int .u8 (p8 s).1, .int .u32 (p32 (p8 s).2).1, .int .u8 (p8 (p32 (p8 s).2).2).1, .int .u8 (p8 (p8 (p32 (p8 s).2).2).2).1, .int .u16 (p16 (p8 (p8 (p32 (p8 s).2).2).2).2).1] by rw [HX.out]; rfl)
  have HX2 := Lib.hid (show X.2 = (p16 (p8 (p8 (p32 (p8 s).2).2).2).2).2 by rw [HX.out])
  go_wp2_with (first | (refine wpList_store_mid rfl 27 (.tmp 2) (.tmp 14) rfl gx 0 X.1.cells.toArray rfl (by rw [HXC.out]; rfl) HTH.out size27 (all_oneCell_toArray (by intro u hu; simp [Rq.cells] at hu; (repeat' (rcases hu with rfl | hu)); all_goals first | rfl | (subst hu; rfl))) ?_; refine Hid.out ?_) | go_in)
  refine Lib.hid ?_
  have HF := Lib.hid (show (w5.setCells gx 0 X.1.cells).heap[gx]? = some (.cells X.1.cells.toArray 27 (0, 0)) by rw [setCells_block _ 27 _ _ _ _ HB.out, over_req])
  have HFS := Lib.hid (show Sat (w5.setCells gx 0 X.1.cells) S R X.2 by rw [HX2.out]; exact HS5.out.kept Kept.apart (fun e => HGS.out e.symm) (fun k hk e => by have := HGR.out; omega))
  have HFK := Lib.hid (Kept.new (vs := X.1.cells) HBL.out HK5.out HGX.out)
  generalize w5.setCells gx 0 X.1.cells = w9 at *
  clear HB HTH HS5 HK5 HXC HX2 HX HBX
  go_wp2_with fail
  (try simp only [Exit.inBlock, Exit.then])
  refine bodyPost_ret (results_cell_row (P := Tryd.prog) rfl _ _ gx 27 _ (0, 0) _ rfl HF.out Tryd.underlying27 rfl size27) rfl ?_
  exact ⟨rfl, HFS.out, HFK.out⟩

theorem over_mark (x : Mk) : over #[.int .u32 0, .int .u64 0] 0 x.cells = x.cells.toArray := by
  simp only [over, Mk.cells, List.setIfInBounds_toArray, List.set_cons_zero, List.set_cons_succ, Nat.zero_add]

set_option maxHeartbeats 4000000 in
theorem mark_any (w : World) (S R : Nat) (s : Sr) (h : Sat w S R s) :
    Calls Tryd.prog 105 #[.pointer (some ⟨S, 0, none⟩)] w fun e w' => e = .returned (.agg (pMk s).1.cells.toArray) ∧ Sat w' S R (pMk s).2 ∧ Kept (SR S R) w w' := by
  obtain ⟨W, hW⟩ : ∃ W, W = w.alloc (.cells #[.int .u32 0, .int .u64 0] 127) := ⟨_, rfl⟩
  have hbl : Below w.heap.size w W := by rw [hW]; exact (Below.refl _ _).alloc (Nat.le_refl _) _
  have hbx : W.heap[w.heap.size]? = some (.cells #[.int .u32 0, .int .u64 0] 127 (0, 0)) := by rw [hW]; exact heap_alloc_new _ _
  have hsat := h.on hbl
  have hgS : w.heap.size ≠ S := by have := h.lt; omega
  have hgR : R < w.heap.size := h.lt.2
  have HGS := Lib.hid hgS
  have HGR := Lib.hid hgR
  have HBL := Lib.hid hbl
  have HBX := Lib.hid hbx
  have HS0 := Lib.hid hsat
  have HK0 := Lib.hid (Kept.refl (SR S R) W)
  have HW := Lib.hid hW
  obtain ⟨X, hX⟩ : ∃ X, X = pMk s := ⟨_, rfl⟩
  rw [← hX]
  unfold pMk at hX
  have HX := Lib.hid hX
  clear h hW hbl hbx hsat hgS hgR hX
  obtain ⟨gx, hgx⟩ : ∃ g, g = w.heap.size := ⟨_, rfl⟩
  have HGX := Lib.hid (show w.heap.size ≤ gx by omega)
  rw [← hgx] at HGS HGR HBX
  have HGE := Lib.hid hgx
  clear hgx
  go_enter Tryd.func105, Tryd.ntmps105
  go_upto_region 1 with fail
  rw [← HW.out, ← HGE.out]
  clear HW HGE
  go_wp2_with fail
  refine Calls.mono (s32 _ S R _ HS0.out) ?_
  rintro e w1 ⟨rfl, h, k⟩
  have HS1 := Lib.hid h
  have HK1 := Lib.hid (HK0.out.trans k (fun _ _ h => h))
  clear h k HS0 HK0
  go_wp2_with fail
  refine Calls.mono (s64 _ S R _ HS1.out) ?_
  rintro e w2 ⟨rfl, h, k⟩
  have HS2 := Lib.hid h
  have HK2 := Lib.hid (HK1.out.trans k (fun _ _ h => h))
  clear h k HS1 HK1
  have HB := Lib.hid (own_block HK2.out HBX.out (lt_of_block HBX.out) HGS.out (by have := HGR.out; omega))
  have HTH := Lib.hid (there_row HB.out rfl)
  have HXC := Lib.hid (show X.1.cells.toArray = #[.int .u32 (p32 s).1, .int .u64 (p64 (p32 s).2).1] by rw [HX.out]; rfl)
  have HX2 := Lib.hid (show X.2 = (p64 (p32 s).2).2 by rw [HX.out])
  go_wp2_with (first | (refine wpList_store_mid rfl 127 (.tmp 2) (.tmp 7) rfl gx 0 X.1.cells.toArray rfl (by rw [HXC.out]; rfl) HTH.out size51 (all_oneCell_toArray (by intro u hu; simp [Mk.cells] at hu; (repeat' (rcases hu with rfl | hu)); all_goals first | rfl | (subst hu; rfl))) ?_; refine Hid.out ?_) | go_in)
  refine Lib.hid ?_
  have HF := Lib.hid (show (w2.setCells gx 0 X.1.cells).heap[gx]? = some (.cells X.1.cells.toArray 127 (0, 0)) by rw [setCells_block _ 127 _ _ _ _ HB.out, over_mark])
  have HFS := Lib.hid (show Sat (w2.setCells gx 0 X.1.cells) S R X.2 by rw [HX2.out]; exact HS2.out.kept Kept.apart (fun e => HGS.out e.symm) (fun k hk e => by have := HGR.out; omega))
  have HFK := Lib.hid (Kept.new (vs := X.1.cells) HBL.out HK2.out HGX.out)
  generalize w2.setCells gx 0 X.1.cells = w9 at *
  clear HB HTH HS2 HK2 HXC HX2 HX HBX
  go_wp2_with fail
  (try simp only [Exit.inBlock, Exit.then])
  refine bodyPost_ret (results_cell_row (P := Tryd.prog) rfl _ _ gx 127 _ (0, 0) _ rfl HF.out Tryd.underlying127 rfl size51) rfl ?_
  exact ⟨rfl, HFS.out, HFK.out⟩

theorem over_entry (x : En) : over #[.int .u32 0, .int .u32 0, .int .u8 0, .int .u32 0, .int .u8 0, .int .u8 0, .int .u16 0] 0 x.cells = x.cells.toArray := by
  simp only [over, En.cells, List.setIfInBounds_toArray, List.set_cons_zero, List.set_cons_succ, Nat.zero_add, Nat.reduceAdd]

set_option maxHeartbeats 4000000 in
theorem entry_any (w : World) (S R : Nat) (s : Sr) (h : Sat w S R s) :
    Calls Tryd.prog 107 #[.pointer (some ⟨S, 0, none⟩)] w fun e w' => e = .returned (.agg (pEn s).1.cells.toArray) ∧ Sat w' S R (pEn s).2 ∧ Kept (SR S R) w w' := by
  obtain ⟨W, hW⟩ : ∃ W, W = w.alloc (.cells #[.int .u32 0, .int .u32 0, .int .u8 0, .int .u32 0, .int .u8 0, .int .u8 0, .int .u16 0] 130) := ⟨_, rfl⟩
  have hbl : Below w.heap.size w W := by rw [hW]; exact (Below.refl _ _).alloc (Nat.le_refl _) _
  have hbx : W.heap[w.heap.size]? = some (.cells #[.int .u32 0, .int .u32 0, .int .u8 0, .int .u32 0, .int .u8 0, .int .u8 0, .int .u16 0] 130 (0, 0)) := by rw [hW]; exact heap_alloc_new _ _
  have hsat := h.on hbl
  have hgS : w.heap.size ≠ S := by have := h.lt; omega
  have hgR : R < w.heap.size := h.lt.2
  have HGS := Lib.hid hgS
  have HGR := Lib.hid hgR
  have HBL := Lib.hid hbl
  have HBX := Lib.hid hbx
  have HS0 := Lib.hid hsat
  have HK0 := Lib.hid (Kept.refl (SR S R) W)
  have HW := Lib.hid hW
  obtain ⟨X, hX⟩ : ∃ X, X = pEn s := ⟨_, rfl⟩
  rw [← hX]
  unfold pEn at hX
  have HX := Lib.hid hX
  clear h hW hbl hbx hsat hgS hgR hX
  obtain ⟨gx, hgx⟩ : ∃ g, g = w.heap.size := ⟨_, rfl⟩
  have HGX := Lib.hid (show w.heap.size ≤ gx by omega)
  rw [← hgx] at HGS HGR HBX
  have HGE := Lib.hid hgx
  clear hgx
  go_enter Tryd.func107, Tryd.ntmps107
  go_upto_region 1 with fail
  rw [← HW.out, ← HGE.out]
  clear HW HGE
  go_wp2_with fail
  refine Calls.mono (s32 _ S R _ HS0.out) ?_
  rintro e w1 ⟨rfl, h, k⟩
  have HS1 := Lib.hid h
  have HK1 := Lib.hid (HK0.out.trans k (fun _ _ h => h))
  clear h k HS0 HK0
  go_wp2_with fail
  refine Calls.mono (s32 _ S R _ HS1.out) ?_
  rintro e w2 ⟨rfl, h, k⟩
  have HS2 := Lib.hid h
  have HK2 := Lib.hid (HK1.out.trans k (fun _ _ h => h))
  clear h k HS1 HK1
  go_wp2_with fail
  refine Calls.mono (req_any _ S R _ HS2.out) ?_
  rintro e w3 ⟨rfl, h, k⟩
  have HS3 := Lib.hid h
  have HK3 := Lib.hid (HK2.out.trans k (fun _ _ h => h))
  clear h k HS2 HK2
  simp only [Rq.cells]
  have HB := Lib.hid (own_block HK3.out HBX.out (lt_of_block HBX.out) HGS.out (by have := HGR.out; omega))
  have HTH := Lib.hid (there_row HB.out rfl)
  have HXC := Lib.hid (show X.1.cells.toArray = #[.int .u32 (p32 s).1, .int .u32 (p32 (p32 s).2).1, .int .u8 (pRq (p32 (p32 s).2).2).1.c, .int .u32 (pRq (p32 (p32 s).2).2).1.t, .int .u8 (pRq (p32 (p32 s).2).2).1.k, .int .u8 (pRq (p32 (p32 s).2).2).1.y, .int .u16 (pRq (p32 (p32 s).2).2).1.v] by rw [HX.out]; rfl)
  have HX2 := Lib.hid (show X.2 = (pRq (p32 (p32 s).2).2).2 by rw [HX.out])
  go_wp2_with (first | (refine wpList_store_mid rfl 130 (.tmp 2) (.tmp 9) rfl gx 0 X.1.cells.toArray rfl (by rw [HXC.out]; rfl) HTH.out size49 (all_oneCell_toArray (by intro u hu; simp [En.cells] at hu; (repeat' (rcases hu with rfl | hu)); all_goals first | rfl | (subst hu; rfl))) ?_; refine Hid.out ?_) | go_in)
  refine Lib.hid ?_
  have HF := Lib.hid (show (w3.setCells gx 0 X.1.cells).heap[gx]? = some (.cells X.1.cells.toArray 130 (0, 0)) by rw [setCells_block _ 130 _ _ _ _ HB.out, over_entry])
  have HFS := Lib.hid (show Sat (w3.setCells gx 0 X.1.cells) S R X.2 by rw [HX2.out]; exact HS3.out.kept Kept.apart (fun e => HGS.out e.symm) (fun k hk e => by have := HGR.out; omega))
  have HFK := Lib.hid (Kept.new (vs := X.1.cells) HBL.out HK3.out HGX.out)
  generalize w3.setCells gx 0 X.1.cells = w9 at *
  clear HB HTH HS3 HK3 HXC HX2 HX HBX
  go_wp2_with fail
  (try simp only [Exit.inBlock, Exit.then])
  refine bodyPost_ret (results_cell_row (P := Tryd.prog) rfl _ _ gx 130 _ (0, 0) _ rfl HF.out Tryd.underlying130 rfl size49) rfl ?_
  exact ⟨rfl, HFS.out, HFK.out⟩
end Go.Proofs.YtmkeckablkccnaaDoor
