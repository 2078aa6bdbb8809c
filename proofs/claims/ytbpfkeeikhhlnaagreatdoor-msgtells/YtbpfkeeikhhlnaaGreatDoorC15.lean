/- The document's Same: messages whose plain fields differ. -/
import Derived.Test.YtbpfkeeikhhlnaaGreatDoorC03
import Derived.Deep.CutRange
namespace Go.Proofs.YtbpfkeeikhhlnaaGreatDoor
open Go.RowKit
set_option maxRecDepth 100000

set_option maxHeartbeats 8000000 in
theorem refSame_ne0 (w : World) (a b : Mg)  (e0 : ¬ a.k = b.k) :
    Calls Tryz.prog 17 #[.agg a.cells.toArray, .agg b.cells.toArray] w fun e w' => e = .returned (.bool false) ∧ Below w.heap.size w w' := by
  have d0 : (a.k != b.k) = true := by simp [e0]
  clear e0
  obtain ⟨W, hW⟩ : ∃ W, W = (w.alloc (.cells a.cells.toArray 37)).alloc (.cells b.cells.toArray 37) := ⟨_, rfl⟩
  have hWs : W.heap.size = w.heap.size + 2 := by rw [hW]; simp
  have hWb := bl2 hW
  have FA := Lib.hid (fa2 hW)
  have FB := Lib.hid (fb2 hW)
  have HWB := Lib.hid hWb
  have hW0 := Below.refl W.heap.size W
  have a0 : W.cell? ⟨w.heap.size, 0, none⟩ = some (.int .u8 a.k) := by rw [cell_box (FA.out W hW0)]; rfl
  have b0 : W.cell? ⟨w.heap.size + 1, 0, none⟩ = some (.int .u8 b.k) := by rw [cell_box (FB.out W hW0)]; rfl
  have hWc := hW
  simp only [Mg.cells] at hWc ⊢
  have HW := Lib.hid hWc
  clear hWb hWs hW hWc hW0
  go_enter Tryz.func17, Tryz.ntmps17
  go_upto_region 1 with fail
  rw [← HW.out]
  clear HW FA FB
  try rw [mgA a]
  generalize a.cells.toArray = xa
  try rw [mgA b]
  generalize b.cells.toArray = xb
  go_wp2_with fail
  go_ret
  exact ⟨rfl, HWB.out⟩

set_option maxHeartbeats 8000000 in
theorem refSame_ne1 (w : World) (a b : Mg) (e0 : a.k = b.k) (e1 : ¬ a.f = b.f) :
    Calls Tryz.prog 17 #[.agg a.cells.toArray, .agg b.cells.toArray] w fun e w' => e = .returned (.bool false) ∧ Below w.heap.size w w' := by
  have d0 : (a.k != b.k) = false := by simp [e0]
  have d1 : (a.f != b.f) = true := by simp [e1]
  clear e0 e1
  obtain ⟨W, hW⟩ : ∃ W, W = (w.alloc (.cells a.cells.toArray 37)).alloc (.cells b.cells.toArray 37) := ⟨_, rfl⟩
  have hWs : W.heap.size = w.heap.size + 2 := by rw [hW]; simp
  have hWb := bl2 hW
  have FA := Lib.hid (fa2 hW)
  have FB := Lib.hid (fb2 hW)
  have HWB := Lib.hid hWb
  have hW0 := Below.refl W.heap.size W
  have a0 : W.cell? ⟨w.heap.size, 0, none⟩ = some (.int .u8 a.k) := by rw [cell_box (FA.out W hW0)]; rfl
  have b0 : W.cell? ⟨w.heap.size + 1, 0, none⟩ = some (.int .u8 b.k) := by rw [cell_box (FB.out W hW0)]; rfl
  have a1 : W.cell? ⟨w.heap.size, 1, none⟩ = some (.int .u8 a.f) := by rw [cell_box (FA.out W hW0)]; rfl
  have b1 : W.cell? ⟨w.heap.size + 1, 1, none⟩ = some (.int .u8 b.f) := by rw [cell_box (FB.out W hW0)]; rfl
  have hWc := hW
  simp only [Mg.cells] at hWc ⊢
  have HW := Lib.hid hWc
  clear hWb hWs hW hWc hW0
  go_enter Tryz.func17, Tryz.ntmps17
  go_upto_region 1 with fail
  rw [← HW.out]
  clear HW FA FB
  try rw [mgA a]
  generalize a.cells.toArray = xa
  try rw [mgA b]
  generalize b.cells.toArray = xb
  go_wp2_with fail
  go_ret
  exact ⟨rfl, HWB.out⟩

set_option maxHeartbeats 8000000 in
theorem refSame_ne2 (w : World) (a b : Mg) (e0 : a.k = b.k) (e1 : a.f = b.f) (e2 : ¬ a.t = b.t) :
    Calls Tryz.prog 17 #[.agg a.cells.toArray, .agg b.cells.toArray] w fun e w' => e = .returned (.bool false) ∧ Below w.heap.size w w' := by
  have d0 : (a.k != b.k) = false := by simp [e0]
  have d1 : (a.f != b.f) = false := by simp [e1]
  have d2 : (a.t != b.t) = true := by simp [e2]
  clear e0 e1 e2
  obtain ⟨W, hW⟩ : ∃ W, W = (w.alloc (.cells a.cells.toArray 37)).alloc (.cells b.cells.toArray 37) := ⟨_, rfl⟩
  have hWs : W.heap.size = w.heap.size + 2 := by rw [hW]; simp
  have hWb := bl2 hW
  have FA := Lib.hid (fa2 hW)
  have FB := Lib.hid (fb2 hW)
  have HWB := Lib.hid hWb
  have hW0 := Below.refl W.heap.size W
  have a0 : W.cell? ⟨w.heap.size, 0, none⟩ = some (.int .u8 a.k) := by rw [cell_box (FA.out W hW0)]; rfl
  have b0 : W.cell? ⟨w.heap.size + 1, 0, none⟩ = some (.int .u8 b.k) := by rw [cell_box (FB.out W hW0)]; rfl
  have a1 : W.cell? ⟨w.heap.size, 1, none⟩ = some (.int .u8 a.f) := by rw [cell_box (FA.out W hW0)]; rfl
  have b1 : W.cell? ⟨w.heap.size + 1, 1, none⟩ = some (.int .u8 b.f) := by rw [cell_box (FB.out W hW0)]; rfl
  have a2 : W.cell? ⟨w.heap.size, 2, none⟩ = some (.int .u8 a.t) := by rw [cell_box (FA.out W hW0)]; rfl
  have b2 : W.cell? ⟨w.heap.size + 1, 2, none⟩ = some (.int .u8 b.t) := by rw [cell_box (FB.out W hW0)]; rfl
  have hWc := hW
  simp only [Mg.cells] at hWc ⊢
  have HW := Lib.hid hWc
  clear hWb hWs hW hWc hW0
  go_enter Tryz.func17, Tryz.ntmps17
  go_upto_region 1 with fail
  rw [← HW.out]
  clear HW FA FB
  try rw [mgA a]
  generalize a.cells.toArray = xa
  try rw [mgA b]
  generalize b.cells.toArray = xb
  go_wp2_with fail
  go_ret
  exact ⟨rfl, HWB.out⟩

set_option maxHeartbeats 8000000 in
theorem refSame_ne3 (w : World) (a b : Mg) (e0 : a.k = b.k) (e1 : a.f = b.f) (e2 : a.t = b.t) (e3 : ¬ a.e = b.e) :
    Calls Tryz.prog 17 #[.agg a.cells.toArray, .agg b.cells.toArray] w fun e w' => e = .returned (.bool false) ∧ Below w.heap.size w w' := by
  have d0 : (a.k != b.k) = false := by simp [e0]
  have d1 : (a.f != b.f) = false := by simp [e1]
  have d2 : (a.t != b.t) = false := by simp [e2]
  have d3 : (a.e != b.e) = true := by simp [e3]
  clear e0 e1 e2 e3
  obtain ⟨W, hW⟩ : ∃ W, W = (w.alloc (.cells a.cells.toArray 37)).alloc (.cells b.cells.toArray 37) := ⟨_, rfl⟩
  have hWs : W.heap.size = w.heap.size + 2 := by rw [hW]; simp
  have hWb := bl2 hW
  have FA := Lib.hid (fa2 hW)
  have FB := Lib.hid (fb2 hW)
  have HWB := Lib.hid hWb
  have hW0 := Below.refl W.heap.size W
  have a0 : W.cell? ⟨w.heap.size, 0, none⟩ = some (.int .u8 a.k) := by rw [cell_box (FA.out W hW0)]; rfl
  have b0 : W.cell? ⟨w.heap.size + 1, 0, none⟩ = some (.int .u8 b.k) := by rw [cell_box (FB.out W hW0)]; rfl
  have a1 : W.cell? ⟨w.heap.size, 1, none⟩ = some (.int .u8 a.f) := by rw [cell_box (FA.out W hW0)]; rfl
  have b1 : W.cell? ⟨w.heap.size + 1, 1, none⟩ = some (.int .u8 b.f) := by rw [cell_box (FB.out W hW0)]; rfl
  have a2 : W.cell? ⟨w.heap.size, 2, none⟩ = some (.int .u8 a.t) := by rw [cell_box (FA.out W hW0)]; rfl
  have b2 : W.cell? ⟨w.heap.size + 1, 2, none⟩ = some (.int .u8 b.t) := by rw [cell_box (FB.out W hW0)]; rfl
  have a3 : W.cell? ⟨w.heap.size, 3, none⟩ = some (.int .u8 a.e) := by rw [cell_box (FA.out W hW0)]; rfl
  have b3 : W.cell? ⟨w.heap.size + 1, 3, none⟩ = some (.int .u8 b.e) := by rw [cell_box (FB.out W hW0)]; rfl
  have hWc := hW
  simp only [Mg.cells] at hWc ⊢
  have HW := Lib.hid hWc
  clear hWb hWs hW hWc hW0
  go_enter Tryz.func17, Tryz.ntmps17
  go_upto_region 1 with fail
  rw [← HW.out]
  clear HW FA FB
  try rw [mgA a]
  generalize a.cells.toArray = xa
  try rw [mgA b]
  generalize b.cells.toArray = xb
  go_wp2_with fail
  go_ret
  exact ⟨rfl, HWB.out⟩

set_option maxHeartbeats 8000000 in
theorem refSame_ne4 (w : World) (a b : Mg) (e0 : a.k = b.k) (e1 : a.f = b.f) (e2 : a.t = b.t) (e3 : a.e = b.e) (e4 : ¬ a.vw = b.vw) :
    Calls Tryz.prog 17 #[.agg a.cells.toArray, .agg b.cells.toArray] w fun e w' => e = .returned (.bool false) ∧ Below w.heap.size w w' := by
  have d0 : (a.k != b.k) = false := by simp [e0]
  have d1 : (a.f != b.f) = false := by simp [e1]
  have d2 : (a.t != b.t) = false := by simp [e2]
  have d3 : (a.e != b.e) = false := by simp [e3]
  have d4 : (a.vw != b.vw) = true := by simp [e4]
  clear e0 e1 e2 e3 e4
  obtain ⟨W, hW⟩ : ∃ W, W = (w.alloc (.cells a.cells.toArray 37)).alloc (.cells b.cells.toArray 37) := ⟨_, rfl⟩
  have hWs : W.heap.size = w.heap.size + 2 := by rw [hW]; simp
  have hWb := bl2 hW
  have FA := Lib.hid (fa2 hW)
  have FB := Lib.hid (fb2 hW)
  have HWB := Lib.hid hWb
  have hW0 := Below.refl W.heap.size W
  have a0 : W.cell? ⟨w.heap.size, 0, none⟩ = some (.int .u8 a.k) := by rw [cell_box (FA.out W hW0)]; rfl
  have b0 : W.cell? ⟨w.heap.size + 1, 0, none⟩ = some (.int .u8 b.k) := by rw [cell_box (FB.out W hW0)]; rfl
  have a1 : W.cell? ⟨w.heap.size, 1, none⟩ = some (.int .u8 a.f) := by rw [cell_box (FA.out W hW0)]; rfl
  have b1 : W.cell? ⟨w.heap.size + 1, 1, none⟩ = some (.int .u8 b.f) := by rw [cell_box (FB.out W hW0)]; rfl
  have a2 : W.cell? ⟨w.heap.size, 2, none⟩ = some (.int .u8 a.t) := by rw [cell_box (FA.out W hW0)]; rfl
  have b2 : W.cell? ⟨w.heap.size + 1, 2, none⟩ = some (.int .u8 b.t) := by rw [cell_box (FB.out W hW0)]; rfl
  have a3 : W.cell? ⟨w.heap.size, 3, none⟩ = some (.int .u8 a.e) := by rw [cell_box (FA.out W hW0)]; rfl
  have b3 : W.cell? ⟨w.heap.size + 1, 3, none⟩ = some (.int .u8 b.e) := by rw [cell_box (FB.out W hW0)]; rfl
  have a4 : W.cell? ⟨w.heap.size, 4, none⟩ = some (.int .u32 a.vw) := by rw [cell_box (FA.out W hW0)]; rfl
  have b4 : W.cell? ⟨w.heap.size + 1, 4, none⟩ = some (.int .u32 b.vw) := by rw [cell_box (FB.out W hW0)]; rfl
  have hWc := hW
  simp only [Mg.cells] at hWc ⊢
  have HW := Lib.hid hWc
  clear hWb hWs hW hWc hW0
  go_enter Tryz.func17, Tryz.ntmps17
  go_upto_region 1 with fail
  rw [← HW.out]
  clear HW FA FB
  try rw [mgA a]
  generalize a.cells.toArray = xa
  try rw [mgA b]
  generalize b.cells.toArray = xb
  go_wp2_with fail
  go_ret
  exact ⟨rfl, HWB.out⟩

set_option maxHeartbeats 8000000 in
theorem refSame_ne5 (w : World) (a b : Mg) (e0 : a.k = b.k) (e1 : a.f = b.f) (e2 : a.t = b.t) (e3 : a.e = b.e) (e4 : a.vw = b.vw) (e5 : ¬ a.sq = b.sq) :
    Calls Tryz.prog 17 #[.agg a.cells.toArray, .agg b.cells.toArray] w fun e w' => e = .returned (.bool false) ∧ Below w.heap.size w w' := by
  have d0 : (a.k != b.k) = false := by simp [e0]
  have d1 : (a.f != b.f) = false := by simp [e1]
  have d2 : (a.t != b.t) = false := by simp [e2]
  have d3 : (a.e != b.e) = false := by simp [e3]
  have d4 : (a.vw != b.vw) = false := by simp [e4]
  have d5 : (a.sq != b.sq) = true := by simp [e5]
  clear e0 e1 e2 e3 e4 e5
  obtain ⟨W, hW⟩ : ∃ W, W = (w.alloc (.cells a.cells.toArray 37)).alloc (.cells b.cells.toArray 37) := ⟨_, rfl⟩
  have hWs : W.heap.size = w.heap.size + 2 := by rw [hW]; simp
  have hWb := bl2 hW
  have FA := Lib.hid (fa2 hW)
  have FB := Lib.hid (fb2 hW)
  have HWB := Lib.hid hWb
  have hW0 := Below.refl W.heap.size W
  have a0 : W.cell? ⟨w.heap.size, 0, none⟩ = some (.int .u8 a.k) := by rw [cell_box (FA.out W hW0)]; rfl
  have b0 : W.cell? ⟨w.heap.size + 1, 0, none⟩ = some (.int .u8 b.k) := by rw [cell_box (FB.out W hW0)]; rfl
  have a1 : W.cell? ⟨w.heap.size, 1, none⟩ = some (.int .u8 a.f) := by rw [cell_box (FA.out W hW0)]; rfl
  have b1 : W.cell? ⟨w.heap.size + 1, 1, none⟩ = some (.int .u8 b.f) := by rw [cell_box (FB.out W hW0)]; rfl
  have a2 : W.cell? ⟨w.heap.size, 2, none⟩ = some (.int .u8 a.t) := by rw [cell_box (FA.out W hW0)]; rfl
  have b2 : W.cell? ⟨w.heap.size + 1, 2, none⟩ = some (.int .u8 b.t) := by rw [cell_box (FB.out W hW0)]; rfl
  have a3 : W.cell? ⟨w.heap.size, 3, none⟩ = some (.int .u8 a.e) := by rw [cell_box (FA.out W hW0)]; rfl
  have b3 : W.cell? ⟨w.heap.size + 1, 3, none⟩ = some (.int .u8 b.e) := by rw [cell_box (FB.out W hW0)]; rfl
  have a4 : W.cell? ⟨w.heap.size, 4, none⟩ = some (.int .u32 a.vw) := by rw [cell_box (FA.out W hW0)]; rfl
  have b4 : W.cell? ⟨w.heap.size + 1, 4, none⟩ = some (.int .u32 b.vw) := by rw [cell_box (FB.out W hW0)]; rfl
  have a5 : W.cell? ⟨w.heap.size, 5, none⟩ = some (.int .u32 a.sq) := by rw [cell_box (FA.out W hW0)]; rfl
  have b5 : W.cell? ⟨w.heap.size + 1, 5, none⟩ = some (.int .u32 b.sq) := by rw [cell_box (FB.out W hW0)]; rfl
  have hWc := hW
  simp only [Mg.cells] at hWc ⊢
  have HW := Lib.hid hWc
  clear hWb hWs hW hWc hW0
  go_enter Tryz.func17, Tryz.ntmps17
  go_upto_region 1 with fail
  rw [← HW.out]
  clear HW FA FB
  try rw [mgA a]
  generalize a.cells.toArray = xa
  try rw [mgA b]
  generalize b.cells.toArray = xb
  go_wp2_with fail
  go_ret
  exact ⟨rfl, HWB.out⟩

set_option maxHeartbeats 8000000 in
theorem refSame_ne6 (w : World) (a b : Mg) (e0 : a.k = b.k) (e1 : a.f = b.f) (e2 : a.t = b.t) (e3 : a.e = b.e) (e4 : a.vw = b.vw) (e5 : a.sq = b.sq) (e6 : ¬ a.rq = b.rq) :
    Calls Tryz.prog 17 #[.agg a.cells.toArray, .agg b.cells.toArray] w fun e w' => e = .returned (.bool false) ∧ Below w.heap.size w w' := by
  have d0 : (a.k != b.k) = false := by simp [e0]
  have d1 : (a.f != b.f) = false := by simp [e1]
  have d2 : (a.t != b.t) = false := by simp [e2]
  have d3 : (a.e != b.e) = false := by simp [e3]
  have d4 : (a.vw != b.vw) = false := by simp [e4]
  have d5 : (a.sq != b.sq) = false := by simp [e5]
  have q27 : ∀ w, _ := fun w => neq27 a.rq b.rq w
  rw [decide_eq_false e6] at q27
  simp only [Rq.cells] at q27
  clear e0 e1 e2 e3 e4 e5 e6
  obtain ⟨W, hW⟩ : ∃ W, W = (w.alloc (.cells a.cells.toArray 37)).alloc (.cells b.cells.toArray 37) := ⟨_, rfl⟩
  have hWs : W.heap.size = w.heap.size + 2 := by rw [hW]; simp
  have hWb := bl2 hW
  have FA := Lib.hid (fa2 hW)
  have FB := Lib.hid (fb2 hW)
  have HWB := Lib.hid hWb
  have hW0 := Below.refl W.heap.size W
  have a0 : W.cell? ⟨w.heap.size, 0, none⟩ = some (.int .u8 a.k) := by rw [cell_box (FA.out W hW0)]; rfl
  have b0 : W.cell? ⟨w.heap.size + 1, 0, none⟩ = some (.int .u8 b.k) := by rw [cell_box (FB.out W hW0)]; rfl
  have a1 : W.cell? ⟨w.heap.size, 1, none⟩ = some (.int .u8 a.f) := by rw [cell_box (FA.out W hW0)]; rfl
  have b1 : W.cell? ⟨w.heap.size + 1, 1, none⟩ = some (.int .u8 b.f) := by rw [cell_box (FB.out W hW0)]; rfl
  have a2 : W.cell? ⟨w.heap.size, 2, none⟩ = some (.int .u8 a.t) := by rw [cell_box (FA.out W hW0)]; rfl
  have b2 : W.cell? ⟨w.heap.size + 1, 2, none⟩ = some (.int .u8 b.t) := by rw [cell_box (FB.out W hW0)]; rfl
  have a3 : W.cell? ⟨w.heap.size, 3, none⟩ = some (.int .u8 a.e) := by rw [cell_box (FA.out W hW0)]; rfl
  have b3 : W.cell? ⟨w.heap.size + 1, 3, none⟩ = some (.int .u8 b.e) := by rw [cell_box (FB.out W hW0)]; rfl
  have a4 : W.cell? ⟨w.heap.size, 4, none⟩ = some (.int .u32 a.vw) := by rw [cell_box (FA.out W hW0)]; rfl
  have b4 : W.cell? ⟨w.heap.size + 1, 4, none⟩ = some (.int .u32 b.vw) := by rw [cell_box (FB.out W hW0)]; rfl
  have a5 : W.cell? ⟨w.heap.size, 5, none⟩ = some (.int .u32 a.sq) := by rw [cell_box (FA.out W hW0)]; rfl
  have b5 : W.cell? ⟨w.heap.size + 1, 5, none⟩ = some (.int .u32 b.sq) := by rw [cell_box (FB.out W hW0)]; rfl
  have a6 : W.cell? ⟨w.heap.size, 6, none⟩ = some (.int .u8 a.rq.c) := by rw [cell_box (FA.out W hW0)]; rfl
  have b6 : W.cell? ⟨w.heap.size + 1, 6, none⟩ = some (.int .u8 b.rq.c) := by rw [cell_box (FB.out W hW0)]; rfl
  have a7 : W.cell? ⟨w.heap.size, 7, none⟩ = some (.int .u32 a.rq.t) := by rw [cell_box (FA.out W hW0)]; rfl
  have b7 : W.cell? ⟨w.heap.size + 1, 7, none⟩ = some (.int .u32 b.rq.t) := by rw [cell_box (FB.out W hW0)]; rfl
  have a8 : W.cell? ⟨w.heap.size, 8, none⟩ = some (.int .u8 a.rq.k) := by rw [cell_box (FA.out W hW0)]; rfl
  have b8 : W.cell? ⟨w.heap.size + 1, 8, none⟩ = some (.int .u8 b.rq.k) := by rw [cell_box (FB.out W hW0)]; rfl
  have a9 : W.cell? ⟨w.heap.size, 9, none⟩ = some (.int .u8 a.rq.y) := by rw [cell_box (FA.out W hW0)]; rfl
  have b9 : W.cell? ⟨w.heap.size + 1, 9, none⟩ = some (.int .u8 b.rq.y) := by rw [cell_box (FB.out W hW0)]; rfl
  have a10 : W.cell? ⟨w.heap.size, 10, none⟩ = some (.int .u16 a.rq.v) := by rw [cell_box (FA.out W hW0)]; rfl
  have b10 : W.cell? ⟨w.heap.size + 1, 10, none⟩ = some (.int .u16 b.rq.v) := by rw [cell_box (FB.out W hW0)]; rfl
  have hWc := hW
  simp only [Mg.cells] at hWc ⊢
  have HW := Lib.hid hWc
  have HG := fun op x y w => guard27 op x y a.rq b.rq w
  simp only [Rq.cells] at HG
  clear hWb hWs hW hWc hW0
  go_enter Tryz.func17, Tryz.ntmps17
  go_upto_region 1 with fail
  rw [← HW.out]
  clear HW FA FB
  try rw [mgA a]
  generalize a.cells.toArray = xa
  try rw [mgA b]
  generalize b.cells.toArray = xb
  go_wp2_with fail
  go_ret
  exact ⟨rfl, HWB.out⟩

set_option maxHeartbeats 8000000 in
theorem refSame_ne7 (w : World) (a b : Mg) (e0 : a.k = b.k) (e1 : a.f = b.f) (e2 : a.t = b.t) (e3 : a.e = b.e) (e4 : a.vw = b.vw) (e5 : a.sq = b.sq) (e6 : a.rq = b.rq) (e7 : ¬ a.ro = b.ro) :
    Calls Tryz.prog 17 #[.agg a.cells.toArray, .agg b.cells.toArray] w fun e w' => e = .returned (.bool false) ∧ Below w.heap.size w w' := by
  have d0 : (a.k != b.k) = false := by simp [e0]
  have d1 : (a.f != b.f) = false := by simp [e1]
  have d2 : (a.t != b.t) = false := by simp [e2]
  have d3 : (a.e != b.e) = false := by simp [e3]
  have d4 : (a.vw != b.vw) = false := by simp [e4]
  have d5 : (a.sq != b.sq) = false := by simp [e5]
  have q27 : ∀ w, _ := fun w => neq27 a.rq b.rq w
  rw [decide_eq_true e6] at q27
  simp only [Rq.cells] at q27
  have d7 : (a.ro != b.ro) = true := by simp [e7]
  clear e0 e1 e2 e3 e4 e5 e6 e7
  obtain ⟨W, hW⟩ : ∃ W, W = (w.alloc (.cells a.cells.toArray 37)).alloc (.cells b.cells.toArray 37) := ⟨_, rfl⟩
  have hWs : W.heap.size = w.heap.size + 2 := by rw [hW]; simp
  have hWb := bl2 hW
  have FA := Lib.hid (fa2 hW)
  have FB := Lib.hid (fb2 hW)
  have HWB := Lib.hid hWb
  have hW0 := Below.refl W.heap.size W
  have a0 : W.cell? ⟨w.heap.size, 0, none⟩ = some (.int .u8 a.k) := by rw [cell_box (FA.out W hW0)]; rfl
  have b0 : W.cell? ⟨w.heap.size + 1, 0, none⟩ = some (.int .u8 b.k) := by rw [cell_box (FB.out W hW0)]; rfl
  have a1 : W.cell? ⟨w.heap.size, 1, none⟩ = some (.int .u8 a.f) := by rw [cell_box (FA.out W hW0)]; rfl
  have b1 : W.cell? ⟨w.heap.size + 1, 1, none⟩ = some (.int .u8 b.f) := by rw [cell_box (FB.out W hW0)]; rfl
  have a2 : W.cell? ⟨w.heap.size, 2, none⟩ = some (.int .u8 a.t) := by rw [cell_box (FA.out W hW0)]; rfl
  have b2 : W.cell? ⟨w.heap.size + 1, 2, none⟩ = some (.int .u8 b.t) := by rw [cell_box (FB.out W hW0)]; rfl
  have a3 : W.cell? ⟨w.heap.size, 3, none⟩ = some (.int .u8 a.e) := by rw [cell_box (FA.out W hW0)]; rfl
  have b3 : W.cell? ⟨w.heap.size + 1, 3, none⟩ = some (.int .u8 b.e) := by rw [cell_box (FB.out W hW0)]; rfl
  have a4 : W.cell? ⟨w.heap.size, 4, none⟩ = some (.int .u32 a.vw) := by rw [cell_box (FA.out W hW0)]; rfl
  have b4 : W.cell? ⟨w.heap.size + 1, 4, none⟩ = some (.int .u32 b.vw) := by rw [cell_box (FB.out W hW0)]; rfl
  have a5 : W.cell? ⟨w.heap.size, 5, none⟩ = some (.int .u32 a.sq) := by rw [cell_box (FA.out W hW0)]; rfl
  have b5 : W.cell? ⟨w.heap.size + 1, 5, none⟩ = some (.int .u32 b.sq) := by rw [cell_box (FB.out W hW0)]; rfl
  have a6 : W.cell? ⟨w.heap.size, 6, none⟩ = some (.int .u8 a.rq.c) := by rw [cell_box (FA.out W hW0)]; rfl
  have b6 : W.cell? ⟨w.heap.size + 1, 6, none⟩ = some (.int .u8 b.rq.c) := by rw [cell_box (FB.out W hW0)]; rfl
  have a7 : W.cell? ⟨w.heap.size, 7, none⟩ = some (.int .u32 a.rq.t) := by rw [cell_box (FA.out W hW0)]; rfl
  have b7 : W.cell? ⟨w.heap.size + 1, 7, none⟩ = some (.int .u32 b.rq.t) := by rw [cell_box (FB.out W hW0)]; rfl
  have a8 : W.cell? ⟨w.heap.size, 8, none⟩ = some (.int .u8 a.rq.k) := by rw [cell_box (FA.out W hW0)]; rfl
  have b8 : W.cell? ⟨w.heap.size + 1, 8, none⟩ = some (.int .u8 b.rq.k) := by rw [cell_box (FB.out W hW0)]; rfl
  have a9 : W.cell? ⟨w.heap.size, 9, none⟩ = some (.int .u8 a.rq.y) := by rw [cell_box (FA.out W hW0)]; rfl
  have b9 : W.cell? ⟨w.heap.size + 1, 9, none⟩ = some (.int .u8 b.rq.y) := by rw [cell_box (FB.out W hW0)]; rfl
  have a10 : W.cell? ⟨w.heap.size, 10, none⟩ = some (.int .u16 a.rq.v) := by rw [cell_box (FA.out W hW0)]; rfl
  have b10 : W.cell? ⟨w.heap.size + 1, 10, none⟩ = some (.int .u16 b.rq.v) := by rw [cell_box (FB.out W hW0)]; rfl
  have a11 : W.cell? ⟨w.heap.size, 11, none⟩ = some (.int .u64 a.ro) := by rw [cell_box (FA.out W hW0)]; rfl
  have b11 : W.cell? ⟨w.heap.size + 1, 11, none⟩ = some (.int .u64 b.ro) := by rw [cell_box (FB.out W hW0)]; rfl
  have hWc := hW
  simp only [Mg.cells] at hWc ⊢
  have HW := Lib.hid hWc
  have HG := fun op x y w => guard27 op x y a.rq b.rq w
  simp only [Rq.cells] at HG
  clear hWb hWs hW hWc hW0
  go_enter Tryz.func17, Tryz.ntmps17
  go_upto_region 1 with fail
  rw [← HW.out]
  clear HW FA FB
  try rw [mgA a]
  generalize a.cells.toArray = xa
  try rw [mgA b]
  generalize b.cells.toArray = xb
  go_wp2_with fail
  go_ret
  exact ⟨rfl, HWB.out⟩

set_option maxHeartbeats 8000000 in
theorem refSame_ne8 (w : World) (a b : Mg) (e0 : a.k = b.k) (e1 : a.f = b.f) (e2 : a.t = b.t) (e3 : a.e = b.e) (e4 : a.vw = b.vw) (e5 : a.sq = b.sq) (e6 : a.rq = b.rq) (e7 : a.ro = b.ro) (e8 : ¬ a.ct = b.ct) :
    Calls Tryz.prog 17 #[.agg a.cells.toArray, .agg b.cells.toArray] w fun e w' => e = .returned (.bool false) ∧ Below w.heap.size w w' := by
  have d0 : (a.k != b.k) = false := by simp [e0]
  have d1 : (a.f != b.f) = false := by simp [e1]
  have d2 : (a.t != b.t) = false := by simp [e2]
  have d3 : (a.e != b.e) = false := by simp [e3]
  have d4 : (a.vw != b.vw) = false := by simp [e4]
  have d5 : (a.sq != b.sq) = false := by simp [e5]
  have q27 : ∀ w, _ := fun w => neq27 a.rq b.rq w
  rw [decide_eq_true e6] at q27
  simp only [Rq.cells] at q27
  have d7 : (a.ro != b.ro) = false := by simp [e7]
  have d8 : (a.ct != b.ct) = true := by simp [e8]
  clear e0 e1 e2 e3 e4 e5 e6 e7 e8
  obtain ⟨W, hW⟩ : ∃ W, W = (w.alloc (.cells a.cells.toArray 37)).alloc (.cells b.cells.toArray 37) := ⟨_, rfl⟩
  have hWs : W.heap.size = w.heap.size + 2 := by rw [hW]; simp
  have hWb := bl2 hW
  have FA := Lib.hid (fa2 hW)
  have FB := Lib.hid (fb2 hW)
  have HWB := Lib.hid hWb
  have hW0 := Below.refl W.heap.size W
  have a0 : W.cell? ⟨w.heap.size, 0, none⟩ = some (.int .u8 a.k) := by rw [cell_box (FA.out W hW0)]; rfl
  have b0 : W.cell? ⟨w.heap.size + 1, 0, none⟩ = some (.int .u8 b.k) := by rw [cell_box (FB.out W hW0)]; rfl
  have a1 : W.cell? ⟨w.heap.size, 1, none⟩ = some (.int .u8 a.f) := by rw [cell_box (FA.out W hW0)]; rfl
  have b1 : W.cell? ⟨w.heap.size + 1, 1, none⟩ = some (.int .u8 b.f) := by rw [cell_box (FB.out W hW0)]; rfl
  have a2 : W.cell? ⟨w.heap.size, 2, none⟩ = some (.int .u8 a.t) := by rw [cell_box (FA.out W hW0)]; rfl
  have b2 : W.cell? ⟨w.heap.size + 1, 2, none⟩ = some (.int .u8 b.t) := by rw [cell_box (FB.out W hW0)]; rfl
  have a3 : W.cell? ⟨w.heap.size, 3, none⟩ = some (.int .u8 a.e) := by rw [cell_box (FA.out W hW0)]; rfl
  have b3 : W.cell? ⟨w.heap.size + 1, 3, none⟩ = some (.int .u8 b.e) := by rw [cell_box (FB.out W hW0)]; rfl
  have a4 : W.cell? ⟨w.heap.size, 4, none⟩ = some (.int .u32 a.vw) := by rw [cell_box (FA.out W hW0)]; rfl
  have b4 : W.cell? ⟨w.heap.size + 1, 4, none⟩ = some (.int .u32 b.vw) := by rw [cell_box (FB.out W hW0)]; rfl
  have a5 : W.cell? ⟨w.heap.size, 5, none⟩ = some (.int .u32 a.sq) := by rw [cell_box (FA.out W hW0)]; rfl
  have b5 : W.cell? ⟨w.heap.size + 1, 5, none⟩ = some (.int .u32 b.sq) := by rw [cell_box (FB.out W hW0)]; rfl
  have a6 : W.cell? ⟨w.heap.size, 6, none⟩ = some (.int .u8 a.rq.c) := by rw [cell_box (FA.out W hW0)]; rfl
  have b6 : W.cell? ⟨w.heap.size + 1, 6, none⟩ = some (.int .u8 b.rq.c) := by rw [cell_box (FB.out W hW0)]; rfl
  have a7 : W.cell? ⟨w.heap.size, 7, none⟩ = some (.int .u32 a.rq.t) := by rw [cell_box (FA.out W hW0)]; rfl
  have b7 : W.cell? ⟨w.heap.size + 1, 7, none⟩ = some (.int .u32 b.rq.t) := by rw [cell_box (FB.out W hW0)]; rfl
  have a8 : W.cell? ⟨w.heap.size, 8, none⟩ = some (.int .u8 a.rq.k) := by rw [cell_box (FA.out W hW0)]; rfl
  have b8 : W.cell? ⟨w.heap.size + 1, 8, none⟩ = some (.int .u8 b.rq.k) := by rw [cell_box (FB.out W hW0)]; rfl
  have a9 : W.cell? ⟨w.heap.size, 9, none⟩ = some (.int .u8 a.rq.y) := by rw [cell_box (FA.out W hW0)]; rfl
  have b9 : W.cell? ⟨w.heap.size + 1, 9, none⟩ = some (.int .u8 b.rq.y) := by rw [cell_box (FB.out W hW0)]; rfl
  have a10 : W.cell? ⟨w.heap.size, 10, none⟩ = some (.int .u16 a.rq.v) := by rw [cell_box (FA.out W hW0)]; rfl
  have b10 : W.cell? ⟨w.heap.size + 1, 10, none⟩ = some (.int .u16 b.rq.v) := by rw [cell_box (FB.out W hW0)]; rfl
  have a11 : W.cell? ⟨w.heap.size, 11, none⟩ = some (.int .u64 a.ro) := by rw [cell_box (FA.out W hW0)]; rfl
  have b11 : W.cell? ⟨w.heap.size + 1, 11, none⟩ = some (.int .u64 b.ro) := by rw [cell_box (FB.out W hW0)]; rfl
  have a12 : W.cell? ⟨w.heap.size, 12, none⟩ = some (.int .u8 a.ct) := by rw [cell_box (FA.out W hW0)]; rfl
  have b12 : W.cell? ⟨w.heap.size + 1, 12, none⟩ = some (.int .u8 b.ct) := by rw [cell_box (FB.out W hW0)]; rfl
  have hWc := hW
  simp only [Mg.cells] at hWc ⊢
  have HW := Lib.hid hWc
  have HG := fun op x y w => guard27 op x y a.rq b.rq w
  simp only [Rq.cells] at HG
  clear hWb hWs hW hWc hW0
  go_enter Tryz.func17, Tryz.ntmps17
  go_upto_region 1 with fail
  rw [← HW.out]
  clear HW FA FB
  try rw [mgA a]
  generalize a.cells.toArray = xa
  try rw [mgA b]
  generalize b.cells.toArray = xb
  go_wp2_with fail
  go_ret
  exact ⟨rfl, HWB.out⟩

set_option maxHeartbeats 8000000 in
theorem refSame_ne9 (w : World) (a b : Mg) (e0 : a.k = b.k) (e1 : a.f = b.f) (e2 : a.t = b.t) (e3 : a.e = b.e) (e4 : a.vw = b.vw) (e5 : a.sq = b.sq) (e6 : a.rq = b.rq) (e7 : a.ro = b.ro) (e8 : a.ct = b.ct) (e9 : ¬ a.pg = b.pg) :
    Calls Tryz.prog 17 #[.agg a.cells.toArray, .agg b.cells.toArray] w fun e w' => e = .returned (.bool false) ∧ Below w.heap.size w w' := by
  have d0 : (a.k != b.k) = false := by simp [e0]
  have d1 : (a.f != b.f) = false := by simp [e1]
  have d2 : (a.t != b.t) = false := by simp [e2]
  have d3 : (a.e != b.e) = false := by simp [e3]
  have d4 : (a.vw != b.vw) = false := by simp [e4]
  have d5 : (a.sq != b.sq) = false := by simp [e5]
  have q27 : ∀ w, _ := fun w => neq27 a.rq b.rq w
  rw [decide_eq_true e6] at q27
  simp only [Rq.cells] at q27
  have d7 : (a.ro != b.ro) = false := by simp [e7]
  have d8 : (a.ct != b.ct) = false := by simp [e8]
  have d9 : (a.pg != b.pg) = true := by simp [e9]
  clear e0 e1 e2 e3 e4 e5 e6 e7 e8 e9
  obtain ⟨W, hW⟩ : ∃ W, W = (w.alloc (.cells a.cells.toArray 37)).alloc (.cells b.cells.toArray 37) := ⟨_, rfl⟩
  have hWs : W.heap.size = w.heap.size + 2 := by rw [hW]; simp
  have hWb := bl2 hW
  have FA := Lib.hid (fa2 hW)
  have FB := Lib.hid (fb2 hW)
  have HWB := Lib.hid hWb
  have hW0 := Below.refl W.heap.size W
  have a0 : W.cell? ⟨w.heap.size, 0, none⟩ = some (.int .u8 a.k) := by rw [cell_box (FA.out W hW0)]; rfl
  have b0 : W.cell? ⟨w.heap.size + 1, 0, none⟩ = some (.int .u8 b.k) := by rw [cell_box (FB.out W hW0)]; rfl
  have a1 : W.cell? ⟨w.heap.size, 1, none⟩ = some (.int .u8 a.f) := by rw [cell_box (FA.out W hW0)]; rfl
  have b1 : W.cell? ⟨w.heap.size + 1, 1, none⟩ = some (.int .u8 b.f) := by rw [cell_box (FB.out W hW0)]; rfl
  have a2 : W.cell? ⟨w.heap.size, 2, none⟩ = some (.int .u8 a.t) := by rw [cell_box (FA.out W hW0)]; rfl
  have b2 : W.cell? ⟨w.heap.size + 1, 2, none⟩ = some (.int .u8 b.t) := by rw [cell_box (FB.out W hW0)]; rfl
  have a3 : W.cell? ⟨w.heap.size, 3, none⟩ = some (.int .u8 a.e) := by rw [cell_box (FA.out W hW0)]; rfl
  have b3 : W.cell? ⟨w.heap.size + 1, 3, none⟩ = some (.int .u8 b.e) := by rw [cell_box (FB.out W hW0)]; rfl
  have a4 : W.cell? ⟨w.heap.size, 4, none⟩ = some (.int .u32 a.vw) := by rw [cell_box (FA.out W hW0)]; rfl
  have b4 : W.cell? ⟨w.heap.size + 1, 4, none⟩ = some (.int .u32 b.vw) := by rw [cell_box (FB.out W hW0)]; rfl
  have a5 : W.cell? ⟨w.heap.size, 5, none⟩ = some (.int .u32 a.sq) := by rw [cell_box (FA.out W hW0)]; rfl
  have b5 : W.cell? ⟨w.heap.size + 1, 5, none⟩ = some (.int .u32 b.sq) := by rw [cell_box (FB.out W hW0)]; rfl
  have a6 : W.cell? ⟨w.heap.size, 6, none⟩ = some (.int .u8 a.rq.c) := by rw [cell_box (FA.out W hW0)]; rfl
  have b6 : W.cell? ⟨w.heap.size + 1, 6, none⟩ = some (.int .u8 b.rq.c) := by rw [cell_box (FB.out W hW0)]; rfl
  have a7 : W.cell? ⟨w.heap.size, 7, none⟩ = some (.int .u32 a.rq.t) := by rw [cell_box (FA.out W hW0)]; rfl
  have b7 : W.cell? ⟨w.heap.size + 1, 7, none⟩ = some (.int .u32 b.rq.t) := by rw [cell_box (FB.out W hW0)]; rfl
  have a8 : W.cell? ⟨w.heap.size, 8, none⟩ = some (.int .u8 a.rq.k) := by rw [cell_box (FA.out W hW0)]; rfl
  have b8 : W.cell? ⟨w.heap.size + 1, 8, none⟩ = some (.int .u8 b.rq.k) := by rw [cell_box (FB.out W hW0)]; rfl
  have a9 : W.cell? ⟨w.heap.size, 9, none⟩ = some (.int .u8 a.rq.y) := by rw [cell_box (FA.out W hW0)]; rfl
  have b9 : W.cell? ⟨w.heap.size + 1, 9, none⟩ = some (.int .u8 b.rq.y) := by rw [cell_box (FB.out W hW0)]; rfl
  have a10 : W.cell? ⟨w.heap.size, 10, none⟩ = some (.int .u16 a.rq.v) := by rw [cell_box (FA.out W hW0)]; rfl
  have b10 : W.cell? ⟨w.heap.size + 1, 10, none⟩ = some (.int .u16 b.rq.v) := by rw [cell_box (FB.out W hW0)]; rfl
  have a11 : W.cell? ⟨w.heap.size, 11, none⟩ = some (.int .u64 a.ro) := by rw [cell_box (FA.out W hW0)]; rfl
  have b11 : W.cell? ⟨w.heap.size + 1, 11, none⟩ = some (.int .u64 b.ro) := by rw [cell_box (FB.out W hW0)]; rfl
  have a12 : W.cell? ⟨w.heap.size, 12, none⟩ = some (.int .u8 a.ct) := by rw [cell_box (FA.out W hW0)]; rfl
  have b12 : W.cell? ⟨w.heap.size + 1, 12, none⟩ = some (.int .u8 b.ct) := by rw [cell_box (FB.out W hW0)]; rfl
  have a13 : W.cell? ⟨w.heap.size, 13, none⟩ = some (.int .u8 a.pg) := by rw [cell_box (FA.out W hW0)]; rfl
  have b13 : W.cell? ⟨w.heap.size + 1, 13, none⟩ = some (.int .u8 b.pg) := by rw [cell_box (FB.out W hW0)]; rfl
  have hWc := hW
  simp only [Mg.cells] at hWc ⊢
  have HW := Lib.hid hWc
  have HG := fun op x y w => guard27 op x y a.rq b.rq w
  simp only [Rq.cells] at HG
  clear hWb hWs hW hWc hW0
  go_enter Tryz.func17, Tryz.ntmps17
  go_upto_region 1 with fail
  rw [← HW.out]
  clear HW FA FB
  try rw [mgA a]
  generalize a.cells.toArray = xa
  try rw [mgA b]
  generalize b.cells.toArray = xb
  go_wp2_with fail
  go_ret
  exact ⟨rfl, HWB.out⟩

set_option maxHeartbeats 8000000 in
theorem refSame_ne10 (w : World) (a b : Mg) (e0 : a.k = b.k) (e1 : a.f = b.f) (e2 : a.t = b.t) (e3 : a.e = b.e) (e4 : a.vw = b.vw) (e5 : a.sq = b.sq) (e6 : a.rq = b.rq) (e7 : a.ro = b.ro) (e8 : a.ct = b.ct) (e9 : a.pg = b.pg) (e10 : ¬ a.rs = b.rs) :
    Calls Tryz.prog 17 #[.agg a.cells.toArray, .agg b.cells.toArray] w fun e w' => e = .returned (.bool false) ∧ Below w.heap.size w w' := by
  have d0 : (a.k != b.k) = false := by simp [e0]
  have d1 : (a.f != b.f) = false := by simp [e1]
  have d2 : (a.t != b.t) = false := by simp [e2]
  have d3 : (a.e != b.e) = false := by simp [e3]
  have d4 : (a.vw != b.vw) = false := by simp [e4]
  have d5 : (a.sq != b.sq) = false := by simp [e5]
  have q27 : ∀ w, _ := fun w => neq27 a.rq b.rq w
  rw [decide_eq_true e6] at q27
  simp only [Rq.cells] at q27
  have d7 : (a.ro != b.ro) = false := by simp [e7]
  have d8 : (a.ct != b.ct) = false := by simp [e8]
  have d9 : (a.pg != b.pg) = false := by simp [e9]
  have d10 : (a.rs != b.rs) = true := by simp [e10]
  clear e0 e1 e2 e3 e4 e5 e6 e7 e8 e9 e10
  obtain ⟨W, hW⟩ : ∃ W, W = (w.alloc (.cells a.cells.toArray 37)).alloc (.cells b.cells.toArray 37) := ⟨_, rfl⟩
  have hWs : W.heap.size = w.heap.size + 2 := by rw [hW]; simp
  have hWb := bl2 hW
  have FA := Lib.hid (fa2 hW)
  have FB := Lib.hid (fb2 hW)
  have HWB := Lib.hid hWb
  have hW0 := Below.refl W.heap.size W
  have a0 : W.cell? ⟨w.heap.size, 0, none⟩ = some (.int .u8 a.k) := by rw [cell_box (FA.out W hW0)]; rfl
  have b0 : W.cell? ⟨w.heap.size + 1, 0, none⟩ = some (.int .u8 b.k) := by rw [cell_box (FB.out W hW0)]; rfl
  have a1 : W.cell? ⟨w.heap.size, 1, none⟩ = some (.int .u8 a.f) := by rw [cell_box (FA.out W hW0)]; rfl
  have b1 : W.cell? ⟨w.heap.size + 1, 1, none⟩ = some (.int .u8 b.f) := by rw [cell_box (FB.out W hW0)]; rfl
  have a2 : W.cell? ⟨w.heap.size, 2, none⟩ = some (.int .u8 a.t) := by rw [cell_box (FA.out W hW0)]; rfl
  have b2 : W.cell? ⟨w.heap.size + 1, 2, none⟩ = some (.int .u8 b.t) := by rw [cell_box (FB.out W hW0)]; rfl
  have a3 : W.cell? ⟨w.heap.size, 3, none⟩ = some (.int .u8 a.e) := by rw [cell_box (FA.out W hW0)]; rfl
  have b3 : W.cell? ⟨w.heap.size + 1, 3, none⟩ = some (.int .u8 b.e) := by rw [cell_box (FB.out W hW0)]; rfl
  have a4 : W.cell? ⟨w.heap.size, 4, none⟩ = some (.int .u32 a.vw) := by rw [cell_box (FA.out W hW0)]; rfl
  have b4 : W.cell? ⟨w.heap.size + 1, 4, none⟩ = some (.int .u32 b.vw) := by rw [cell_box (FB.out W hW0)]; rfl
  have a5 : W.cell? ⟨w.heap.size, 5, none⟩ = some (.int .u32 a.sq) := by rw [cell_box (FA.out W hW0)]; rfl
  have b5 : W.cell? ⟨w.heap.size + 1, 5, none⟩ = some (.int .u32 b.sq) := by rw [cell_box (FB.out W hW0)]; rfl
  have a6 : W.cell? ⟨w.heap.size, 6, none⟩ = some (.int .u8 a.rq.c) := by rw [cell_box (FA.out W hW0)]; rfl
  have b6 : W.cell? ⟨w.heap.size + 1, 6, none⟩ = some (.int .u8 b.rq.c) := by rw [cell_box (FB.out W hW0)]; rfl
  have a7 : W.cell? ⟨w.heap.size, 7, none⟩ = some (.int .u32 a.rq.t) := by rw [cell_box (FA.out W hW0)]; rfl
  have b7 : W.cell? ⟨w.heap.size + 1, 7, none⟩ = some (.int .u32 b.rq.t) := by rw [cell_box (FB.out W hW0)]; rfl
  have a8 : W.cell? ⟨w.heap.size, 8, none⟩ = some (.int .u8 a.rq.k) := by rw [cell_box (FA.out W hW0)]; rfl
  have b8 : W.cell? ⟨w.heap.size + 1, 8, none⟩ = some (.int .u8 b.rq.k) := by rw [cell_box (FB.out W hW0)]; rfl
  have a9 : W.cell? ⟨w.heap.size, 9, none⟩ = some (.int .u8 a.rq.y) := by rw [cell_box (FA.out W hW0)]; rfl
  have b9 : W.cell? ⟨w.heap.size + 1, 9, none⟩ = some (.int .u8 b.rq.y) := by rw [cell_box (FB.out W hW0)]; rfl
  have a10 : W.cell? ⟨w.heap.size, 10, none⟩ = some (.int .u16 a.rq.v) := by rw [cell_box (FA.out W hW0)]; rfl
  have b10 : W.cell? ⟨w.heap.size + 1, 10, none⟩ = some (.int .u16 b.rq.v) := by rw [cell_box (FB.out W hW0)]; rfl
  have a11 : W.cell? ⟨w.heap.size, 11, none⟩ = some (.int .u64 a.ro) := by rw [cell_box (FA.out W hW0)]; rfl
  have b11 : W.cell? ⟨w.heap.size + 1, 11, none⟩ = some (.int .u64 b.ro) := by rw [cell_box (FB.out W hW0)]; rfl
  have a12 : W.cell? ⟨w.heap.size, 12, none⟩ = some (.int .u8 a.ct) := by rw [cell_box (FA.out W hW0)]; rfl
  have b12 : W.cell? ⟨w.heap.size + 1, 12, none⟩ = some (.int .u8 b.ct) := by rw [cell_box (FB.out W hW0)]; rfl
  have a13 : W.cell? ⟨w.heap.size, 13, none⟩ = some (.int .u8 a.pg) := by rw [cell_box (FA.out W hW0)]; rfl
  have b13 : W.cell? ⟨w.heap.size + 1, 13, none⟩ = some (.int .u8 b.pg) := by rw [cell_box (FB.out W hW0)]; rfl
  have a14 : W.cell? ⟨w.heap.size, 14, none⟩ = some (.int .u32 a.rs) := by rw [cell_box (FA.out W hW0)]; rfl
  have b14 : W.cell? ⟨w.heap.size + 1, 14, none⟩ = some (.int .u32 b.rs) := by rw [cell_box (FB.out W hW0)]; rfl
  have hWc := hW
  simp only [Mg.cells] at hWc ⊢
  have HW := Lib.hid hWc
  have HG := fun op x y w => guard27 op x y a.rq b.rq w
  simp only [Rq.cells] at HG
  clear hWb hWs hW hWc hW0
  go_enter Tryz.func17, Tryz.ntmps17
  go_upto_region 1 with fail
  rw [← HW.out]
  clear HW FA FB
  try rw [mgA a]
  generalize a.cells.toArray = xa
  try rw [mgA b]
  generalize b.cells.toArray = xb
  go_wp2_with fail
  go_ret
  exact ⟨rfl, HWB.out⟩
end Go.Proofs.YtbpfkeeikhhlnaaGreatDoor
