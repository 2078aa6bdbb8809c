/- An array of five u32 in memory; rows of u16 that came in. -/
import Derived.Test.YtphakceboohbhaaLaw
import Derived.Test.YtphakceboohbhaaLst
namespace Go.Proofs.Ytphakceboohbhaa
open Go.RowKit
set_option maxRecDepth 100000

def Tb (w : World) (B : Nat) (t : Nat → Int) : Prop := w.heap[B]? = some (.cells ((List.range 5).map fun i => Value.int .u32 (t i)).toArray 30 (0, 0))
theorem tb_new (w : World) : Tb (w.alloc (.cells #[.int .u32 0, .int .u32 0, .int .u32 0, .int .u32 0, .int .u32 0] 30)) w.heap.size nul := heap_alloc_new w _
theorem Tb.lt {w : World} {B : Nat} {t : Nat → Int} (h : Tb w B t) : B < w.heap.size := lt_of_block h
theorem Tb.cell {w : World} {B : Nat} {t : Nat → Int} (h : Tb w B t) (i : Nat) (hi : i < 5) : w.cell? ⟨B, i, none⟩ = some (.int .u32 (t i)) := by
  rw [cell_of_row w B i _ 30 (0, 0) h]
  simp [hi]
theorem Tb.frozen {w : World} {B : Nat} {t : Nat → Int} (h : Tb w B t) (k : Nat) : w.frozen? ⟨B, k, none⟩ = false := frozen_of_row w B k _ 30 h
theorem Tb.kept {S : Nat → Prop} {w w' : World} {B : Nat} {t : Nat → Int} (h : Tb w B t) (hk : Kept S w w') (hB : ¬ S B) : Tb w' B t := by
  unfold Tb
  rw [hk.block B h.lt hB]
  exact h
theorem Tb.below {w w' : World} {B : Nat} {t : Nat → Int} (h : Tb w B t) (hk : Below w.heap.size w w') : Tb w' B t := h.kept (Kept.ofBelow (S := fun _ => False) hk) (fun h => h)
theorem Tb.set {w : World} {B : Nat} {t : Nat → Int} (h : Tb w B t) (k : Nat) (x : Int) (hk : k < 5) : Tb (w.setCell ⟨B, k, none⟩ (.int .u32 x)) B (upd t k x) := by
  unfold Tb
  rw [heap_setCell_same w B k _ 30 _ h]
  congr 2
  rcases (by omega : k = 0 ∨ k = 1 ∨ k = 2 ∨ k = 3 ∨ k = 4) with rfl | rfl | rfl | rfl | rfl <;> rfl
end Go.Proofs.Ytphakceboohbhaa
