/- The document's map in memory: its 74 cells; its Put and SetClient. -/
import Derived.Test.YtphakceboohbhaaRds
namespace Go.Proofs.Ytphakceboohbhaa
open Go.RowKit
set_option maxRecDepth 100000

/-- cell i of the document's map -/
def cellR (V T R : Nat → Int) (i : Nat) : Value :=
  if i < 64 then .int .u16 (V i) else if i < 69 then .int .u32 (if i = 64 then 0 else T (i - 65)) else .int .u32 (if i = 69 then 0 else R (i - 70))
def mapR (V T R : Nat → Int) : List Value := (List.range 74).map (cellR V T R)
def Rp (w : World) (B : Nat) (V T R : Nat → Int) : Prop := w.heap[B]? = some (.cells (mapR V T R).toArray 32 (0, 0))
theorem mapR_get (V T R : Nat → Int) (i : Nat) : (mapR V T R)[i]? = if i < 74 then some (cellR V T R i) else none := by
  unfold mapR
  by_cases h : i < 74
  · simp [h]
  · simp [h]
theorem mapR_len (V T R : Nat → Int) : (mapR V T R).length = 74 := by simp [mapR]
theorem Rp.cell {w : World} {B : Nat} {V T R : Nat → Int} (h : Rp w B V T R) (i : Nat) (hi : i < 74) : w.cell? ⟨B, i, none⟩ = some (cellR V T R i) := by
  rw [cell_of_row w B i _ 32 (0, 0) h]
  simp [mapR_get, hi]
theorem Rp.val {w : World} {B : Nat} {V T R : Nat → Int} (h : Rp w B V T R) (i : Nat) (hi : i < 64) : w.cell? ⟨B, i, none⟩ = some (.int .u16 (V i)) := by
  rw [h.cell i (by omega)]; simp [cellR, hi]
theorem Rp.ts {w : World} {B : Nat} {V T R : Nat → Int} (h : Rp w B V T R) (i : Nat) (hi : i < 4) : w.cell? ⟨B, 64 + (i + 1), none⟩ = some (.int .u32 (T i)) := by
  rw [h.cell _ (by omega)]
  unfold cellR
  rw [if_neg (by omega), if_pos (by omega), if_neg (by omega)]
  have : 64 + (i + 1) - 65 = i := by omega
  rw [this]
theorem Rp.rs {w : World} {B : Nat} {V T R : Nat → Int} (h : Rp w B V T R) (i : Nat) (hi : i < 4) : w.cell? ⟨B, 69 + (i + 1), none⟩ = some (.int .u32 (R i)) := by
  rw [h.cell _ (by omega)]
  unfold cellR
  rw [if_neg (by omega), if_neg (by omega), if_neg (by omega)]
  have : 69 + (i + 1) - 70 = i := by omega
  rw [this]
theorem Rp.lt {w : World} {B : Nat} {V T R : Nat → Int} (h : Rp w B V T R) : B < w.heap.size := lt_of_block h
theorem Rp.frozen {w : World} {B : Nat} {V T R : Nat → Int} (h : Rp w B V T R) (k : Nat) : w.frozen? ⟨B, k, none⟩ = false := frozen_of_row w B k _ 32 h
theorem Rp.below {w w' : World} {B H : Nat} {V T R : Nat → Int} (h : Rp w B V T R) (hk : Below H w w') (hB : B < H) : Rp w' B V T R := by
  unfold Rp
  rw [hk.block B hB]
  exact h
theorem Rp.kept {S : Nat → Prop} {w w' : World} {B : Nat} {V T R : Nat → Int} (h : Rp w B V T R) (hk : Kept S w w') (hB : ¬ S B) : Rp w' B V T R := by
  unfold Rp
  rw [hk.block B h.lt hB]
  exact h
theorem setR_val (V T R : Nat → Int) (k : Nat) (x : Int) (hk : k < 64) : (mapR V T R).set k (.int .u16 x) = mapR (upd V k x) T R := by
  refine List.ext_getElem? fun i => ?_
  rw [List.getElem?_set, mapR_get, mapR_get, mapR_len]
  by_cases e : k = i
  · subst e
    have : k < 74 := by omega
    simp [this, cellR, hk, upd]
  · simp only [e, if_false]
    by_cases h74 : i < 74
    · simp only [h74, if_true, cellR, upd]
      by_cases h64 : i < 64
      · simp only [h64, if_true]
        rw [if_neg (fun he => e he.symm)]
      · simp only [h64, if_false]
    · simp [h74]
theorem setR_ts (V T R : Nat → Int) (k : Nat) (x : Int) (hk : k < 4) : (mapR V T R).set (64 + (k + 1)) (.int .u32 x) = mapR V (upd T k x) R := by
  refine List.ext_getElem? fun i => ?_
  rw [List.getElem?_set, mapR_get, mapR_get, mapR_len]
  by_cases e : 64 + (k + 1) = i
  · subst e
    rw [if_pos rfl, if_pos (by omega), if_pos (by omega)]
    unfold cellR upd
    rw [if_neg (by omega), if_pos (by omega), if_neg (by omega), if_pos (by omega)]
  · rw [if_neg e]
    by_cases h74 : i < 74
    · rw [if_pos h74, if_pos h74]
      unfold cellR
      by_cases h64 : i < 64
      · rw [if_pos h64, if_pos h64]
      · rw [if_neg h64, if_neg h64]
        by_cases h69 : i < 69
        · rw [if_pos h69, if_pos h69]
          by_cases h0 : i = 64
          · rw [if_pos h0, if_pos h0]
          · rw [if_neg h0, if_neg h0]
            unfold upd
            rw [if_neg (by omega)]
        · rw [if_neg h69, if_neg h69]
    · simp [h74]
theorem setR_rs (V T R : Nat → Int) (k : Nat) (x : Int) (hk : k < 4) : (mapR V T R).set (69 + (k + 1)) (.int .u32 x) = mapR V T (upd R k x) := by
  refine List.ext_getElem? fun i => ?_
  rw [List.getElem?_set, mapR_get, mapR_get, mapR_len]
  by_cases e : 69 + (k + 1) = i
  · subst e
    rw [if_pos rfl, if_pos (by omega), if_pos (by omega)]
    unfold cellR upd
    rw [if_neg (by omega), if_neg (by omega), if_neg (by omega), if_pos (by omega)]
  · rw [if_neg e]
    by_cases h74 : i < 74
    · rw [if_pos h74, if_pos h74]
      unfold cellR
      by_cases h64 : i < 64
      · rw [if_pos h64, if_pos h64]
      · rw [if_neg h64, if_neg h64]
        by_cases h69 : i < 69
        · rw [if_pos h69, if_pos h69]
        · rw [if_neg h69, if_neg h69]
          by_cases h0 : i = 69
          · rw [if_pos h0, if_pos h0]
          · rw [if_neg h0, if_neg h0]
            unfold upd
            rw [if_neg (by omega)]
    · simp [h74]
theorem Rp.set {w : World} {B : Nat} {V T R : Nat → Int} (h : Rp w B V T R) (k : Nat) (x : Int) (hk : k < 64) : Rp (w.setCell ⟨B, k, none⟩ (.int .u16 x)) B (upd V k x) T R := by
  unfold Rp
  rw [heap_setCell_same w B k _ 32 _ h]
  simp [setR_val V T R k x hk]
theorem Rp.setts {w : World} {B : Nat} {V T R : Nat → Int} (h : Rp w B V T R) (k : Nat) (x : Int) (hk : k < 4) : Rp (w.setCell ⟨B, 64 + (k + 1), none⟩ (.int .u32 x)) B V (upd T k x) R := by
  unfold Rp
  rw [heap_setCell_same w B _ _ 32 _ h]
  rw [List.setIfInBounds_toArray, setR_ts V T R k x hk]
theorem Rp.setrs {w : World} {B : Nat} {V T R : Nat → Int} (h : Rp w B V T R) (k : Nat) (x : Int) (hk : k < 4) : Rp (w.setCell ⟨B, 69 + (k + 1), none⟩ (.int .u32 x)) B V T (upd R k x) := by
  unfold Rp
  rw [heap_setCell_same w B _ _ 32 _ h]
  rw [List.setIfInBounds_toArray, setR_rs V T R k x hk]

theorem zero34 (w : World) : (zeroValue 32).run Try.prog w = .ok (.agg (mapR nul nul nul).toArray) w := by kernel_rfl
end Go.Proofs.Ytphakceboohbhaa
