/- A map in pages in memory: its 72 cells; New, Get, Put. -/
import Derived.Test.YtphakceboohbhaaReads
import Derived.Deep.MidRow
namespace Go.Proofs.Ytphakceboohbhaa
open Go.RowKit
set_option maxRecDepth 100000

/-- cell i of a map with the values V, the clients' ts T and results R -/
def cellM (V T R : Nat → Int) (i : Nat) : Value :=
  if i < 64 then .int .u16 (V i) else if i % 2 = 0 then .int .u32 (T ((i - 64) / 2)) else .int .u32 (R ((i - 64) / 2))
def mapL (V T R : Nat → Int) : List Value := (List.range 72).map (cellM V T R)
/-- block B holds a map -/
def Mp (w : World) (B : Nat) (V T R : Nat → Int) : Prop := w.heap[B]? = some (.cells (mapL V T R).toArray 62 (0, 0))

theorem mapL_get (V T R : Nat → Int) (i : Nat) : (mapL V T R)[i]? = if i < 72 then some (cellM V T R i) else none := by
  unfold mapL
  by_cases h : i < 72
  · simp [h]
  · simp [h]
theorem mapL_len (V T R : Nat → Int) : (mapL V T R).length = 72 := by simp [mapL]
theorem mapL_one (V T R : Nat → Int) : ∀ v ∈ mapL V T R, v.oneCell' = true := by
  intro v hv
  obtain ⟨i, _, rfl⟩ := List.mem_map.1 hv
  unfold cellM
  split
  · rfl
  · split <;> rfl
theorem Mp.cell {w : World} {B : Nat} {V T R : Nat → Int} (h : Mp w B V T R) (i : Nat) (hi : i < 72) : w.cell? ⟨B, i, none⟩ = some (cellM V T R i) := by
  rw [cell_of_row w B i _ 62 (0, 0) h]
  simp [mapL_get, hi]
theorem Mp.val {w : World} {B : Nat} {V T R : Nat → Int} (h : Mp w B V T R) (i : Nat) (hi : i < 64) : w.cell? ⟨B, i, none⟩ = some (.int .u16 (V i)) := by
  rw [h.cell i (by omega)]; simp [cellM, hi]
theorem Mp.ts {w : World} {B : Nat} {V T R : Nat → Int} (h : Mp w B V T R) (i : Nat) (hi : i < 4) : w.cell? ⟨B, 64 + i * 2, none⟩ = some (.int .u32 (T i)) := by
  rw [h.cell _ (by omega)]
  have h1 : ¬ 64 + i * 2 < 64 := by omega
  have h2 : (64 + i * 2) % 2 = 0 := by omega
  simp [cellM, h1, h2]
theorem Mp.rs {w : World} {B : Nat} {V T R : Nat → Int} (h : Mp w B V T R) (i : Nat) (hi : i < 4) : w.cell? ⟨B, 64 + i * 2 + 1, none⟩ = some (.int .u32 (R i)) := by
  rw [h.cell _ (by omega)]
  have h1 : ¬ 64 + i * 2 + 1 < 64 := by omega
  have h2 : ¬ (64 + i * 2 + 1) % 2 = 0 := by omega
  have h3 : (64 + i * 2 - 63) / 2 = i := by omega
  simp [cellM, h1, h2, h3]
theorem Mp.lt {w : World} {B : Nat} {V T R : Nat → Int} (h : Mp w B V T R) : B < w.heap.size := lt_of_block h
theorem Mp.kept {S : Nat → Prop} {w w' : World} {B : Nat} {V T R : Nat → Int} (h : Mp w B V T R) (hk : Kept S w w') (hB : ¬ S B) : Mp w' B V T R := by
  unfold Mp
  rw [hk.block B h.lt hB]
  exact h
theorem Mp.ext {w : World} {B : Nat} {V T R V' T' R' : Nat → Int} (h : Mp w B V T R) (hv : ∀ i, i < 64 → V i = V' i) (ht : ∀ i, i < 4 → T i = T' i ∧ R i = R' i) : Mp w B V' T' R' := by
  have e : mapL V T R = mapL V' T' R' := by
    unfold mapL
    refine List.map_congr_left fun i hi => ?_
    have hi := List.mem_range.1 hi
    unfold cellM
    split
    · rw [hv i (by assumption)]
    · have := ht ((i - 64) / 2) (by omega)
      split
      · rw [this.1]
      · rw [this.2]
  unfold Mp at *
  rw [← e]; exact h

def upd (V : Nat → Int) (k : Nat) (x : Int) : Nat → Int := fun i => if i = k then x else V i

theorem set_val (V T R : Nat → Int) (k : Nat) (x : Int) (hk : k < 64) : (mapL V T R).set k (.int .u16 x) = mapL (upd V k x) T R := by
  refine List.ext_getElem? fun i => ?_
  rw [List.getElem?_set, mapL_get, mapL_get, mapL_len]
  by_cases e : k = i
  · subst e
    have : k < 72 := by omega
    simp [this, cellM, hk, upd]
  · simp only [e, if_false]
    by_cases h72 : i < 72
    · simp only [h72, if_true, cellM, upd]
      by_cases h64 : i < 64
      · simp only [h64, if_true]
        rw [if_neg (fun he => e he.symm)]
      · simp only [h64, if_false]
    · simp [h72]

theorem Mp.set {w : World} {B : Nat} {V T R : Nat → Int} (h : Mp w B V T R) (k : Nat) (x : Int) (hk : k < 64) : Mp (w.setCell ⟨B, k, none⟩ (.int .u16 x)) B (upd V k x) T R := by
  unfold Mp
  rw [heap_setCell_same w B k _ 62 _ h]
  simp [set_val V T R k x hk]

theorem set_ts (V T R : Nat → Int) (k : Nat) (x : Int) (hk : k < 4) : (mapL V T R).set (64 + k * 2) (.int .u32 x) = mapL V (upd T k x) R := by
  refine List.ext_getElem? fun i => ?_
  rw [List.getElem?_set, mapL_get, mapL_get, mapL_len]
  by_cases e : 64 + k * 2 = i
  · subst e
    have h1 : 64 + k * 2 < 72 := by omega
    have h2 : ¬ 64 + k * 2 < 64 := by omega
    have h3 : (64 + k * 2) % 2 = 0 := by omega
    have h4 : (64 + k * 2 - 64) / 2 = k := by omega
    rw [if_pos rfl, if_pos h1, if_pos h1]
    unfold cellM
    rw [if_neg h2, if_pos h3, h4]
    simp [upd]
  · rw [if_neg e]
    by_cases h72 : i < 72
    · rw [if_pos h72, if_pos h72]
      unfold cellM
      by_cases h64 : i < 64
      · rw [if_pos h64, if_pos h64]
      · rw [if_neg h64, if_neg h64]
        by_cases h2 : i % 2 = 0
        · rw [if_pos h2, if_pos h2]
          unfold upd
          rw [if_neg (by omega)]
        · rw [if_neg h2, if_neg h2]
    · simp [h72]
theorem Mp.setts {w : World} {B : Nat} {V T R : Nat → Int} (h : Mp w B V T R) (k : Nat) (x : Int) (hk : k < 4) : Mp (w.setCell ⟨B, 64 + k * 2, none⟩ (.int .u32 x)) B V (upd T k x) R := by
  unfold Mp
  rw [heap_setCell_same w B _ _ 62 _ h]
  simp [set_ts V T R k x hk]

theorem set_rs (V T R : Nat → Int) (k : Nat) (x : Int) (hk : k < 4) : (mapL V T R).set (64 + k * 2 + 1) (.int .u32 x) = mapL V T (upd R k x) := by
  refine List.ext_getElem? fun i => ?_
  rw [List.getElem?_set, mapL_get, mapL_get, mapL_len]
  by_cases e : 64 + k * 2 + 1 = i
  · subst e
    have h1 : 64 + k * 2 + 1 < 72 := by omega
    have h2 : ¬ 64 + k * 2 + 1 < 64 := by omega
    have h3 : ¬ (64 + k * 2 + 1) % 2 = 0 := by omega
    have h4 : (64 + k * 2 + 1 - 64) / 2 = k := by omega
    rw [if_pos rfl, if_pos h1, if_pos h1]
    unfold cellM
    rw [if_neg h2, if_neg h3, h4]
    simp [upd]
  · rw [if_neg e]
    by_cases h72 : i < 72
    · rw [if_pos h72, if_pos h72]
      unfold cellM
      by_cases h64 : i < 64
      · rw [if_pos h64, if_pos h64]
      · rw [if_neg h64, if_neg h64]
        by_cases h2 : i % 2 = 0
        · rw [if_pos h2, if_pos h2]
        · rw [if_neg h2, if_neg h2]
          unfold upd
          rw [if_neg (by omega)]
    · simp [h72]
theorem Mp.setrs {w : World} {B : Nat} {V T R : Nat → Int} (h : Mp w B V T R) (k : Nat) (x : Int) (hk : k < 4) : Mp (w.setCell ⟨B, 64 + k * 2 + 1, none⟩ (.int .u32 x)) B V T (upd R k x) := by
  unfold Mp
  rw [heap_setCell_same w B _ _ 62 _ h]
  simp [set_rs V T R k x hk]
theorem Mp.frozen {w : World} {B : Nat} {V T R : Nat → Int} (h : Mp w B V T R) (k : Nat) : w.frozen? ⟨B, k, none⟩ = false := frozen_of_row w B k _ 62 h

theorem zero48 (w : World) : (zeroValue 62).run Try.prog w = .ok (.agg ((List.range 72).map (cellM (fun _ => 0) (fun _ => 0) (fun _ => 0))).toArray) w := by kernel_rfl

def nul : Nat → Int := fun _ => 0
theorem map_new (w : World) : Calls Try.prog 9 #[] w fun e w' => e = .returned (.pointer (some ⟨w.heap.size, 0, none⟩)) ∧ w.alloc (.cells (mapL nul nul nul).toArray 62) = w' := by
  have hz : ∀ w, (zeroValue 62).run Try.prog w = .ok (.agg (mapL nul nul nul).toArray) w := zero48
  generalize (mapL nul nul nul).toArray = A at hz ⊢
  go_enter Try.func9, Try.ntmps9
  go_wp2
  go_ret
  exact ⟨rfl, rfl⟩
theorem mp_new (w : World) : Mp (w.alloc (.cells (mapL nul nul nul).toArray 62)) w.heap.size nul nul nul := heap_alloc_new w _

theorem get_any (w : World) (B : Nat) (k : Nat) (V T R : Nat → Int) (h : Mp w B V T R) :
    Calls Try.prog 20 #[.pointer (some ⟨B, 0, none⟩), .int .u8 k] w fun e w' => e = .returned (.int .u16 (if k < 64 then V k else 0)) ∧ w' = w := by
  by_cases hk2 : 64 ≤ k
  · have hk3 : (64 : Int) ≤ k := by omega
    have hk4 : ¬ k < 64 := by omega
    go_enter Try.func20, Try.ntmps20
    go_wp2
    go_ret
    exact ⟨by simp, rfl⟩
  have hc := h.val k (by omega)
  have hk4 : k < 64 := by omega
  have hk5 : ¬ (64 : Int) ≤ k := by omega
  generalize V k = v at *
  clear h
  go_enter Try.func20, Try.ntmps20
  go_wp2
  go_ret
  exact ⟨by simp, rfl⟩

theorem put_any (w : World) (B : Nat) (k : Nat) (x : Int) (V T R : Nat → Int) (h : Mp w B V T R) :
    Calls Try.prog 28 #[.pointer (some ⟨B, 0, none⟩), .int .u8 k, .int .u16 x] w fun e w' => e = .returned (.tuple #[]) ∧ Kept (fun i => i = B) w w' ∧ Mp w' B (if k < 64 then upd V k x else V) T R := by
  by_cases hk2 : 64 ≤ k
  · have hk3 : (64 : Int) ≤ k := by omega
    have hk4 : ¬ k < 64 := by omega
    rw [if_neg hk4]
    go_enter Try.func28, Try.ntmps28
    go_wp2
    go_end0
    exact ⟨rfl, Kept.refl _ _, h⟩
  have hc := h.val k (by omega)
  have hf := h.frozen k
  have hk4 : k < 64 := by omega
  have hk5 : ¬ (64 : Int) ≤ k := by omega
  rw [if_pos hk4]
  generalize V k = v at hc
  have hS := h.set k x hk4
  clear h
  have HS := Lib.hid hS
  clear hS
  go_enter Try.func28, Try.ntmps28
  go_wp2
  go_end0
  exact ⟨rfl, (Kept.refl _ _).setCell _ _ (fun _ => rfl), HS.out⟩
end Go.Proofs.Ytphakceboohbhaa
