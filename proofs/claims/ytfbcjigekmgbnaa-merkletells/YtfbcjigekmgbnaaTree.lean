/- Sums in memory; a list that is one sum a page, taken as an array; its groups, its root. -/
import Derived.Test.YtfbcjigekmgbnaaLeaf
import Derived.Test.YtfbcjigekmgbnaaHeld
import Derived.Deep.MidRow
namespace Go.Proofs.Ytfbcjigekmgbnaa
open Go.RowKit
set_option maxRecDepth 100000

/-- sums as values -/
def qv (l : List Int) : List Value := l.map (.int .u64)
/-- the sums l lie at ao, one behind the other -/
def Qs (w : World) (ao : Option Addr) (l : List Int) : Prop := ∀ i, i < l.length → ∃ b off, ao = some ⟨b, off, none⟩ ∧ w.cell? ⟨b, off + i, none⟩ = some (.int .u64 (l.getD i 0))
theorem qs_lt {w : World} {ao : Option Addr} {l : List Int} {ad : Addr} (h : Qs w ao l) (e : ao = some ad) (hl : 0 < l.length) : ad.block < w.heap.size := by
  obtain ⟨b, off, e2, hc⟩ := h 0 hl
  rw [e] at e2; injection e2 with e2; subst e2
  exact cell_block hc
theorem qs_kept {S : Nat → Prop} {w w' : World} {ao : Option Addr} {l : List Int} (h : Qs w ao l) (hk : Kept S w w') (hS : ∀ ad, ao = some ad → 0 < l.length → ¬ S ad.block) : Qs w' ao l := by
  intro i hi
  obtain ⟨b, off, e, hc⟩ := h i hi
  refine ⟨b, off, e, ?_⟩
  rw [← hc]
  exact World.cell?_of_block (hk.block _ (cell_block hc) (hS ⟨b, off, none⟩ e (by omega)))
theorem qs_below {w w' : World} {ao : Option Addr} {l : List Int} (h : Qs w ao l) (hk : Below w.heap.size w w') : Qs w' ao l :=
  qs_kept h (Kept.ofBelow (S := fun _ => False) hk) (fun _ _ _ h => h)
theorem qs_block {w : World} {g : Nat} {l : List Int} {t : TypeId} (h : w.heap[g]? = some (.cells (qv l).toArray t (0, 0))) : Qs w (some ⟨g, 0, none⟩) l := fun i hi => by
  refine ⟨_, _, rfl, ?_⟩
  rw [Nat.zero_add, cell_of_row w g i _ t (0, 0) h]
  simp [qv, List.getElem?_eq_getElem hi, List.getD_eq_getElem?_getD]

theorem load68 {w : World} {ad : Addr} {l : List Int} (h : Qs w (some ad) l) (hl : l.length = 8) : (Instr.loadAt 68 (.pointer (some ad))).run Try.prog w = .ok (.agg (qv l).toArray) w := by
  have h1 := run_loadCells_list (P := Try.prog) w ad (qv l) (fun j v hj => by
    obtain ⟨hj', rfl⟩ := List.getElem?_eq_some_iff.1 hj
    simp only [qv, List.length_map] at hj'
    obtain ⟨b, off, e, hc⟩ := h j hj'
    injection e with e; subst e
    rw [Addr.add_mid, hc]; simp [qv, List.getElem?_eq_getElem hj', List.getD_eq_getElem?_getD])
  have h2 : (qv l).length = 8 := by simp [qv, hl]
  rw [h2] at h1
  have hi : ∀ w, (isAgg 68).run Try.prog w = .ok true w := fun w => by kernel_rfl
  have hz : ∀ w, (sizeOf 68).run Try.prog w = .ok 8 w := fun w => by kernel_rfl
  simp only [Instr.loadAt, Instr.sureAddr, Sem.run_bind, Sem.run_pure, Result.andThen_ok, loadVar, hi, hz, if_true, h1]

theorem len8 {l : List Int} (h : l.length = 8) : ∃ a b c d e f g k, l = [a, b, c, d, e, f, g, k] := by
  match l, h with
  | [a, b, c, d, e, f, g, k], _ => exact ⟨a, b, c, d, e, f, g, k, rfl⟩

def zeros : List Int := [0, 0, 0, 0, 0, 0, 0, 0]
def wl (l : List Int) : List Int := if l.length = 8 then l else zeros
theorem row_cells (w : World) (a0 a1 a2 a3 a4 a5 a6 a7 : Int) : ∀ i, i < 8 → (w.alloc (.cells #[.int .u64 a0, .int .u64 a1, .int .u64 a2, .int .u64 a3, .int .u64 a4, .int .u64 a5, .int .u64 a6, .int .u64 a7] 68)).cell? ⟨w.heap.size, i, none⟩ = some (.int .u64 ([a0, a1, a2, a3, a4, a5, a6, a7].getD i 0)) := fun i hi => by
  rw [cell_of_row _ _ i _ 68 (0, 0) (heap_alloc_new w _)]
  rcases (by omega : i = 0 ∨ i = 1 ∨ i = 2 ∨ i = 3 ∨ i = 4 ∨ i = 5 ∨ i = 6 ∨ i = 7) with rfl | rfl | rfl | rfl | rfl | rfl | rfl | rfl <;> rfl
theorem whole_yes (w : World) (ad : Addr) (cap : Nat) (l : List Int) (h : Qs w (some ad) l) (hl : l.length = 8) :
    Calls Try.prog 37 #[.slice (some ad) 8 cap] w fun e w' => e = .returned (.tuple #[.agg (qv l).toArray, .bool true]) ∧ Below w.heap.size w w' := by
  have hA : ∀ w, (Instr.arrayAt 68 (.slice (some ad) 8 cap)).run Try.prog w = .ok (.pointer (some ad)) w := fun w => by kernel_rfl
  have h2 := qs_below h ((Below.refl _ w).alloc (Nat.le_refl _) (.cells (qv zeros).toArray 68))
  obtain ⟨a0, a1, a2, a3, a4, a5, a6, a7, rfl⟩ := len8 hl
  obtain ⟨b, off, e, c0⟩ := h2 0 (by simp)
  injection e with e; subst e
  have hc : ∀ i, i < 8 → (w.alloc (.cells (qv zeros).toArray 68)).cell? ⟨b, off + i, none⟩ = some (.int .u64 ([a0, a1, a2, a3, a4, a5, a6, a7].getD i 0)) := fun i hi => by
    obtain ⟨b', off', e, hc⟩ := h2 i (by simpa using hi)
    injection e with e; injection e with e1 e2; subst e1 e2
    exact hc
  have c1 := hc 1 (by omega)
  have c2 := hc 2 (by omega)
  have c3 := hc 3 (by omega)
  have c4 := hc 4 (by omega)
  have c5 := hc 5 (by omega)
  have c6 := hc 6 (by omega)
  have c7 := hc 7 (by omega)
  clear h hl h2 hc
  simp only [qv, zeros, List.map, Nat.add_zero, List.getD_cons_zero, List.getD_cons_succ] at c0 c1 c2 c3 c4 c5 c6 c7 ⊢
  go_enter Try.func37, Try.ntmps37
  go_wp2
  have z := row_cells w a0 a1 a2 a3 a4 a5 a6 a7
  have z0 := z 0 (by omega)
  have z1 := z 1 (by omega)
  have z2 := z 2 (by omega)
  have z3 := z 3 (by omega)
  have z4 := z 4 (by omega)
  have z5 := z 5 (by omega)
  have z6 := z 6 (by omega)
  have z7 := z 7 (by omega)
  clear z
  simp only [List.getD_cons_zero, List.getD_cons_succ] at z0 z1 z2 z3 z4 z5 z6 z7
  exact bodyPost_ret (v := .tuple #[.agg #[.int .u64 a0, .int .u64 a1, .int .u64 a2, .int .u64 a3, .int .u64 a4, .int .u64 a5, .int .u64 a6, .int .u64 a7], .bool true]) (by simp [results, Try.results37, go_sem, z0, z1, z2, z3, z4, z5, z6, z7]) rfl ⟨rfl, (Below.refl _ w).alloc (Nat.le_refl _) _⟩
theorem whole_no (w : World) (v : Option Addr) (n cap : Nat) (hn : n ≠ 8) :
    Calls Try.prog 37 #[.slice v n cap] w fun e w' => e = .returned (.tuple #[.agg (qv zeros).toArray, .bool false]) ∧ Below w.heap.size w w' := by
  have h8 : ((n : Int) == 8) = false := by simp; omega
  have h8' : ((n : Int) != 8) = true := by simp; omega
  simp only [qv, zeros, List.map]
  go_enter Try.func37, Try.ntmps37
  go_wp2
  have z := row_cells w 0 0 0 0 0 0 0 0
  have z0 := z 0 (by omega)
  have z1 := z 1 (by omega)
  have z2 := z 2 (by omega)
  have z3 := z 3 (by omega)
  have z4 := z 4 (by omega)
  have z5 := z 5 (by omega)
  have z6 := z 6 (by omega)
  have z7 := z 7 (by omega)
  clear z
  simp only [List.getD_cons_zero, List.getD_cons_succ] at z0 z1 z2 z3 z4 z5 z6 z7
  exact bodyPost_ret (v := .tuple #[.agg #[.int .u64 0, .int .u64 0, .int .u64 0, .int .u64 0, .int .u64 0, .int .u64 0, .int .u64 0, .int .u64 0], .bool false]) (by simp [results, Try.results37, go_sem, z0, z1, z2, z3, z4, z5, z6, z7]) rfl ⟨rfl, (Below.refl _ w).alloc (Nat.le_refl _) _⟩

/-- group g of eight sums -/
def groupI (l : List Int) (g : Nat) : Int := mixI (l.getD (2 * g) 0) (l.getD (2 * g + 1) 0)
theorem undrew {H : Nat} {w w' : World} (h : Below H w.drew w') : Below H w w' := ⟨h.os, h.tape, h.output, h.size, h.block⟩

theorem group_0 (w : World) (a0 a1 a2 a3 a4 a5 a6 a7 : Int) :
    Calls Try.prog 39 #[.agg #[.int .u64 a0, .int .u64 a1, .int .u64 a2, .int .u64 a3, .int .u64 a4, .int .u64 a5, .int .u64 a6, .int .u64 a7], .int .i64 0] w fun e w' => e = .returned (.int .u64 (mixI a0 a1)) ∧ Below w.heap.size w w' := by
  have z := row_cells w a0 a1 a2 a3 a4 a5 a6 a7
  have hb := (Below.refl w.heap.size w).alloc (Nat.le_refl _) (.cells #[.int .u64 a0, .int .u64 a1, .int .u64 a2, .int .u64 a3, .int .u64 a4, .int .u64 a5, .int .u64 a6, .int .u64 a7] 68)
  generalize hw : w.alloc (.cells #[.int .u64 a0, .int .u64 a1, .int .u64 a2, .int .u64 a3, .int .u64 a4, .int .u64 a5, .int .u64 a6, .int .u64 a7] 68) = w1 at z hb
  have HW := Lib.hid hw
  have HB := Lib.hid hb
  have z0 := z 0 (by omega)
  have z1 := z 1 (by omega)
  have M := Lib.hid (mix_any a0 a1 w1.drew)
  simp only [List.getD_cons_zero, List.getD_cons_succ] at z0 z1
  clear z hw hb
  go_enter Try.func39, Try.ntmps39
  go_wp2_with fail
  rw [HW.out]
  refine wp_region_held_drew (S := fun w' : World => w'.cell? ⟨w.heap.size, 0, none⟩ = some (.int .u64 a0) ∧ w'.cell? ⟨w.heap.size, 1, none⟩ = some (.int .u64 a1)) (by kernel_rfl) (⟨z0, z1⟩) (fun hS => ?_)
  refine takeA (i := 0) (v := .int .i64 0) ({ tmps := #[.agg #[.int .u64 a0, .int .u64 a1, .int .u64 a2, .int .u64 a3, .int .u64 a4, .int .u64 a5, .int .u64 a6, .int .u64 a7], .int .i64 0, .pointer (some ⟨w.heap.size, 0, none⟩), undef, .int .u64 0, .int .i64 0, undef, undef, undef, undef, undef, undef, undef, undef, undef], defers := [] }) rfl (by kernel_rfl) (by kernel_rfl) (by kernel_rfl) (fun _ _ _ h => h) (.inl ⟨rfl, fun _ _ => rfl⟩) hS rfl ?_
  refine takeA (i := 1) (v := .int .i64 0) ({ tmps := #[.agg #[.int .u64 a0, .int .u64 a1, .int .u64 a2, .int .u64 a3, .int .u64 a4, .int .u64 a5, .int .u64 a6, .int .u64 a7], .int .i64 0, .pointer (some ⟨w.heap.size, 0, none⟩), undef, .int .u64 0, .int .i64 0, .int .i64 0, undef, undef, undef, undef, undef, undef, undef, undef], defers := [] }) rfl (by kernel_rfl) (by kernel_rfl) (by kernel_rfl) (fun _ _ _ h => h) (.inl ⟨rfl, fun _ _ => by go_simp; rfl⟩) hS rfl ?_
  refine takeA (i := 2) (v := .pointer (some ⟨w.heap.size, 0, none⟩)) ({ tmps := #[.agg #[.int .u64 a0, .int .u64 a1, .int .u64 a2, .int .u64 a3, .int .u64 a4, .int .u64 a5, .int .u64 a6, .int .u64 a7], .int .i64 0, .pointer (some ⟨w.heap.size, 0, none⟩), undef, .int .u64 0, .int .i64 0, .int .i64 0, .pointer (some ⟨w.heap.size, 0, none⟩), undef, undef, undef, undef, undef, undef, undef], defers := [] }) rfl (by kernel_rfl) (by kernel_rfl) (by kernel_rfl) (fun _ _ _ h => h) (.inl ⟨rfl, fun _ _ => by go_simp⟩) hS rfl ?_
  refine takeA (i := 3) (v := .int .u64 a0) ({ tmps := #[.agg #[.int .u64 a0, .int .u64 a1, .int .u64 a2, .int .u64 a3, .int .u64 a4, .int .u64 a5, .int .u64 a6, .int .u64 a7], .int .i64 0, .pointer (some ⟨w.heap.size, 0, none⟩), undef, .int .u64 0, .int .i64 0, .int .i64 0, .pointer (some ⟨w.heap.size, 0, none⟩), .int .u64 a0, undef, undef, undef, undef, undef, undef], defers := [] }) rfl (by kernel_rfl) (by kernel_rfl) (by kernel_rfl) (fun _ _ _ h => h) (yi_load 40 _ (.pointer (some ⟨w.heap.size, 0, none⟩)) rfl rfl rfl (fun w hw => by have q := hw.1; go_simp)) hS rfl ?_
  refine takeA (i := 4) (v := .int .i64 0) ({ tmps := #[.agg #[.int .u64 a0, .int .u64 a1, .int .u64 a2, .int .u64 a3, .int .u64 a4, .int .u64 a5, .int .u64 a6, .int .u64 a7], .int .i64 0, .pointer (some ⟨w.heap.size, 0, none⟩), undef, .int .u64 0, .int .i64 0, .int .i64 0, .pointer (some ⟨w.heap.size, 0, none⟩), .int .u64 a0, .int .i64 0, undef, undef, undef, undef, undef], defers := [] }) rfl (by kernel_rfl) (by kernel_rfl) (by kernel_rfl) (fun _ _ _ h => h) (.inl ⟨rfl, fun _ _ => rfl⟩) hS rfl ?_
  refine takeA (i := 5) (v := .int .i64 0) ({ tmps := #[.agg #[.int .u64 a0, .int .u64 a1, .int .u64 a2, .int .u64 a3, .int .u64 a4, .int .u64 a5, .int .u64 a6, .int .u64 a7], .int .i64 0, .pointer (some ⟨w.heap.size, 0, none⟩), undef, .int .u64 0, .int .i64 0, .int .i64 0, .pointer (some ⟨w.heap.size, 0, none⟩), .int .u64 a0, .int .i64 0, .int .i64 0, undef, undef, undef, undef], defers := [] }) rfl (by kernel_rfl) (by kernel_rfl) (by kernel_rfl) (fun _ _ _ h => h) (.inl ⟨rfl, fun _ _ => by go_simp; rfl⟩) hS rfl ?_
  refine takeA (i := 6) (v := .int .i64 1) ({ tmps := #[.agg #[.int .u64 a0, .int .u64 a1, .int .u64 a2, .int .u64 a3, .int .u64 a4, .int .u64 a5, .int .u64 a6, .int .u64 a7], .int .i64 0, .pointer (some ⟨w.heap.size, 0, none⟩), undef, .int .u64 0, .int .i64 0, .int .i64 0, .pointer (some ⟨w.heap.size, 0, none⟩), .int .u64 a0, .int .i64 0, .int .i64 0, .int .i64 1, undef, undef, undef], defers := [] }) rfl (by kernel_rfl) (by kernel_rfl) (by kernel_rfl) (fun _ _ _ h => h) (.inl ⟨rfl, fun _ _ => by go_simp; rfl⟩) hS rfl ?_
  refine takeA (i := 7) (v := .pointer (some ⟨w.heap.size, 1, none⟩)) ({ tmps := #[.agg #[.int .u64 a0, .int .u64 a1, .int .u64 a2, .int .u64 a3, .int .u64 a4, .int .u64 a5, .int .u64 a6, .int .u64 a7], .int .i64 0, .pointer (some ⟨w.heap.size, 0, none⟩), undef, .int .u64 0, .int .i64 0, .int .i64 0, .pointer (some ⟨w.heap.size, 0, none⟩), .int .u64 a0, .int .i64 0, .int .i64 0, .int .i64 1, .pointer (some ⟨w.heap.size, 1, none⟩), undef, undef], defers := [] }) rfl (by kernel_rfl) (by kernel_rfl) (by kernel_rfl) (fun _ _ _ h => h) (.inl ⟨rfl, fun _ _ => by go_simp⟩) hS rfl ?_
  refine takeA (i := 8) (v := .int .u64 a1) ({ tmps := #[.agg #[.int .u64 a0, .int .u64 a1, .int .u64 a2, .int .u64 a3, .int .u64 a4, .int .u64 a5, .int .u64 a6, .int .u64 a7], .int .i64 0, .pointer (some ⟨w.heap.size, 0, none⟩), undef, .int .u64 0, .int .i64 0, .int .i64 0, .pointer (some ⟨w.heap.size, 0, none⟩), .int .u64 a0, .int .i64 0, .int .i64 0, .int .i64 1, .pointer (some ⟨w.heap.size, 1, none⟩), .int .u64 a1, undef], defers := [] }) rfl (by kernel_rfl) (by kernel_rfl) (by kernel_rfl) (fun _ _ _ h => h) (yi_load 40 _ (.pointer (some ⟨w.heap.size, 1, none⟩)) rfl rfl rfl (fun w hw => by have q := hw.2; go_simp)) hS rfl ?_
  refine wpAnyH_ready (rs := [9]) (by kernel_rfl) (by simp) ?_
  refine AllReadyH.cons rfl (fun K hK => ?_) AllReadyH.nil
  rw [if_pos (by rfl)]
  go_simp
  refine Calls.mono (M.out) ?_
  rintro e w2 ⟨rfl, b2⟩
  have y0 := (World.cell?_of_block (b2.block _ (cell_block z0))).trans z0
  have y1 := (World.cell?_of_block (b2.block _ (cell_block z1))).trans z1
  have B2 := Lib.hid (undrew b2)
  clear b2
  refine hK.out ({ tmps := #[.agg #[.int .u64 a0, .int .u64 a1, .int .u64 a2, .int .u64 a3, .int .u64 a4, .int .u64 a5, .int .u64 a6, .int .u64 a7], .int .i64 0, .pointer (some ⟨w.heap.size, 0, none⟩), undef, .int .u64 0, .int .i64 0, .int .i64 0, .pointer (some ⟨w.heap.size, 0, none⟩), .int .u64 a0, .int .i64 0, .int .i64 0, .int .i64 1, .pointer (some ⟨w.heap.size, 1, none⟩), .int .u64 a1, .int .u64 (mixI a0 a1)], defers := [] }) _ (⟨y0, y1⟩) (fun hS => ?_)
  clear hK K
  refine takeA (i := 10) (v := .int .u64 (mixI a0 a1)) ({ tmps := #[.agg #[.int .u64 a0, .int .u64 a1, .int .u64 a2, .int .u64 a3, .int .u64 a4, .int .u64 a5, .int .u64 a6, .int .u64 a7], .int .i64 0, .pointer (some ⟨w.heap.size, 0, none⟩), undef, .int .u64 (mixI a0 a1), .int .i64 0, .int .i64 0, .pointer (some ⟨w.heap.size, 0, none⟩), .int .u64 a0, .int .i64 0, .int .i64 0, .int .i64 1, .pointer (some ⟨w.heap.size, 1, none⟩), .int .u64 a1, .int .u64 (mixI a0 a1)], defers := [] }) rfl (by kernel_rfl) (by kernel_rfl) (by kernel_rfl) (fun _ _ _ h => h) (.inl ⟨rfl, fun _ _ => rfl⟩) hS rfl ?_
  refine wpAnyH_done (by kernel_rfl) ?_ _
  go_wp2_with fail
  go_ret
  exact ⟨rfl, HB.out.trans (B2.out.mono HB.out.size)⟩

theorem group_1 (w : World) (a0 a1 a2 a3 a4 a5 a6 a7 : Int) :
    Calls Try.prog 39 #[.agg #[.int .u64 a0, .int .u64 a1, .int .u64 a2, .int .u64 a3, .int .u64 a4, .int .u64 a5, .int .u64 a6, .int .u64 a7], .int .i64 1] w fun e w' => e = .returned (.int .u64 (mixI a2 a3)) ∧ Below w.heap.size w w' := by
  have z := row_cells w a0 a1 a2 a3 a4 a5 a6 a7
  have hb := (Below.refl w.heap.size w).alloc (Nat.le_refl _) (.cells #[.int .u64 a0, .int .u64 a1, .int .u64 a2, .int .u64 a3, .int .u64 a4, .int .u64 a5, .int .u64 a6, .int .u64 a7] 68)
  generalize hw : w.alloc (.cells #[.int .u64 a0, .int .u64 a1, .int .u64 a2, .int .u64 a3, .int .u64 a4, .int .u64 a5, .int .u64 a6, .int .u64 a7] 68) = w1 at z hb
  have HW := Lib.hid hw
  have HB := Lib.hid hb
  have z0 := z 2 (by omega)
  have z1 := z 3 (by omega)
  have M := Lib.hid (mix_any a2 a3 w1.drew)
  simp only [List.getD_cons_zero, List.getD_cons_succ] at z0 z1
  clear z hw hb
  go_enter Try.func39, Try.ntmps39
  go_wp2_with fail
  rw [HW.out]
  refine wp_region_held_drew (S := fun w' : World => w'.cell? ⟨w.heap.size, 2, none⟩ = some (.int .u64 a2) ∧ w'.cell? ⟨w.heap.size, 3, none⟩ = some (.int .u64 a3)) (by kernel_rfl) (⟨z0, z1⟩) (fun hS => ?_)
  refine takeA (i := 0) (v := .int .i64 1) ({ tmps := #[.agg #[.int .u64 a0, .int .u64 a1, .int .u64 a2, .int .u64 a3, .int .u64 a4, .int .u64 a5, .int .u64 a6, .int .u64 a7], .int .i64 1, .pointer (some ⟨w.heap.size, 0, none⟩), undef, .int .u64 0, .int .i64 1, undef, undef, undef, undef, undef, undef, undef, undef, undef], defers := [] }) rfl (by kernel_rfl) (by kernel_rfl) (by kernel_rfl) (fun _ _ _ h => h) (.inl ⟨rfl, fun _ _ => rfl⟩) hS rfl ?_
  refine takeA (i := 1) (v := .int .i64 2) ({ tmps := #[.agg #[.int .u64 a0, .int .u64 a1, .int .u64 a2, .int .u64 a3, .int .u64 a4, .int .u64 a5, .int .u64 a6, .int .u64 a7], .int .i64 1, .pointer (some ⟨w.heap.size, 0, none⟩), undef, .int .u64 0, .int .i64 1, .int .i64 2, undef, undef, undef, undef, undef, undef, undef, undef], defers := [] }) rfl (by kernel_rfl) (by kernel_rfl) (by kernel_rfl) (fun _ _ _ h => h) (.inl ⟨rfl, fun _ _ => by go_simp; rfl⟩) hS rfl ?_
  refine takeA (i := 2) (v := .pointer (some ⟨w.heap.size, 2, none⟩)) ({ tmps := #[.agg #[.int .u64 a0, .int .u64 a1, .int .u64 a2, .int .u64 a3, .int .u64 a4, .int .u64 a5, .int .u64 a6, .int .u64 a7], .int .i64 1, .pointer (some ⟨w.heap.size, 0, none⟩), undef, .int .u64 0, .int .i64 1, .int .i64 2, .pointer (some ⟨w.heap.size, 2, none⟩), undef, undef, undef, undef, undef, undef, undef], defers := [] }) rfl (by kernel_rfl) (by kernel_rfl) (by kernel_rfl) (fun _ _ _ h => h) (.inl ⟨rfl, fun _ _ => by go_simp⟩) hS rfl ?_
  refine takeA (i := 3) (v := .int .u64 a2) ({ tmps := #[.agg #[.int .u64 a0, .int .u64 a1, .int .u64 a2, .int .u64 a3, .int .u64 a4, .int .u64 a5, .int .u64 a6, .int .u64 a7], .int .i64 1, .pointer (some ⟨w.heap.size, 0, none⟩), undef, .int .u64 0, .int .i64 1, .int .i64 2, .pointer (some ⟨w.heap.size, 2, none⟩), .int .u64 a2, undef, undef, undef, undef, undef, undef], defers := [] }) rfl (by kernel_rfl) (by kernel_rfl) (by kernel_rfl) (fun _ _ _ h => h) (yi_load 40 _ (.pointer (some ⟨w.heap.size, 2, none⟩)) rfl rfl rfl (fun w hw => by have q := hw.1; go_simp)) hS rfl ?_
  refine takeA (i := 4) (v := .int .i64 1) ({ tmps := #[.agg #[.int .u64 a0, .int .u64 a1, .int .u64 a2, .int .u64 a3, .int .u64 a4, .int .u64 a5, .int .u64 a6, .int .u64 a7], .int .i64 1, .pointer (some ⟨w.heap.size, 0, none⟩), undef, .int .u64 0, .int .i64 1, .int .i64 2, .pointer (some ⟨w.heap.size, 2, none⟩), .int .u64 a2, .int .i64 1, undef, undef, undef, undef, undef], defers := [] }) rfl (by kernel_rfl) (by kernel_rfl) (by kernel_rfl) (fun _ _ _ h => h) (.inl ⟨rfl, fun _ _ => rfl⟩) hS rfl ?_
  refine takeA (i := 5) (v := .int .i64 2) ({ tmps := #[.agg #[.int .u64 a0, .int .u64 a1, .int .u64 a2, .int .u64 a3, .int .u64 a4, .int .u64 a5, .int .u64 a6, .int .u64 a7], .int .i64 1, .pointer (some ⟨w.heap.size, 0, none⟩), undef, .int .u64 0, .int .i64 1, .int .i64 2, .pointer (some ⟨w.heap.size, 2, none⟩), .int .u64 a2, .int .i64 1, .int .i64 2, undef, undef, undef, undef], defers := [] }) rfl (by kernel_rfl) (by kernel_rfl) (by kernel_rfl) (fun _ _ _ h => h) (.inl ⟨rfl, fun _ _ => by go_simp; rfl⟩) hS rfl ?_
  refine takeA (i := 6) (v := .int .i64 3) ({ tmps := #[.agg #[.int .u64 a0, .int .u64 a1, .int .u64 a2, .int .u64 a3, .int .u64 a4, .int .u64 a5, .int .u64 a6, .int .u64 a7], .int .i64 1, .pointer (some ⟨w.heap.size, 0, none⟩), undef, .int .u64 0, .int .i64 1, .int .i64 2, .pointer (some ⟨w.heap.size, 2, none⟩), .int .u64 a2, .int .i64 1, .int .i64 2, .int .i64 3, undef, undef, undef], defers := [] }) rfl (by kernel_rfl) (by kernel_rfl) (by kernel_rfl) (fun _ _ _ h => h) (.inl ⟨rfl, fun _ _ => by go_simp; rfl⟩) hS rfl ?_
  refine takeA (i := 7) (v := .pointer (some ⟨w.heap.size, 3, none⟩)) ({ tmps := #[.agg #[.int .u64 a0, .int .u64 a1, .int .u64 a2, .int .u64 a3, .int .u64 a4, .int .u64 a5, .int .u64 a6, .int .u64 a7], .int .i64 1, .pointer (some ⟨w.heap.size, 0, none⟩), undef, .int .u64 0, .int .i64 1, .int .i64 2, .pointer (some ⟨w.heap.size, 2, none⟩), .int .u64 a2, .int .i64 1, .int .i64 2, .int .i64 3, .pointer (some ⟨w.heap.size, 3, none⟩), undef, undef], defers := [] }) rfl (by kernel_rfl) (by kernel_rfl) (by kernel_rfl) (fun _ _ _ h => h) (.inl ⟨rfl, fun _ _ => by go_simp⟩) hS rfl ?_
  refine takeA (i := 8) (v := .int .u64 a3) ({ tmps := #[.agg #[.int .u64 a0, .int .u64 a1, .int .u64 a2, .int .u64 a3, .int .u64 a4, .int .u64 a5, .int .u64 a6, .int .u64 a7], .int .i64 1, .pointer (some ⟨w.heap.size, 0, none⟩), undef, .int .u64 0, .int .i64 1, .int .i64 2, .pointer (some ⟨w.heap.size, 2, none⟩), .int .u64 a2, .int .i64 1, .int .i64 2, .int .i64 3, .pointer (some ⟨w.heap.size, 3, none⟩), .int .u64 a3, undef], defers := [] }) rfl (by kernel_rfl) (by kernel_rfl) (by kernel_rfl) (fun _ _ _ h => h) (yi_load 40 _ (.pointer (some ⟨w.heap.size, 3, none⟩)) rfl rfl rfl (fun w hw => by have q := hw.2; go_simp)) hS rfl ?_
  refine wpAnyH_ready (rs := [9]) (by kernel_rfl) (by simp) ?_
  refine AllReadyH.cons rfl (fun K hK => ?_) AllReadyH.nil
  rw [if_pos (by rfl)]
  go_simp
  refine Calls.mono (M.out) ?_
  rintro e w2 ⟨rfl, b2⟩
  have y0 := (World.cell?_of_block (b2.block _ (cell_block z0))).trans z0
  have y1 := (World.cell?_of_block (b2.block _ (cell_block z1))).trans z1
  have B2 := Lib.hid (undrew b2)
  clear b2
  refine hK.out ({ tmps := #[.agg #[.int .u64 a0, .int .u64 a1, .int .u64 a2, .int .u64 a3, .int .u64 a4, .int .u64 a5, .int .u64 a6, .int .u64 a7], .int .i64 1, .pointer (some ⟨w.heap.size, 0, none⟩), undef, .int .u64 0, .int .i64 1, .int .i64 2, .pointer (some ⟨w.heap.size, 2, none⟩), .int .u64 a2, .int .i64 1, .int .i64 2, .int .i64 3, .pointer (some ⟨w.heap.size, 3, none⟩), .int .u64 a3, .int .u64 (mixI a2 a3)], defers := [] }) _ (⟨y0, y1⟩) (fun hS => ?_)
  clear hK K
  refine takeA (i := 10) (v := .int .u64 (mixI a2 a3)) ({ tmps := #[.agg #[.int .u64 a0, .int .u64 a1, .int .u64 a2, .int .u64 a3, .int .u64 a4, .int .u64 a5, .int .u64 a6, .int .u64 a7], .int .i64 1, .pointer (some ⟨w.heap.size, 0, none⟩), undef, .int .u64 (mixI a2 a3), .int .i64 1, .int .i64 2, .pointer (some ⟨w.heap.size, 2, none⟩), .int .u64 a2, .int .i64 1, .int .i64 2, .int .i64 3, .pointer (some ⟨w.heap.size, 3, none⟩), .int .u64 a3, .int .u64 (mixI a2 a3)], defers := [] }) rfl (by kernel_rfl) (by kernel_rfl) (by kernel_rfl) (fun _ _ _ h => h) (.inl ⟨rfl, fun _ _ => rfl⟩) hS rfl ?_
  refine wpAnyH_done (by kernel_rfl) ?_ _
  go_wp2_with fail
  go_ret
  exact ⟨rfl, HB.out.trans (B2.out.mono HB.out.size)⟩

theorem group_2 (w : World) (a0 a1 a2 a3 a4 a5 a6 a7 : Int) :
    Calls Try.prog 39 #[.agg #[.int .u64 a0, .int .u64 a1, .int .u64 a2, .int .u64 a3, .int .u64 a4, .int .u64 a5, .int .u64 a6, .int .u64 a7], .int .i64 2] w fun e w' => e = .returned (.int .u64 (mixI a4 a5)) ∧ Below w.heap.size w w' := by
  have z := row_cells w a0 a1 a2 a3 a4 a5 a6 a7
  have hb := (Below.refl w.heap.size w).alloc (Nat.le_refl _) (.cells #[.int .u64 a0, .int .u64 a1, .int .u64 a2, .int .u64 a3, .int .u64 a4, .int .u64 a5, .int .u64 a6, .int .u64 a7] 68)
  generalize hw : w.alloc (.cells #[.int .u64 a0, .int .u64 a1, .int .u64 a2, .int .u64 a3, .int .u64 a4, .int .u64 a5, .int .u64 a6, .int .u64 a7] 68) = w1 at z hb
  have HW := Lib.hid hw
  have HB := Lib.hid hb
  have z0 := z 4 (by omega)
  have z1 := z 5 (by omega)
  have M := Lib.hid (mix_any a4 a5 w1.drew)
  simp only [List.getD_cons_zero, List.getD_cons_succ] at z0 z1
  clear z hw hb
  go_enter Try.func39, Try.ntmps39
  go_wp2_with fail
  rw [HW.out]
  refine wp_region_held_drew (S := fun w' : World => w'.cell? ⟨w.heap.size, 4, none⟩ = some (.int .u64 a4) ∧ w'.cell? ⟨w.heap.size, 5, none⟩ = some (.int .u64 a5)) (by kernel_rfl) (⟨z0, z1⟩) (fun hS => ?_)
  refine takeA (i := 0) (v := .int .i64 2) ({ tmps := #[.agg #[.int .u64 a0, .int .u64 a1, .int .u64 a2, .int .u64 a3, .int .u64 a4, .int .u64 a5, .int .u64 a6, .int .u64 a7], .int .i64 2, .pointer (some ⟨w.heap.size, 0, none⟩), undef, .int .u64 0, .int .i64 2, undef, undef, undef, undef, undef, undef, undef, undef, undef], defers := [] }) rfl (by kernel_rfl) (by kernel_rfl) (by kernel_rfl) (fun _ _ _ h => h) (.inl ⟨rfl, fun _ _ => rfl⟩) hS rfl ?_
  refine takeA (i := 1) (v := .int .i64 4) ({ tmps := #[.agg #[.int .u64 a0, .int .u64 a1, .int .u64 a2, .int .u64 a3, .int .u64 a4, .int .u64 a5, .int .u64 a6, .int .u64 a7], .int .i64 2, .pointer (some ⟨w.heap.size, 0, none⟩), undef, .int .u64 0, .int .i64 2, .int .i64 4, undef, undef, undef, undef, undef, undef, undef, undef], defers := [] }) rfl (by kernel_rfl) (by kernel_rfl) (by kernel_rfl) (fun _ _ _ h => h) (.inl ⟨rfl, fun _ _ => by go_simp; rfl⟩) hS rfl ?_
  refine takeA (i := 2) (v := .pointer (some ⟨w.heap.size, 4, none⟩)) ({ tmps := #[.agg #[.int .u64 a0, .int .u64 a1, .int .u64 a2, .int .u64 a3, .int .u64 a4, .int .u64 a5, .int .u64 a6, .int .u64 a7], .int .i64 2, .pointer (some ⟨w.heap.size, 0, none⟩), undef, .int .u64 0, .int .i64 2, .int .i64 4, .pointer (some ⟨w.heap.size, 4, none⟩), undef, undef, undef, undef, undef, undef, undef], defers := [] }) rfl (by kernel_rfl) (by kernel_rfl) (by kernel_rfl) (fun _ _ _ h => h) (.inl ⟨rfl, fun _ _ => by go_simp⟩) hS rfl ?_
  refine takeA (i := 3) (v := .int .u64 a4) ({ tmps := #[.agg #[.int .u64 a0, .int .u64 a1, .int .u64 a2, .int .u64 a3, .int .u64 a4, .int .u64 a5, .int .u64 a6, .int .u64 a7], .int .i64 2, .pointer (some ⟨w.heap.size, 0, none⟩), undef, .int .u64 0, .int .i64 2, .int .i64 4, .pointer (some ⟨w.heap.size, 4, none⟩), .int .u64 a4, undef, undef, undef, undef, undef, undef], defers := [] }) rfl (by kernel_rfl) (by kernel_rfl) (by kernel_rfl) (fun _ _ _ h => h) (yi_load 40 _ (.pointer (some ⟨w.heap.size, 4, none⟩)) rfl rfl rfl (fun w hw => by have q := hw.1; go_simp)) hS rfl ?_
  refine takeA (i := 4) (v := .int .i64 2) ({ tmps := #[.agg #[.int .u64 a0, .int .u64 a1, .int .u64 a2, .int .u64 a3, .int .u64 a4, .int .u64 a5, .int .u64 a6, .int .u64 a7], .int .i64 2, .pointer (some ⟨w.heap.size, 0, none⟩), undef, .int .u64 0, .int .i64 2, .int .i64 4, .pointer (some ⟨w.heap.size, 4, none⟩), .int .u64 a4, .int .i64 2, undef, undef, undef, undef, undef], defers := [] }) rfl (by kernel_rfl) (by kernel_rfl) (by kernel_rfl) (fun _ _ _ h => h) (.inl ⟨rfl, fun _ _ => rfl⟩) hS rfl ?_
  refine takeA (i := 5) (v := .int .i64 4) ({ tmps := #[.agg #[.int .u64 a0, .int .u64 a1, .int .u64 a2, .int .u64 a3, .int .u64 a4, .int .u64 a5, .int .u64 a6, .int .u64 a7], .int .i64 2, .pointer (some ⟨w.heap.size, 0, none⟩), undef, .int .u64 0, .int .i64 2, .int .i64 4, .pointer (some ⟨w.heap.size, 4, none⟩), .int .u64 a4, .int .i64 2, .int .i64 4, undef, undef, undef, undef], defers := [] }) rfl (by kernel_rfl) (by kernel_rfl) (by kernel_rfl) (fun _ _ _ h => h) (.inl ⟨rfl, fun _ _ => by go_simp; rfl⟩) hS rfl ?_
  refine takeA (i := 6) (v := .int .i64 5) ({ tmps := #[.agg #[.int .u64 a0, .int .u64 a1, .int .u64 a2, .int .u64 a3, .int .u64 a4, .int .u64 a5, .int .u64 a6, .int .u64 a7], .int .i64 2, .pointer (some ⟨w.heap.size, 0, none⟩), undef, .int .u64 0, .int .i64 2, .int .i64 4, .pointer (some ⟨w.heap.size, 4, none⟩), .int .u64 a4, .int .i64 2, .int .i64 4, .int .i64 5, undef, undef, undef], defers := [] }) rfl (by kernel_rfl) (by kernel_rfl) (by kernel_rfl) (fun _ _ _ h => h) (.inl ⟨rfl, fun _ _ => by go_simp; rfl⟩) hS rfl ?_
  refine takeA (i := 7) (v := .pointer (some ⟨w.heap.size, 5, none⟩)) ({ tmps := #[.agg #[.int .u64 a0, .int .u64 a1, .int .u64 a2, .int .u64 a3, .int .u64 a4, .int .u64 a5, .int .u64 a6, .int .u64 a7], .int .i64 2, .pointer (some ⟨w.heap.size, 0, none⟩), undef, .int .u64 0, .int .i64 2, .int .i64 4, .pointer (some ⟨w.heap.size, 4, none⟩), .int .u64 a4, .int .i64 2, .int .i64 4, .int .i64 5, .pointer (some ⟨w.heap.size, 5, none⟩), undef, undef], defers := [] }) rfl (by kernel_rfl) (by kernel_rfl) (by kernel_rfl) (fun _ _ _ h => h) (.inl ⟨rfl, fun _ _ => by go_simp⟩) hS rfl ?_
  refine takeA (i := 8) (v := .int .u64 a5) ({ tmps := #[.agg #[.int .u64 a0, .int .u64 a1, .int .u64 a2, .int .u64 a3, .int .u64 a4, .int .u64 a5, .int .u64 a6, .int .u64 a7], .int .i64 2, .pointer (some ⟨w.heap.size, 0, none⟩), undef, .int .u64 0, .int .i64 2, .int .i64 4, .pointer (some ⟨w.heap.size, 4, none⟩), .int .u64 a4, .int .i64 2, .int .i64 4, .int .i64 5, .pointer (some ⟨w.heap.size, 5, none⟩), .int .u64 a5, undef], defers := [] }) rfl (by kernel_rfl) (by kernel_rfl) (by kernel_rfl) (fun _ _ _ h => h) (yi_load 40 _ (.pointer (some ⟨w.heap.size, 5, none⟩)) rfl rfl rfl (fun w hw => by have q := hw.2; go_simp)) hS rfl ?_
  refine wpAnyH_ready (rs := [9]) (by kernel_rfl) (by simp) ?_
  refine AllReadyH.cons rfl (fun K hK => ?_) AllReadyH.nil
  rw [if_pos (by rfl)]
  go_simp
  refine Calls.mono (M.out) ?_
  rintro e w2 ⟨rfl, b2⟩
  have y0 := (World.cell?_of_block (b2.block _ (cell_block z0))).trans z0
  have y1 := (World.cell?_of_block (b2.block _ (cell_block z1))).trans z1
  have B2 := Lib.hid (undrew b2)
  clear b2
  refine hK.out ({ tmps := #[.agg #[.int .u64 a0, .int .u64 a1, .int .u64 a2, .int .u64 a3, .int .u64 a4, .int .u64 a5, .int .u64 a6, .int .u64 a7], .int .i64 2, .pointer (some ⟨w.heap.size, 0, none⟩), undef, .int .u64 0, .int .i64 2, .int .i64 4, .pointer (some ⟨w.heap.size, 4, none⟩), .int .u64 a4, .int .i64 2, .int .i64 4, .int .i64 5, .pointer (some ⟨w.heap.size, 5, none⟩), .int .u64 a5, .int .u64 (mixI a4 a5)], defers := [] }) _ (⟨y0, y1⟩) (fun hS => ?_)
  clear hK K
  refine takeA (i := 10) (v := .int .u64 (mixI a4 a5)) ({ tmps := #[.agg #[.int .u64 a0, .int .u64 a1, .int .u64 a2, .int .u64 a3, .int .u64 a4, .int .u64 a5, .int .u64 a6, .int .u64 a7], .int .i64 2, .pointer (some ⟨w.heap.size, 0, none⟩), undef, .int .u64 (mixI a4 a5), .int .i64 2, .int .i64 4, .pointer (some ⟨w.heap.size, 4, none⟩), .int .u64 a4, .int .i64 2, .int .i64 4, .int .i64 5, .pointer (some ⟨w.heap.size, 5, none⟩), .int .u64 a5, .int .u64 (mixI a4 a5)], defers := [] }) rfl (by kernel_rfl) (by kernel_rfl) (by kernel_rfl) (fun _ _ _ h => h) (.inl ⟨rfl, fun _ _ => rfl⟩) hS rfl ?_
  refine wpAnyH_done (by kernel_rfl) ?_ _
  go_wp2_with fail
  go_ret
  exact ⟨rfl, HB.out.trans (B2.out.mono HB.out.size)⟩

theorem group_3 (w : World) (a0 a1 a2 a3 a4 a5 a6 a7 : Int) :
    Calls Try.prog 39 #[.agg #[.int .u64 a0, .int .u64 a1, .int .u64 a2, .int .u64 a3, .int .u64 a4, .int .u64 a5, .int .u64 a6, .int .u64 a7], .int .i64 3] w fun e w' => e = .returned (.int .u64 (mixI a6 a7)) ∧ Below w.heap.size w w' := by
  have z := row_cells w a0 a1 a2 a3 a4 a5 a6 a7
  have hb := (Below.refl w.heap.size w).alloc (Nat.le_refl _) (.cells #[.int .u64 a0, .int .u64 a1, .int .u64 a2, .int .u64 a3, .int .u64 a4, .int .u64 a5, .int .u64 a6, .int .u64 a7] 68)
  generalize hw : w.alloc (.cells #[.int .u64 a0, .int .u64 a1, .int .u64 a2, .int .u64 a3, .int .u64 a4, .int .u64 a5, .int .u64 a6, .int .u64 a7] 68) = w1 at z hb
  have HW := Lib.hid hw
  have HB := Lib.hid hb
  have z0 := z 6 (by omega)
  have z1 := z 7 (by omega)
  have M := Lib.hid (mix_any a6 a7 w1.drew)
  simp only [List.getD_cons_zero, List.getD_cons_succ] at z0 z1
  clear z hw hb
  go_enter Try.func39, Try.ntmps39
  go_wp2_with fail
  rw [HW.out]
  refine wp_region_held_drew (S := fun w' : World => w'.cell? ⟨w.heap.size, 6, none⟩ = some (.int .u64 a6) ∧ w'.cell? ⟨w.heap.size, 7, none⟩ = some (.int .u64 a7)) (by kernel_rfl) (⟨z0, z1⟩) (fun hS => ?_)
  refine takeA (i := 0) (v := .int .i64 3) ({ tmps := #[.agg #[.int .u64 a0, .int .u64 a1, .int .u64 a2, .int .u64 a3, .int .u64 a4, .int .u64 a5, .int .u64 a6, .int .u64 a7], .int .i64 3, .pointer (some ⟨w.heap.size, 0, none⟩), undef, .int .u64 0, .int .i64 3, undef, undef, undef, undef, undef, undef, undef, undef, undef], defers := [] }) rfl (by kernel_rfl) (by kernel_rfl) (by kernel_rfl) (fun _ _ _ h => h) (.inl ⟨rfl, fun _ _ => rfl⟩) hS rfl ?_
  refine takeA (i := 1) (v := .int .i64 6) ({ tmps := #[.agg #[.int .u64 a0, .int .u64 a1, .int .u64 a2, .int .u64 a3, .int .u64 a4, .int .u64 a5, .int .u64 a6, .int .u64 a7], .int .i64 3, .pointer (some ⟨w.heap.size, 0, none⟩), undef, .int .u64 0, .int .i64 3, .int .i64 6, undef, undef, undef, undef, undef, undef, undef, undef], defers := [] }) rfl (by kernel_rfl) (by kernel_rfl) (by kernel_rfl) (fun _ _ _ h => h) (.inl ⟨rfl, fun _ _ => by go_simp; rfl⟩) hS rfl ?_
  refine takeA (i := 2) (v := .pointer (some ⟨w.heap.size, 6, none⟩)) ({ tmps := #[.agg #[.int .u64 a0, .int .u64 a1, .int .u64 a2, .int .u64 a3, .int .u64 a4, .int .u64 a5, .int .u64 a6, .int .u64 a7], .int .i64 3, .pointer (some ⟨w.heap.size, 0, none⟩), undef, .int .u64 0, .int .i64 3, .int .i64 6, .pointer (some ⟨w.heap.size, 6, none⟩), undef, undef, undef, undef, undef, undef, undef], defers := [] }) rfl (by kernel_rfl) (by kernel_rfl) (by kernel_rfl) (fun _ _ _ h => h) (.inl ⟨rfl, fun _ _ => by go_simp⟩) hS rfl ?_
  refine takeA (i := 3) (v := .int .u64 a6) ({ tmps := #[.agg #[.int .u64 a0, .int .u64 a1, .int .u64 a2, .int .u64 a3, .int .u64 a4, .int .u64 a5, .int .u64 a6, .int .u64 a7], .int .i64 3, .pointer (some ⟨w.heap.size, 0, none⟩), undef, .int .u64 0, .int .i64 3, .int .i64 6, .pointer (some ⟨w.heap.size, 6, none⟩), .int .u64 a6, undef, undef, undef, undef, undef, undef], defers := [] }) rfl (by kernel_rfl) (by kernel_rfl) (by kernel_rfl) (fun _ _ _ h => h) (yi_load 40 _ (.pointer (some ⟨w.heap.size, 6, none⟩)) rfl rfl rfl (fun w hw => by have q := hw.1; go_simp)) hS rfl ?_
  refine takeA (i := 4) (v := .int .i64 3) ({ tmps := #[.agg #[.int .u64 a0, .int .u64 a1, .int .u64 a2, .int .u64 a3, .int .u64 a4, .int .u64 a5, .int .u64 a6, .int .u64 a7], .int .i64 3, .pointer (some ⟨w.heap.size, 0, none⟩), undef, .int .u64 0, .int .i64 3, .int .i64 6, .pointer (some ⟨w.heap.size, 6, none⟩), .int .u64 a6, .int .i64 3, undef, undef, undef, undef, undef], defers := [] }) rfl (by kernel_rfl) (by kernel_rfl) (by kernel_rfl) (fun _ _ _ h => h) (.inl ⟨rfl, fun _ _ => rfl⟩) hS rfl ?_
  refine takeA (i := 5) (v := .int .i64 6) ({ tmps := #[.agg #[.int .u64 a0, .int .u64 a1, .int .u64 a2, .int .u64 a3, .int .u64 a4, .int .u64 a5, .int .u64 a6, .int .u64 a7], .int .i64 3, .pointer (some ⟨w.heap.size, 0, none⟩), undef, .int .u64 0, .int .i64 3, .int .i64 6, .pointer (some ⟨w.heap.size, 6, none⟩), .int .u64 a6, .int .i64 3, .int .i64 6, undef, undef, undef, undef], defers := [] }) rfl (by kernel_rfl) (by kernel_rfl) (by kernel_rfl) (fun _ _ _ h => h) (.inl ⟨rfl, fun _ _ => by go_simp; rfl⟩) hS rfl ?_
  refine takeA (i := 6) (v := .int .i64 7) ({ tmps := #[.agg #[.int .u64 a0, .int .u64 a1, .int .u64 a2, .int .u64 a3, .int .u64 a4, .int .u64 a5, .int .u64 a6, .int .u64 a7], .int .i64 3, .pointer (some ⟨w.heap.size, 0, none⟩), undef, .int .u64 0, .int .i64 3, .int .i64 6, .pointer (some ⟨w.heap.size, 6, none⟩), .int .u64 a6, .int .i64 3, .int .i64 6, .int .i64 7, undef, undef, undef], defers := [] }) rfl (by kernel_rfl) (by kernel_rfl) (by kernel_rfl) (fun _ _ _ h => h) (.inl ⟨rfl, fun _ _ => by go_simp; rfl⟩) hS rfl ?_
  refine takeA (i := 7) (v := .pointer (some ⟨w.heap.size, 7, none⟩)) ({ tmps := #[.agg #[.int .u64 a0, .int .u64 a1, .int .u64 a2, .int .u64 a3, .int .u64 a4, .int .u64 a5, .int .u64 a6, .int .u64 a7], .int .i64 3, .pointer (some ⟨w.heap.size, 0, none⟩), undef, .int .u64 0, .int .i64 3, .int .i64 6, .pointer (some ⟨w.heap.size, 6, none⟩), .int .u64 a6, .int .i64 3, .int .i64 6, .int .i64 7, .pointer (some ⟨w.heap.size, 7, none⟩), undef, undef], defers := [] }) rfl (by kernel_rfl) (by kernel_rfl) (by kernel_rfl) (fun _ _ _ h => h) (.inl ⟨rfl, fun _ _ => by go_simp⟩) hS rfl ?_
  refine takeA (i := 8) (v := .int .u64 a7) ({ tmps := #[.agg #[.int .u64 a0, .int .u64 a1, .int .u64 a2, .int .u64 a3, .int .u64 a4, .int .u64 a5, .int .u64 a6, .int .u64 a7], .int .i64 3, .pointer (some ⟨w.heap.size, 0, none⟩), undef, .int .u64 0, .int .i64 3, .int .i64 6, .pointer (some ⟨w.heap.size, 6, none⟩), .int .u64 a6, .int .i64 3, .int .i64 6, .int .i64 7, .pointer (some ⟨w.heap.size, 7, none⟩), .int .u64 a7, undef], defers := [] }) rfl (by kernel_rfl) (by kernel_rfl) (by kernel_rfl) (fun _ _ _ h => h) (yi_load 40 _ (.pointer (some ⟨w.heap.size, 7, none⟩)) rfl rfl rfl (fun w hw => by have q := hw.2; go_simp)) hS rfl ?_
  refine wpAnyH_ready (rs := [9]) (by kernel_rfl) (by simp) ?_
  refine AllReadyH.cons rfl (fun K hK => ?_) AllReadyH.nil
  rw [if_pos (by rfl)]
  go_simp
  refine Calls.mono (M.out) ?_
  rintro e w2 ⟨rfl, b2⟩
  have y0 := (World.cell?_of_block (b2.block _ (cell_block z0))).trans z0
  have y1 := (World.cell?_of_block (b2.block _ (cell_block z1))).trans z1
  have B2 := Lib.hid (undrew b2)
  clear b2
  refine hK.out ({ tmps := #[.agg #[.int .u64 a0, .int .u64 a1, .int .u64 a2, .int .u64 a3, .int .u64 a4, .int .u64 a5, .int .u64 a6, .int .u64 a7], .int .i64 3, .pointer (some ⟨w.heap.size, 0, none⟩), undef, .int .u64 0, .int .i64 3, .int .i64 6, .pointer (some ⟨w.heap.size, 6, none⟩), .int .u64 a6, .int .i64 3, .int .i64 6, .int .i64 7, .pointer (some ⟨w.heap.size, 7, none⟩), .int .u64 a7, .int .u64 (mixI a6 a7)], defers := [] }) _ (⟨y0, y1⟩) (fun hS => ?_)
  clear hK K
  refine takeA (i := 10) (v := .int .u64 (mixI a6 a7)) ({ tmps := #[.agg #[.int .u64 a0, .int .u64 a1, .int .u64 a2, .int .u64 a3, .int .u64 a4, .int .u64 a5, .int .u64 a6, .int .u64 a7], .int .i64 3, .pointer (some ⟨w.heap.size, 0, none⟩), undef, .int .u64 (mixI a6 a7), .int .i64 3, .int .i64 6, .pointer (some ⟨w.heap.size, 6, none⟩), .int .u64 a6, .int .i64 3, .int .i64 6, .int .i64 7, .pointer (some ⟨w.heap.size, 7, none⟩), .int .u64 a7, .int .u64 (mixI a6 a7)], defers := [] }) rfl (by kernel_rfl) (by kernel_rfl) (by kernel_rfl) (fun _ _ _ h => h) (.inl ⟨rfl, fun _ _ => rfl⟩) hS rfl ?_
  refine wpAnyH_done (by kernel_rfl) ?_ _
  go_wp2_with fail
  go_ret
  exact ⟨rfl, HB.out.trans (B2.out.mono HB.out.size)⟩
theorem group_any (w : World) (l : List Int) (hl : l.length = 8) (g : Nat) (hg : g < 4) :
    Calls Try.prog 39 #[.agg (qv l).toArray, .int .i64 g] w fun e w' => e = .returned (.int .u64 (groupI l g)) ∧ Below w.heap.size w w' := by
  obtain ⟨a0, a1, a2, a3, a4, a5, a6, a7, rfl⟩ := len8 hl
  rcases (by omega : g = 0 ∨ g = 1 ∨ g = 2 ∨ g = 3) with rfl | rfl | rfl | rfl
  · exact group_0 w a0 a1 a2 a3 a4 a5 a6 a7
  · exact group_1 w a0 a1 a2 a3 a4 a5 a6 a7
  · exact group_2 w a0 a1 a2 a3 a4 a5 a6 a7
  · exact group_3 w a0 a1 a2 a3 a4 a5 a6 a7
end Go.Proofs.Ytfbcjigekmgbnaa
