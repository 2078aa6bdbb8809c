/- Copy: another map with the same values. -/
import Derived.Test.YtphakceboohbhaaMaps
import Derived.Deep.MidRow
import Derived.Deep.Cut
namespace Go.Proofs.Ytphakceboohbhaa
open Go.RowKit
set_option maxRecDepth 100000

def over : Array Value → Nat → List Value → Array Value
  | Z, _, [] => Z
  | Z, o, v :: r => over (Z.setIfInBounds o v) (o + 1) r
theorem over_get : ∀ (vs : List Value) (Z : Array Value) (o i : Nat), o + vs.length ≤ Z.size → (over Z o vs)[i]? = if o ≤ i ∧ i < o + vs.length then vs[i - o]? else Z[i]?
  | [], Z, o, i, _ => by
    have h : ¬ (o ≤ i ∧ i < o + ([] : List Value).length) := by simp
    rw [if_neg h]; rfl
  | v :: r, Z, o, i, h => by
    have hl : (v :: r).length = r.length + 1 := rfl
    rw [hl] at h ⊢
    rw [over, over_get r _ (o + 1) i (by rw [Array.size_setIfInBounds]; omega)]
    by_cases h1 : i = o
    · subst h1
      rw [if_neg (by omega), if_pos (by omega), Nat.sub_self, Array.getElem?_setIfInBounds_self, if_pos (by omega)]; rfl
    · rw [Array.getElem?_setIfInBounds_ne (fun e => h1 e.symm)]
      by_cases h2 : o + 1 ≤ i ∧ i < o + 1 + r.length
      · rw [if_pos h2, if_pos (by omega)]
        have : i - o = (i - (o + 1)) + 1 := by omega
        rw [this]; rfl
      · rw [if_neg h2, if_neg (by omega)]
theorem over_all (Z : Array Value) (vs : List Value) (h : Z.size = vs.length) : over Z 0 vs = vs.toArray := by
  refine Array.ext_getElem? fun i => ?_
  rw [over_get vs Z 0 i (by omega), Nat.zero_add, Nat.sub_zero]
  by_cases hi : i < vs.length
  · rw [if_pos ⟨Nat.zero_le _, hi⟩]; simp
  · rw [if_neg (fun e => hi e.2), Array.getElem?_eq_none (by omega)]
    simp; omega
theorem setCells_block (b : Nat) (t : TypeId) : ∀ (vs : List Value) (o : Nat) (w : World) (Z : Array Value), w.heap[b]? = some (.cells Z t (0, 0)) → (w.setCells b o vs).heap[b]? = some (.cells (over Z o vs) t (0, 0))
  | [], _, _, _, h => h
  | v :: r, o, w, Z, h => setCells_block b t r (o + 1) (w.setCell ⟨b, o, none⟩ v) (Z.setIfInBounds o v) (by rw [heap_setCell_same _ _ _ _ _ _ h])
theorem setCells_below (H b : Nat) (hb : H ≤ b) : ∀ (vs : List Value) (o : Nat) (w w' : World), Below H w w' → Below H w (w'.setCells b o vs)
  | [], _, _, _, h => h
  | v :: r, o, w, w', h => setCells_below H b hb r (o + 1) w (w'.setCell ⟨b, o, none⟩ v) (h.setCell hb v)
theorem wpl_val {P : Program} {ops : Array Oper} {Q : Exit → Act → World → Prop} {o : Oper} {rest : List Oper} {a : Act} {w w1 : World} {v : Value} (hgd : o.guard = none) (h : (execOp a.eval o).run P w = .ok (.value v) w1) (a' : Act) (ha : a.put o.dst v = a')
    (k : wpList P ops Q rest a' w1) : wpList P ops Q (o :: rest) a w :=
  wpList_plain hgd fun K hK => by subst ha; unfold Oper.wp; rw [h]; exact hK _ _ k
theorem size66 : (Try.prog.info? 62).map (·.size) = some 72 := by kernel_rfl

set_option maxHeartbeats 1600000 in
theorem copy_any (w : World) (B : Nat) (V T R : Nat → Int) (h : Mp w B V T R) :
    Calls Try.prog 19 #[.pointer (some ⟨B, 0, none⟩)] w fun e w' => e = .returned (.pointer (some ⟨w.heap.size, 0, none⟩)) ∧ Mp w' w.heap.size V T R ∧ Below w.heap.size w w' := by
  have hz : ∀ w, (zeroValue 62).run Try.prog w = .ok (.agg (mapL nul nul nul).toArray) w := zero48
  have hn := heap_alloc_new w (.cells (mapL nul nul nul).toArray 62)
  have hsz : (mapL V T R).toArray.size = 72 := by simp [mapL_len]
  have hth : (w.alloc (.cells (mapL nul nul nul).toArray 62)).there w.heap.size 0 (mapL V T R).toArray.size := by
    rw [hsz]
    intro i hi
    refine ⟨?_, frozen_of_row _ _ _ _ _ hn⟩
    rw [cell_of_row _ _ _ _ _ _ hn]; simp [mapL_get]; omega
  have hm : ((w.alloc (.cells (mapL nul nul nul).toArray 62)).setCells w.heap.size 0 (mapL V T R).toArray.toList).heap[w.heap.size]? = some (.cells (mapL V T R).toArray 62 (0, 0)) := by
    rw [setCells_block w.heap.size 62 _ 0 _ _ hn, over_all _ _ (by simp [mapL_len])]
  have hb := setCells_below w.heap.size w.heap.size (Nat.le_refl _) (mapL V T R).toArray.toList 0 w _ ((Below.refl w.heap.size w).alloc (Nat.le_refl _) (.cells (mapL nul nul nul).toArray 62))
  have h1 := all_oneCell_toArray (mapL_one V T R)
  have HM := Lib.hid (And.intro hm hb)
  unfold Mp at *
  have H := Lib.hid h
  have HT := Lib.hid hth
  have HS := Lib.hid (And.intro hsz h1)
  clear hn hsz hth hm hb h1 h
  generalize (mapL V T R).toArray = A at *
  generalize (mapL nul nul nul).toArray = Z at *
  go_enter Try.func19, Try.ntmps19
  go_upto_region 1 with fail
  refine wp_region_lit ?_
  refine wpl_val (v := .pointer (some ⟨B, 0, none⟩)) (w1 := w) rfl rfl ({ tmps := #[.pointer (some ⟨B, 0, none⟩), undef, .pointer none, undef, .pointer (some ⟨B, 0, none⟩), undef, undef], defers := [] }) rfl ?_
  refine wpl_val (v := .pointer (some ⟨B, 0, none⟩)) (w1 := w) rfl (by go_simp) ({ tmps := #[.pointer (some ⟨B, 0, none⟩), undef, .pointer none, undef, .pointer (some ⟨B, 0, none⟩), .pointer (some ⟨B, 0, none⟩), undef], defers := [] }) rfl ?_
  refine wpList_load_row rfl 62 (.tmp 5) rfl B rfl 62 _ (0, 0) _ H.out Try.underlying62 rfl (size66.trans (by rw [HS.out.1])) ?_
  refine wpl_val (v := .pointer (some ⟨w.heap.size, 0, none⟩)) (w1 := w.alloc (.cells Z 62)) rfl (by go_simp) ({ tmps := #[.pointer (some ⟨B, 0, none⟩), undef, .pointer none, .pointer (some ⟨w.heap.size, 0, none⟩), .pointer (some ⟨B, 0, none⟩), .pointer (some ⟨B, 0, none⟩), .agg A], defers := [] }) rfl ?_
  refine wpList_store_mid rfl 62 (.tmp 3) (.tmp 6) rfl w.heap.size 0 A rfl rfl HT.out (size66.trans (by rw [HS.out.1])) HS.out.2 ?_
  dsimp only
  generalize (w.alloc (.cells Z 62)).setCells w.heap.size 0 A.toList = w2 at *
  go_wp2_with fail
  go_ret
  exact ⟨rfl, HM.out⟩
end Go.Proofs.Ytphakceboohbhaa
