/- What is added to a set. -/
import Derived.Test.YtigpfaecbmnklaaDoorKeys
namespace Go.Proofs.YtigpfaecbmnklaaDoor
open Go.RowKit Go.Maps
set_option maxRecDepth 100000

theorem set_same {C : Array Value} {i : Nat} {x : Value} (h : C[i]? = some x) : C.setIfInBounds i x = C := by
  apply Array.ext_getElem?
  intro j
  by_cases e : i = j
  · subst e
    have hlt : i < C.size := by
      rcases Nat.lt_or_ge i C.size with h' | h'
      · exact h'
      · rw [Array.getElem?_eq_none h'] at h; cases h
    rw [Array.getElem?_setIfInBounds_self_of_lt hlt]; exact h.symm
  · rw [Array.getElem?_setIfInBounds_ne e]

/-- what is left when x was added to the set at cell i of block B -/
def Added {α : Type} (enc : α → Value) (K : TypeId) (w w' : World) (B i : Nat) (C : Array Value) (o : Option Nat) (xs : List α) : Prop :=
  ∃ b, w'.heap[B]? = some (.cells (C.setIfInBounds i (.map (some b))) 107 (0, 0)) ∧ SetIs enc w' K (some b) xs ∧ (o = some b ∨ w.heap.size ≤ b) ∧ Kept (fun k => k = B ∨ some k = o) w w'

theorem added_of {α : Type} {enc : α → Value} {K : TypeId} {w W w' : World} {B i b : Nat} {C : Array Value} {o : Option Nat} {xs : List α} {ls : List Lit} {x : α} {l : Lit} (h1 : xs.map (fun x => keyOf Tryd.prog K (enc x)) = ls.map some) (hx : keyOf Tryd.prog K (enc x) = some l)
    (hB : W.heap[B]? = some (.cells (C.setIfInBounds i (.map (some b))) 107 (0, 0))) (hk : Kept (fun k => k = B ∨ some k = o) w W) (hown : w'.ownsMap Tryd.prog K (unitElem (H := Unit)) b (ls.length + 1) ((setOf (.agg []) ls).put l (.agg []))) (hg : W.grownBy w' (some b)) (hb : o = some b ∨ w.heap.size ≤ b) (hbB : b ≠ B) : Added enc K w w' B i C o (xs ++ [x]) := by
  have hkg := Kept.ofGrown hg
  refine ⟨b, ?_, SetIs.put h1 hx rfl hown, hb, hk.trans hkg (fun j hj e => ?_)⟩
  · rw [hkg.block B (lt_of_block hB) (by intro e; injection e with e; exact hbB e.symm)]; exact hB
  · injection e with e
    subst e
    rcases hb with e | e
    · exact .inr e.symm
    · omega

theorem mapne101 (b : Nat) (w : World) : (binOp .eql 101 (.map (some b)) (.map none)).run Tryd.prog w = .ok (.bool false) w := by kernel_rfl
theorem mapeq101 (w : World) : (binOp .eql 101 (.map none) (.map none)).run Tryd.prog w = .ok (.bool true) w := by kernel_rfl
theorem mapne103 (b : Nat) (w : World) : (binOp .eql 103 (.map (some b)) (.map none)).run Tryd.prog w = .ok (.bool false) w := by kernel_rfl
theorem mapeq103 (w : World) : (binOp .eql 103 (.map none) (.map none)).run Tryd.prog w = .ok (.bool true) w := by kernel_rfl
theorem mapne105 (b : Nat) (w : World) : (binOp .eql 105 (.map (some b)) (.map none)).run Tryd.prog w = .ok (.bool false) w := by kernel_rfl
theorem mapeq105 (w : World) : (binOp .eql 105 (.map none) (.map none)).run Tryd.prog w = .ok (.bool true) w := by kernel_rfl

theorem box_drew2 {w : World} {M : Nat} {x : Option Obj} (h : w.heap[M]? = x) : w.drew.heap[M]? = x := h
theorem drew_grown {w w' : World} {row : Option Nat} (h : w.drew.grownBy w' row) : w.grownBy w' row := ⟨h.os, h.tape, h.output, h.size, h.block⟩
theorem wp_upd {t : TypeId} {m x v : Value} {w w1 : World} {o : Oper} {a : Act} {om ox ov : Operand} {K : Act → World → Prop} {Q : Exit → Act → World → Prop} (h : (Instr.mapUpdate t m x v).run Tryd.prog w = .ok () w1) (hop : o.op = Op.mapUpdate t om ox ov) (hm : a.eval om = m) (hx : a.eval ox = x) (hv : a.eval ov = v) (hd : o.dst = none) (hk : K a w1) : Oper.wp Tryd.prog o a w K Q := by
  have e : (execOp a.eval o).run Tryd.prog w = .ok .skip w1 := by
    unfold execOp
    simp [hop, hm, hx, hv, h, Result.andThen]
  unfold Oper.wp
  rw [e, Oper.upon_skip, hd]
  exact hk

set_option maxHeartbeats 4000000 in
theorem add53 (w : World) (B i : Nat) (C : Array Value) (o : Option Nat) (xs : List (List UInt8)) (k : List UInt8) (hk : k.length ≤ 100000) (hB : w.heap[B]? = some (.cells C 107 (0, 0))) (hC : C[i]? = some (.map o)) (h : SetIs stV w 9 o xs) (ho : o ≠ some B) (hl : xs.length ≤ 100000) :
    Calls Tryd.prog 53 #[.pointer (some ⟨B, i, none⟩), .string ⟨k.toArray⟩] w fun e w' => e = .returned (.tuple #[]) ∧ Added stV 9 w w' B i C o (xs ++ [k]) := by
  obtain ⟨l, hkl⟩ := key9 ⟨k.toArray⟩ (by simpa [ByteArray.size] using hk)
  have HKL : Hid (keyOf Tryd.prog 9 (stV k) = some l) := Lib.hid hkl
  obtain ⟨ls, h1, h2, h3⟩ := h
  have hll := lits_len h1
  have H1 := Lib.hid h1
  have qB : w.cell? ⟨B, i, none⟩ = some (.map o) := by rw [cell_of_row _ _ _ _ _ _ hB]; exact hC
  have zB : w.frozen? ⟨B, i, none⟩ = false := frozen_of_row _ _ _ _ _ hB
  have hBl : B < w.heap.size := lt_of_block hB
  have HB := Lib.hid hB
  have HC := Lib.hid hC
  have hmm := @run_makeMap Tryd.prog
  generalize hks : (⟨k.toArray⟩ : ByteArray) = ks at *
  have HKS := Lib.hid hks
  clear hB hC h1 hks
  cases o with
  | some b =>
    have HOWN := Lib.hid (h3 b rfl)
    have HBB := Lib.hid (show b ≠ B from fun e => ho (by rw [e]))
    have hne := mapne105 b
    clear h2 h3 ho
    go_enter Tryd.func53, Tryd.ntmps53
    go_wp2_with (first | (at_mapUpdate; refine wpList_mapUpdate_own _ rfl _ _ _ 105 rfl 9 143 law9 Tryd.underlying105 (unitElem (H := Unit)) b ls.length _ rfl HOWN.out (by unfold maxLen; omega) _ _ l rfl rfl hkl (.agg []) [] unitElem_mk ?_; intro w1 hown1 hgrow1) | go_in)
    go_end0
    refine ⟨rfl, added_of H1.out HKL.out ?_ (Kept.refl _ _) hown1 hgrow1 (.inl rfl) HBB.out⟩
    rw [set_same HC.out]; exact HB.out
  | none =>
    obtain rfl := h2 rfl
    have hne := mapeq105
    clear h2 h3 ho
    go_enter Tryd.func53, Tryd.ntmps53
    obtain rfl : ls = [] := List.eq_nil_of_length_eq_zero (by simpa using hll)
    obtain ⟨X, hX⟩ : ∃ X, X = w.setCell ⟨B, i, none⟩ (.map (some w.heap.size)) := ⟨_, rfl⟩
    have hXs : X.heap.size = w.heap.size := by rw [hX]; simp [World.setCell]
    have hXB : (X.alloc (.map #[] 0)).heap[B]? = some (.cells (C.setIfInBounds i (.map (some w.heap.size))) 107 (0, 0)) := by rw [heap_alloc_old _ _ (by rw [hXs]; exact hBl), hX]; exact heap_setCell_same _ _ _ _ _ _ HB.out
    have hXk : Kept (fun k => k = B ∨ some k = none) w (X.alloc (.map #[] 0)) := by rw [hX]; exact ((Kept.refl _ _).setCell _ _ (fun _ => .inl rfl)).alloc _
    have hXo := World.ownsMap_made (H := Unit) X Tryd.prog 9 unitElem
    rw [hXs] at hXo
    have HXB := Lib.hid hXB
    have HXK := Lib.hid hXk
    have HXO := Lib.hid hXo
    have hcx : (X.alloc (.map #[] 0)).cell? ⟨B, i, none⟩ = some (.map (some w.heap.size)) := by
      rw [cell_of_row _ _ _ _ _ _ hXB]
      have hlt : i < C.size := by
        rcases Nat.lt_or_ge i C.size with h' | h'
        · exact h'
        · have := HC.out; rw [Array.getElem?_eq_none h'] at this; cases this
      exact Array.getElem?_setIfInBounds_self_of_lt hlt
    have HX := Lib.hid hX
    clear hXs hXB hXk hXo hX
    go_upto_region 2 with fail
    rw [← HX.out]
    clear HX
    go_wp2_with (first | (at_mapUpdate; refine wpList_mapUpdate_own _ rfl _ _ _ 105 rfl 9 143 law9 Tryd.underlying105 (unitElem (H := Unit)) w.heap.size 0 _ rfl HXO.out (by unfold maxLen; omega) _ _ l rfl rfl hkl (.agg []) [] unitElem_mk ?_; intro w1 hown1 hgrow1) | go_in)
    go_end0
    exact ⟨rfl, added_of (ls := []) H1.out HKL.out HXB.out HXK.out hown1 hgrow1 (.inr (Nat.le_refl _)) (by omega)⟩

set_option maxHeartbeats 4000000 in
theorem add52 (w : World) (B i : Nat) (C : Array Value) (o : Option Nat) (xs : List Ky) (k : Ky) (hk : k.ok) (hB : w.heap[B]? = some (.cells C 107 (0, 0))) (hC : C[i]? = some (.map o)) (h : SetIs kyV w 59 o xs) (ho : o ≠ some B) (hl : xs.length ≤ 100000) :
    Calls Tryd.prog 52 #[.pointer (some ⟨B, i, none⟩), .agg k.cells.toArray] w fun e w' => e = .returned (.tuple #[]) ∧ Added kyV 59 w w' B i C o (xs ++ [k]) := by
  obtain ⟨l, hkl⟩ := key59 k hk
  have HKL : Hid (keyOf Tryd.prog 59 (kyV k) = some l) := Lib.hid hkl
  obtain ⟨ls, h1, h2, h3⟩ := h
  have hll := lits_len h1
  have H1 := Lib.hid h1
  obtain ⟨W, hW⟩ : ∃ W, W = w.alloc (.cells k.cells.toArray 59) := ⟨_, rfl⟩
  have hbl : Below w.heap.size w W := by rw [hW]; exact (Below.refl _ _).alloc (Nat.le_refl _) _
  have hWs : W.heap.size = w.heap.size + 1 := by rw [hW]; simp
  have hWn : W.heap[w.heap.size]? = some (.cells k.cells.toArray 59 (0, 0)) := by rw [hW]; exact heap_alloc_new _ _
  have hBW : W.heap[B]? = some (.cells C 107 (0, 0)) := (hbl.block B (lt_of_block hB)).trans hB
  have qB : W.cell? ⟨B, i, none⟩ = some (.map o) := by rw [cell_of_row _ _ _ _ _ _ hBW]; exact hC
  have zB : W.frozen? ⟨B, i, none⟩ = false := frozen_of_row _ _ _ _ _ hBW
  have hBl : B < w.heap.size := lt_of_block hB
  have HKW : Hid (Kept (fun k => k = B ∨ some k = o) w W) := Lib.hid (Kept.ofBelow hbl)
  have HB := Lib.hid hBW
  have HC := Lib.hid hC
  have HWN := Lib.hid hWn
  have HWS := Lib.hid hWs
  have HBL := Lib.hid hbl
  have HW := Lib.hid hW
  have hmm := @run_makeMap Tryd.prog
  have LD : Hid (∀ (w' : World) g, w'.heap[g]? = some (.cells k.cells.toArray 59 (0, 0)) → (Instr.loadAt 59 (.pointer (some ⟨g, 0, none⟩))).run Tryd.prog w' = .ok (.agg k.cells.toArray) w') := Lib.hid (fun w' g h => by
    have := run_loadVar_row (P := Tryd.prog) w' g 59 59 _ (0, 0) _ h Tryd.underlying59 rfl (by kernel_rfl)
    simp only [Instr.loadAt, Instr.sureAddr, Sem.run_bind, Sem.run_pure, Result.andThen_ok, this])
  have LM : Hid (∀ (w' : World) b, w'.cell? ⟨B, i, none⟩ = some (.map (some b)) → (Instr.loadAt 101 (.pointer (some ⟨B, i, none⟩))).run Tryd.prog w' = .ok (.map (some b)) w') := Lib.hid (fun w' b h => by go_simp)
  simp only [Ky.cells] at HW ⊢
  clear hB hC h1 hbl hWs hWn hBW hW
  cases o with
  | some b =>
    have HOWN : Hid (W.ownsMap Tryd.prog 59 (unitElem (H := Unit)) b ls.length (setOf (.agg []) ls)) := Lib.hid (by
      obtain ⟨es, clock, hb, r⟩ := h3 b rfl
      exact ⟨es, clock, by rw [HBL.out.block b (h3 b rfl).lt]; exact hb, r⟩)
    have hbl2 : b < w.heap.size := (h3 b rfl).lt
    have HBB := Lib.hid (show b ≠ B from fun e => ho (by rw [e]))
    have hne := mapne101 b
    have hCX := qB
    clear h2 h3 ho
    go_enter Tryd.func52, Tryd.ntmps52
    go_upto_region 1 with fail
    rw [← HW.out]
    clear HW
    go_upto_region 3 with fail
    have eA : (#[.int .u8 k.o, .int .u8 k.e] : Array Value) = k.cells.toArray := rfl
    rw [eA]
    clear eA
    obtain ⟨gx, hgx⟩ : ∃ g, g = w.heap.size := ⟨_, rfl⟩
    rw [← hgx] at HWN ⊢
    have HGB := Lib.hid (show gx ≠ b by omega)
    obtain ⟨ka, hka⟩ : ∃ x, x = k.cells.toArray := ⟨_, rfl⟩
    rw [← hka] at HWN LD hkl ⊢
    have HGX := HWN
    have HCX := Lib.hid hCX
    have HUB := HB
    clear hCX hgx qB zB
    refine wp_region_held_drew (S := fun w' => w'.heap[gx]? = some (.cells ka 59 (0, 0)) ∧ w'.cell? ⟨B, i, none⟩ = some (.map (some b))) (by kernel_rfl) ⟨box_drew2 HGX.out, HCX.out⟩ (fun hS => ?_)
    refine takeA (i := 0) (v := .pointer (some ⟨B, i, none⟩)) ({ tmps := #[.pointer (some ⟨B, i, none⟩), .agg ka, undef, .pointer (some ⟨gx, 0, none⟩), .pointer (some ⟨B, i, none⟩), .pointer (some ⟨B, i, none⟩), .map (some b), .bool false, undef, undef, undef, .pointer (some ⟨B, i, none⟩), undef, undef, undef, undef], defers := [] }) rfl (by kernel_rfl) (by kernel_rfl) (by kernel_rfl) (fun _ _ _ h => h) (.inl ⟨rfl, fun _ _ => rfl⟩) hS rfl ?_
    refine takeA (i := 1) (v := .pointer (some ⟨B, i, none⟩)) ({ tmps := #[.pointer (some ⟨B, i, none⟩), .agg ka, undef, .pointer (some ⟨gx, 0, none⟩), .pointer (some ⟨B, i, none⟩), .pointer (some ⟨B, i, none⟩), .map (some b), .bool false, undef, undef, undef, .pointer (some ⟨B, i, none⟩), .pointer (some ⟨B, i, none⟩), undef, undef, undef], defers := [] }) rfl (by kernel_rfl) (by kernel_rfl) (by kernel_rfl) (fun _ _ _ h => h) (.inl ⟨rfl, fun w' _ => by go_simp⟩) hS rfl ?_
    refine takeA (i := 2) (v := .map (some b)) ({ tmps := #[.pointer (some ⟨B, i, none⟩), .agg ka, undef, .pointer (some ⟨gx, 0, none⟩), .pointer (some ⟨B, i, none⟩), .pointer (some ⟨B, i, none⟩), .map (some b), .bool false, undef, undef, undef, .pointer (some ⟨B, i, none⟩), .pointer (some ⟨B, i, none⟩), .map (some b), undef, undef], defers := [] }) rfl (by kernel_rfl) (by kernel_rfl) (by kernel_rfl) (fun _ _ _ h => h) (yi_load 101 (.tmp 12) _ rfl rfl rfl (fun w' h => LM.out w' b h.2)) hS rfl ?_
    refine takeA (i := 3) (v := .agg ka) ({ tmps := #[.pointer (some ⟨B, i, none⟩), .agg ka, undef, .pointer (some ⟨gx, 0, none⟩), .pointer (some ⟨B, i, none⟩), .pointer (some ⟨B, i, none⟩), .map (some b), .bool false, undef, undef, undef, .pointer (some ⟨B, i, none⟩), .pointer (some ⟨B, i, none⟩), .map (some b), .agg ka, undef], defers := [] }) rfl (by kernel_rfl) (by kernel_rfl) (by kernel_rfl) (fun _ _ _ h => h) (yi_load 59 (.tmp 3) _ rfl rfl rfl (fun w' h => LD.out w' gx h.1)) hS rfl ?_
    refine takeA (i := 4) (v := .agg #[]) ({ tmps := #[.pointer (some ⟨B, i, none⟩), .agg ka, undef, .pointer (some ⟨gx, 0, none⟩), .pointer (some ⟨B, i, none⟩), .pointer (some ⟨B, i, none⟩), .map (some b), .bool false, undef, undef, undef, .pointer (some ⟨B, i, none⟩), .pointer (some ⟨B, i, none⟩), .map (some b), .agg ka, .agg #[]], defers := [] }) rfl (by kernel_rfl) (by kernel_rfl) (by kernel_rfl) (fun _ _ _ h => h) (.inl ⟨rfl, fun w' _ => by go_simp⟩) hS rfl ?_
    refine wpAnyH_ready (rs := [5]) (by kernel_rfl) (by simp) ?_
    refine AllReadyH.cons rfl (fun K hK => ?_) AllReadyH.nil
    rw [if_pos (by rfl)]
    obtain ⟨w1, hrun, hown1, hgrow1⟩ := (HOWN.out).drew.update law59 Tryd.underlying101 (by unfold maxLen; omega) hkl (unitElem_mk (H := Unit))
    refine wp_upd hrun rfl rfl rfl rfl rfl ?_
    have hkg := Kept.ofGrown hgrow1
    refine hK.out ({ tmps := #[.pointer (some ⟨B, i, none⟩), .agg ka, undef, .pointer (some ⟨gx, 0, none⟩), .pointer (some ⟨B, i, none⟩), .pointer (some ⟨B, i, none⟩), .map (some b), .bool false, undef, undef, undef, .pointer (some ⟨B, i, none⟩), .pointer (some ⟨B, i, none⟩), .map (some b), .agg ka, .agg #[]], defers := [] }) w1 ⟨?_, ?_⟩ (fun hS => ?_)
    · rw [hkg.block gx (lt_of_block HGX.out) (by intro e; injection e with e; exact HGB.out e)]; exact HGX.out
    · rw [World.cell?_of_block (w := (W).drew) (hkg.block B (lt_of_block HUB.out) (by intro e; injection e with e; exact HBB.out e.symm))]; exact HCX.out
    clear hK K
    refine wpAnyH_done (by kernel_rfl) ?_ _
    go_wp2_with fail
    go_end0
    refine ⟨rfl, added_of H1.out HKL.out ?_ HKW.out hown1 (drew_grown hgrow1) (.inl rfl) HBB.out⟩
    rw [set_same HC.out]; exact HB.out
  | none =>
    obtain rfl := h2 rfl
    have hne := mapeq101
    clear h2 h3 ho
    obtain rfl : ls = [] := List.eq_nil_of_length_eq_zero (by simpa using hll)
    obtain ⟨X, hX⟩ : ∃ X, X = W.setCell ⟨B, i, none⟩ (.map (some W.heap.size)) := ⟨_, rfl⟩
    have hXs : X.heap.size = W.heap.size := by rw [hX]; simp [World.setCell]
    have hBl2 : B < W.heap.size := by rw [HWS.out]; omega
    have hXB : (X.alloc (.map #[] 0)).heap[B]? = some (.cells (C.setIfInBounds i (.map (some W.heap.size))) 107 (0, 0)) := by rw [heap_alloc_old _ _ (by rw [hXs]; exact hBl2), hX]; exact heap_setCell_same _ _ _ _ _ _ HB.out
    have hXk : Kept (fun k => k = B ∨ some k = none) w (X.alloc (.map #[] 0)) := by rw [hX]; exact (HKW.out.setCell _ _ (fun _ => .inl rfl)).alloc _
    have hXo := World.ownsMap_made (H := Unit) X Tryd.prog 59 unitElem
    rw [hXs] at hXo
    have HXO := Lib.hid hXo
    have HXK := Lib.hid hXk
    have HUB := Lib.hid hXB
    have HCX : Hid ((X.alloc (.map #[] 0)).cell? ⟨B, i, none⟩ = some (.map (some W.heap.size))) := Lib.hid (by
      rw [cell_of_row _ _ _ _ _ _ hXB]
      have hlt : i < C.size := by
        rcases Nat.lt_or_ge i C.size with h' | h'
        · exact h'
        · have := HC.out; rw [Array.getElem?_eq_none h'] at this; cases this
      exact Array.getElem?_setIfInBounds_self_of_lt hlt)
    have HGX : Hid ((X.alloc (.map #[] 0)).heap[w.heap.size]? = some (.cells k.cells.toArray 59 (0, 0))) := Lib.hid (by
      rw [heap_alloc_old _ _ (by rw [hXs, HWS.out]; omega), hX, heap_setCell_other _ _ _ _ (by show w.heap.size ≠ B; omega)]; exact HWN.out)
    have HX := Lib.hid hX
    clear hXs hXB hXk hXo hX
    go_enter Tryd.func52, Tryd.ntmps52
    go_upto_region 1 with fail
    rw [← HW.out]
    clear HW
    go_upto_region 3 with fail
    have eA : (#[.int .u8 k.o, .int .u8 k.e] : Array Value) = k.cells.toArray := rfl
    rw [← HX.out, eA]
    clear eA HX
    obtain ⟨gx, hgx⟩ : ∃ g, g = w.heap.size := ⟨_, rfl⟩
    obtain ⟨bn, hbn⟩ : ∃ b, b = W.heap.size := ⟨_, rfl⟩
    have hbg : bn = gx + 1 := by rw [hbn, hgx, HWS.out]
    have HBB := Lib.hid (show bn ≠ B by omega)
    have HBN := Lib.hid (show w.heap.size ≤ bn by omega)
    rw [← hgx] at HGX ⊢
    rw [← hbn] at HXO HCX HUB ⊢
    have HGB := Lib.hid (show gx ≠ bn by omega)
    obtain ⟨ka, hka⟩ : ∃ x, x = k.cells.toArray := ⟨_, rfl⟩
    rw [← hka] at HGX LD hkl ⊢
    clear hgx hbn hbg qB zB
    refine wp_region_held_drew (S := fun w' => w'.heap[gx]? = some (.cells ka 59 (0, 0)) ∧ w'.cell? ⟨B, i, none⟩ = some (.map (some bn))) (by kernel_rfl) ⟨box_drew2 HGX.out, HCX.out⟩ (fun hS => ?_)
    refine takeA (i := 0) (v := .pointer (some ⟨B, i, none⟩)) ({ tmps := #[.pointer (some ⟨B, i, none⟩), .agg ka, undef, .pointer (some ⟨gx, 0, none⟩), .pointer (some ⟨B, i, none⟩), .pointer (some ⟨B, i, none⟩), .map none, .bool true, .pointer (some ⟨B, i, none⟩), .map (some bn), .pointer (some ⟨B, i, none⟩), .pointer (some ⟨B, i, none⟩), undef, undef, undef, undef], defers := [] }) rfl (by kernel_rfl) (by kernel_rfl) (by kernel_rfl) (fun _ _ _ h => h) (.inl ⟨rfl, fun _ _ => rfl⟩) hS rfl ?_
    refine takeA (i := 1) (v := .pointer (some ⟨B, i, none⟩)) ({ tmps := #[.pointer (some ⟨B, i, none⟩), .agg ka, undef, .pointer (some ⟨gx, 0, none⟩), .pointer (some ⟨B, i, none⟩), .pointer (some ⟨B, i, none⟩), .map none, .bool true, .pointer (some ⟨B, i, none⟩), .map (some bn), .pointer (some ⟨B, i, none⟩), .pointer (some ⟨B, i, none⟩), .pointer (some ⟨B, i, none⟩), undef, undef, undef], defers := [] }) rfl (by kernel_rfl) (by kernel_rfl) (by kernel_rfl) (fun _ _ _ h => h) (.inl ⟨rfl, fun w' _ => by go_simp⟩) hS rfl ?_
    refine takeA (i := 2) (v := .map (some bn)) ({ tmps := #[.pointer (some ⟨B, i, none⟩), .agg ka, undef, .pointer (some ⟨gx, 0, none⟩), .pointer (some ⟨B, i, none⟩), .pointer (some ⟨B, i, none⟩), .map none, .bool true, .pointer (some ⟨B, i, none⟩), .map (some bn), .pointer (some ⟨B, i, none⟩), .pointer (some ⟨B, i, none⟩), .pointer (some ⟨B, i, none⟩), .map (some bn), undef, undef], defers := [] }) rfl (by kernel_rfl) (by kernel_rfl) (by kernel_rfl) (fun _ _ _ h => h) (yi_load 101 (.tmp 12) _ rfl rfl rfl (fun w' h => LM.out w' bn h.2)) hS rfl ?_
    refine takeA (i := 3) (v := .agg ka) ({ tmps := #[.pointer (some ⟨B, i, none⟩), .agg ka, undef, .pointer (some ⟨gx, 0, none⟩), .pointer (some ⟨B, i, none⟩), .pointer (some ⟨B, i, none⟩), .map none, .bool true, .pointer (some ⟨B, i, none⟩), .map (some bn), .pointer (some ⟨B, i, none⟩), .pointer (some ⟨B, i, none⟩), .pointer (some ⟨B, i, none⟩), .map (some bn), .agg ka, undef], defers := [] }) rfl (by kernel_rfl) (by kernel_rfl) (by kernel_rfl) (fun _ _ _ h => h) (yi_load 59 (.tmp 3) _ rfl rfl rfl (fun w' h => LD.out w' gx h.1)) hS rfl ?_
    refine takeA (i := 4) (v := .agg #[]) ({ tmps := #[.pointer (some ⟨B, i, none⟩), .agg ka, undef, .pointer (some ⟨gx, 0, none⟩), .pointer (some ⟨B, i, none⟩), .pointer (some ⟨B, i, none⟩), .map none, .bool true, .pointer (some ⟨B, i, none⟩), .map (some bn), .pointer (some ⟨B, i, none⟩), .pointer (some ⟨B, i, none⟩), .pointer (some ⟨B, i, none⟩), .map (some bn), .agg ka, .agg #[]], defers := [] }) rfl (by kernel_rfl) (by kernel_rfl) (by kernel_rfl) (fun _ _ _ h => h) (.inl ⟨rfl, fun w' _ => by go_simp⟩) hS rfl ?_
    refine wpAnyH_ready (rs := [5]) (by kernel_rfl) (by simp) ?_
    refine AllReadyH.cons rfl (fun K hK => ?_) AllReadyH.nil
    rw [if_pos (by rfl)]
    obtain ⟨w1, hrun, hown1, hgrow1⟩ := (HXO.out).drew.update law59 Tryd.underlying101 (by unfold maxLen; omega) hkl (unitElem_mk (H := Unit))
    refine wp_upd hrun rfl rfl rfl rfl rfl ?_
    have hkg := Kept.ofGrown hgrow1
    refine hK.out ({ tmps := #[.pointer (some ⟨B, i, none⟩), .agg ka, undef, .pointer (some ⟨gx, 0, none⟩), .pointer (some ⟨B, i, none⟩), .pointer (some ⟨B, i, none⟩), .map none, .bool true, .pointer (some ⟨B, i, none⟩), .map (some bn), .pointer (some ⟨B, i, none⟩), .pointer (some ⟨B, i, none⟩), .pointer (some ⟨B, i, none⟩), .map (some bn), .agg ka, .agg #[]], defers := [] }) w1 ⟨?_, ?_⟩ (fun hS => ?_)
    · rw [hkg.block gx (lt_of_block HGX.out) (by intro e; injection e with e; exact HGB.out e)]; exact HGX.out
    · rw [World.cell?_of_block (w := (X.alloc (.map #[] 0)).drew) (hkg.block B (lt_of_block HUB.out) (by intro e; injection e with e; exact HBB.out e.symm))]; exact HCX.out
    clear hK K
    refine wpAnyH_done (by kernel_rfl) ?_ _
    go_wp2_with fail
    go_end0
    exact ⟨rfl, added_of (ls := []) H1.out HKL.out HUB.out HXK.out hown1 (drew_grown hgrow1) (.inr HBN.out) HBB.out⟩

set_option maxHeartbeats 4000000 in
theorem add57 (w : World) (B i : Nat) (C : Array Value) (o : Option Nat) (xs : List Rq) (k : Rq) (hk : k.ok) (hB : w.heap[B]? = some (.cells C 107 (0, 0))) (hC : C[i]? = some (.map o)) (h : SetIs rqV w 27 o xs) (ho : o ≠ some B) (hl : xs.length ≤ 100000) :
    Calls Tryd.prog 57 #[.pointer (some ⟨B, i, none⟩), .agg k.cells.toArray] w fun e w' => e = .returned (.tuple #[]) ∧ Added rqV 27 w w' B i C o (xs ++ [k]) := by
  obtain ⟨l, hkl⟩ := key27 k hk
  have HKL : Hid (keyOf Tryd.prog 27 (rqV k) = some l) := Lib.hid hkl
  obtain ⟨ls, h1, h2, h3⟩ := h
  have hll := lits_len h1
  have H1 := Lib.hid h1
  obtain ⟨W, hW⟩ : ∃ W, W = w.alloc (.cells k.cells.toArray 27) := ⟨_, rfl⟩
  have hbl : Below w.heap.size w W := by rw [hW]; exact (Below.refl _ _).alloc (Nat.le_refl _) _
  have hWs : W.heap.size = w.heap.size + 1 := by rw [hW]; simp
  have hWn : W.heap[w.heap.size]? = some (.cells k.cells.toArray 27 (0, 0)) := by rw [hW]; exact heap_alloc_new _ _
  have hBW : W.heap[B]? = some (.cells C 107 (0, 0)) := (hbl.block B (lt_of_block hB)).trans hB
  have qB : W.cell? ⟨B, i, none⟩ = some (.map o) := by rw [cell_of_row _ _ _ _ _ _ hBW]; exact hC
  have zB : W.frozen? ⟨B, i, none⟩ = false := frozen_of_row _ _ _ _ _ hBW
  have hBl : B < w.heap.size := lt_of_block hB
  have HKW : Hid (Kept (fun k => k = B ∨ some k = o) w W) := Lib.hid (Kept.ofBelow hbl)
  have HB := Lib.hid hBW
  have HC := Lib.hid hC
  have HWN := Lib.hid hWn
  have HWS := Lib.hid hWs
  have HBL := Lib.hid hbl
  have HW := Lib.hid hW
  have hmm := @run_makeMap Tryd.prog
  have LD : Hid (∀ (w' : World) g, w'.heap[g]? = some (.cells k.cells.toArray 27 (0, 0)) → (Instr.loadAt 27 (.pointer (some ⟨g, 0, none⟩))).run Tryd.prog w' = .ok (.agg k.cells.toArray) w') := Lib.hid (fun w' g h => by
    have := run_loadVar_row (P := Tryd.prog) w' g 27 27 _ (0, 0) _ h Tryd.underlying27 rfl (by kernel_rfl)
    simp only [Instr.loadAt, Instr.sureAddr, Sem.run_bind, Sem.run_pure, Result.andThen_ok, this])
  have LM : Hid (∀ (w' : World) b, w'.cell? ⟨B, i, none⟩ = some (.map (some b)) → (Instr.loadAt 103 (.pointer (some ⟨B, i, none⟩))).run Tryd.prog w' = .ok (.map (some b)) w') := Lib.hid (fun w' b h => by go_simp)
  simp only [Rq.cells] at HW ⊢
  clear hB hC h1 hbl hWs hWn hBW hW
  cases o with
  | some b =>
    have HOWN : Hid (W.ownsMap Tryd.prog 27 (unitElem (H := Unit)) b ls.length (setOf (.agg []) ls)) := Lib.hid (by
      obtain ⟨es, clock, hb, r⟩ := h3 b rfl
      exact ⟨es, clock, by rw [HBL.out.block b (h3 b rfl).lt]; exact hb, r⟩)
    have hbl2 : b < w.heap.size := (h3 b rfl).lt
    have HBB := Lib.hid (show b ≠ B from fun e => ho (by rw [e]))
    have hne := mapne103 b
    have hCX := qB
    clear h2 h3 ho
    go_enter Tryd.func57, Tryd.ntmps57
    go_upto_region 1 with fail
    rw [← HW.out]
    clear HW
    go_upto_region 3 with fail
    have eA : (#[.int .u8 k.c, .int .u32 k.t, .int .u8 k.k, .int .u8 k.y, .int .u16 k.v] : Array Value) = k.cells.toArray := rfl
    rw [eA]
    clear eA
    obtain ⟨gx, hgx⟩ : ∃ g, g = w.heap.size := ⟨_, rfl⟩
    rw [← hgx] at HWN ⊢
    have HGB := Lib.hid (show gx ≠ b by omega)
    obtain ⟨ka, hka⟩ : ∃ x, x = k.cells.toArray := ⟨_, rfl⟩
    rw [← hka] at HWN LD hkl ⊢
    have HGX := HWN
    have HCX := Lib.hid hCX
    have HUB := HB
    clear hCX hgx qB zB
    refine wp_region_held_drew (S := fun w' => w'.heap[gx]? = some (.cells ka 27 (0, 0)) ∧ w'.cell? ⟨B, i, none⟩ = some (.map (some b))) (by kernel_rfl) ⟨box_drew2 HGX.out, HCX.out⟩ (fun hS => ?_)
    refine takeA (i := 0) (v := .pointer (some ⟨B, i, none⟩)) ({ tmps := #[.pointer (some ⟨B, i, none⟩), .agg ka, undef, .pointer (some ⟨gx, 0, none⟩), .pointer (some ⟨B, i, none⟩), .pointer (some ⟨B, i, none⟩), .map (some b), .bool false, undef, undef, undef, .pointer (some ⟨B, i, none⟩), undef, undef, undef, undef], defers := [] }) rfl (by kernel_rfl) (by kernel_rfl) (by kernel_rfl) (fun _ _ _ h => h) (.inl ⟨rfl, fun _ _ => rfl⟩) hS rfl ?_
    refine takeA (i := 1) (v := .pointer (some ⟨B, i, none⟩)) ({ tmps := #[.pointer (some ⟨B, i, none⟩), .agg ka, undef, .pointer (some ⟨gx, 0, none⟩), .pointer (some ⟨B, i, none⟩), .pointer (some ⟨B, i, none⟩), .map (some b), .bool false, undef, undef, undef, .pointer (some ⟨B, i, none⟩), .pointer (some ⟨B, i, none⟩), undef, undef, undef], defers := [] }) rfl (by kernel_rfl) (by kernel_rfl) (by kernel_rfl) (fun _ _ _ h => h) (.inl ⟨rfl, fun w' _ => by go_simp⟩) hS rfl ?_
    refine takeA (i := 2) (v := .map (some b)) ({ tmps := #[.pointer (some ⟨B, i, none⟩), .agg ka, undef, .pointer (some ⟨gx, 0, none⟩), .pointer (some ⟨B, i, none⟩), .pointer (some ⟨B, i, none⟩), .map (some b), .bool false, undef, undef, undef, .pointer (some ⟨B, i, none⟩), .pointer (some ⟨B, i, none⟩), .map (some b), undef, undef], defers := [] }) rfl (by kernel_rfl) (by kernel_rfl) (by kernel_rfl) (fun _ _ _ h => h) (yi_load 103 (.tmp 12) _ rfl rfl rfl (fun w' h => LM.out w' b h.2)) hS rfl ?_
    refine takeA (i := 3) (v := .agg ka) ({ tmps := #[.pointer (some ⟨B, i, none⟩), .agg ka, undef, .pointer (some ⟨gx, 0, none⟩), .pointer (some ⟨B, i, none⟩), .pointer (some ⟨B, i, none⟩), .map (some b), .bool false, undef, undef, undef, .pointer (some ⟨B, i, none⟩), .pointer (some ⟨B, i, none⟩), .map (some b), .agg ka, undef], defers := [] }) rfl (by kernel_rfl) (by kernel_rfl) (by kernel_rfl) (fun _ _ _ h => h) (yi_load 27 (.tmp 3) _ rfl rfl rfl (fun w' h => LD.out w' gx h.1)) hS rfl ?_
    refine takeA (i := 4) (v := .agg #[]) ({ tmps := #[.pointer (some ⟨B, i, none⟩), .agg ka, undef, .pointer (some ⟨gx, 0, none⟩), .pointer (some ⟨B, i, none⟩), .pointer (some ⟨B, i, none⟩), .map (some b), .bool false, undef, undef, undef, .pointer (some ⟨B, i, none⟩), .pointer (some ⟨B, i, none⟩), .map (some b), .agg ka, .agg #[]], defers := [] }) rfl (by kernel_rfl) (by kernel_rfl) (by kernel_rfl) (fun _ _ _ h => h) (.inl ⟨rfl, fun w' _ => by go_simp⟩) hS rfl ?_
    refine wpAnyH_ready (rs := [5]) (by kernel_rfl) (by simp) ?_
    refine AllReadyH.cons rfl (fun K hK => ?_) AllReadyH.nil
    rw [if_pos (by rfl)]
    obtain ⟨w1, hrun, hown1, hgrow1⟩ := (HOWN.out).drew.update law27 Tryd.underlying103 (by unfold maxLen; omega) hkl (unitElem_mk (H := Unit))
    refine wp_upd hrun rfl rfl rfl rfl rfl ?_
    have hkg := Kept.ofGrown hgrow1
    refine hK.out ({ tmps := #[.pointer (some ⟨B, i, none⟩), .agg ka, undef, .pointer (some ⟨gx, 0, none⟩), .pointer (some ⟨B, i, none⟩), .pointer (some ⟨B, i, none⟩), .map (some b), .bool false, undef, undef, undef, .pointer (some ⟨B, i, none⟩), .pointer (some ⟨B, i, none⟩), .map (some b), .agg ka, .agg #[]], defers := [] }) w1 ⟨?_, ?_⟩ (fun hS => ?_)
    · rw [hkg.block gx (lt_of_block HGX.out) (by intro e; injection e with e; exact HGB.out e)]; exact HGX.out
    · rw [World.cell?_of_block (w := (W).drew) (hkg.block B (lt_of_block HUB.out) (by intro e; injection e with e; exact HBB.out e.symm))]; exact HCX.out
    clear hK K
    refine wpAnyH_done (by kernel_rfl) ?_ _
    go_wp2_with fail
    go_end0
    refine ⟨rfl, added_of H1.out HKL.out ?_ HKW.out hown1 (drew_grown hgrow1) (.inl rfl) HBB.out⟩
    rw [set_same HC.out]; exact HB.out
  | none =>
    obtain rfl := h2 rfl
    have hne := mapeq103
    clear h2 h3 ho
    obtain rfl : ls = [] := List.eq_nil_of_length_eq_zero (by simpa using hll)
    obtain ⟨X, hX⟩ : ∃ X, X = W.setCell ⟨B, i, none⟩ (.map (some W.heap.size)) := ⟨_, rfl⟩
    have hXs : X.heap.size = W.heap.size := by rw [hX]; simp [World.setCell]
    have hBl2 : B < W.heap.size := by rw [HWS.out]; omega
    have hXB : (X.alloc (.map #[] 0)).heap[B]? = some (.cells (C.setIfInBounds i (.map (some W.heap.size))) 107 (0, 0)) := by rw [heap_alloc_old _ _ (by rw [hXs]; exact hBl2), hX]; exact heap_setCell_same _ _ _ _ _ _ HB.out
    have hXk : Kept (fun k => k = B ∨ some k = none) w (X.alloc (.map #[] 0)) := by rw [hX]; exact (HKW.out.setCell _ _ (fun _ => .inl rfl)).alloc _
    have hXo := World.ownsMap_made (H := Unit) X Tryd.prog 27 unitElem
    rw [hXs] at hXo
    have HXO := Lib.hid hXo
    have HXK := Lib.hid hXk
    have HUB := Lib.hid hXB
    have HCX : Hid ((X.alloc (.map #[] 0)).cell? ⟨B, i, none⟩ = some (.map (some W.heap.size))) := Lib.hid (by
      rw [cell_of_row _ _ _ _ _ _ hXB]
      have hlt : i < C.size := by
        rcases Nat.lt_or_ge i C.size with h' | h'
        · exact h'
        · have := HC.out; rw [Array.getElem?_eq_none h'] at this; cases this
      exact Array.getElem?_setIfInBounds_self_of_lt hlt)
    have HGX : Hid ((X.alloc (.map #[] 0)).heap[w.heap.size]? = some (.cells k.cells.toArray 27 (0, 0))) := Lib.hid (by
      rw [heap_alloc_old _ _ (by rw [hXs, HWS.out]; omega), hX, heap_setCell_other _ _ _ _ (by show w.heap.size ≠ B; omega)]; exact HWN.out)
    have HX := Lib.hid hX
    clear hXs hXB hXk hXo hX
    go_enter Tryd.func57, Tryd.ntmps57
    go_upto_region 1 with fail
    rw [← HW.out]
    clear HW
    go_upto_region 3 with fail
    have eA : (#[.int .u8 k.c, .int .u32 k.t, .int .u8 k.k, .int .u8 k.y, .int .u16 k.v] : Array Value) = k.cells.toArray := rfl
    rw [← HX.out, eA]
    clear eA HX
    obtain ⟨gx, hgx⟩ : ∃ g, g = w.heap.size := ⟨_, rfl⟩
    obtain ⟨bn, hbn⟩ : ∃ b, b = W.heap.size := ⟨_, rfl⟩
    have hbg : bn = gx + 1 := by rw [hbn, hgx, HWS.out]
    have HBB := Lib.hid (show bn ≠ B by omega)
    have HBN := Lib.hid (show w.heap.size ≤ bn by omega)
    rw [← hgx] at HGX ⊢
    rw [← hbn] at HXO HCX HUB ⊢
    have HGB := Lib.hid (show gx ≠ bn by omega)
    obtain ⟨ka, hka⟩ : ∃ x, x = k.cells.toArray := ⟨_, rfl⟩
    rw [← hka] at HGX LD hkl ⊢
    clear hgx hbn hbg qB zB
    refine wp_region_held_drew (S := fun w' => w'.heap[gx]? = some (.cells ka 27 (0, 0)) ∧ w'.cell? ⟨B, i, none⟩ = some (.map (some bn))) (by kernel_rfl) ⟨box_drew2 HGX.out, HCX.out⟩ (fun hS => ?_)
    refine takeA (i := 0) (v := .pointer (some ⟨B, i, none⟩)) ({ tmps := #[.pointer (some ⟨B, i, none⟩), .agg ka, undef, .pointer (some ⟨gx, 0, none⟩), .pointer (some ⟨B, i, none⟩), .pointer (some ⟨B, i, none⟩), .map none, .bool true, .pointer (some ⟨B, i, none⟩), .map (some bn), .pointer (some ⟨B, i, none⟩), .pointer (some ⟨B, i, none⟩), undef, undef, undef, undef], defers := [] }) rfl (by kernel_rfl) (by kernel_rfl) (by kernel_rfl) (fun _ _ _ h => h) (.inl ⟨rfl, fun _ _ => rfl⟩) hS rfl ?_
    refine takeA (i := 1) (v := .pointer (some ⟨B, i, none⟩)) ({ tmps := #[.pointer (some ⟨B, i, none⟩), .agg ka, undef, .pointer (some ⟨gx, 0, none⟩), .pointer (some ⟨B, i, none⟩), .pointer (some ⟨B, i, none⟩), .map none, .bool true, .pointer (some ⟨B, i, none⟩), .map (some bn), .pointer (some ⟨B, i, none⟩), .pointer (some ⟨B, i, none⟩), .pointer (some ⟨B, i, none⟩), undef, undef, undef], defers := [] }) rfl (by kernel_rfl) (by kernel_rfl) (by kernel_rfl) (fun _ _ _ h => h) (.inl ⟨rfl, fun w' _ => by go_simp⟩) hS rfl ?_
    refine takeA (i := 2) (v := .map (some bn)) ({ tmps := #[.pointer (some ⟨B, i, none⟩), .agg ka, undef, .pointer (some ⟨gx, 0, none⟩), .pointer (some ⟨B, i, none⟩), .pointer (some ⟨B, i, none⟩), .map none, .bool true, .pointer (some ⟨B, i, none⟩), .map (some bn), .pointer (some ⟨B, i, none⟩), .pointer (some ⟨B, i, none⟩), .pointer (some ⟨B, i, none⟩), .map (some bn), undef, undef], defers := [] }) rfl (by kernel_rfl) (by kernel_rfl) (by kernel_rfl) (fun _ _ _ h => h) (yi_load 103 (.tmp 12) _ rfl rfl rfl (fun w' h => LM.out w' bn h.2)) hS rfl ?_
    refine takeA (i := 3) (v := .agg ka) ({ tmps := #[.pointer (some ⟨B, i, none⟩), .agg ka, undef, .pointer (some ⟨gx, 0, none⟩), .pointer (some ⟨B, i, none⟩), .pointer (some ⟨B, i, none⟩), .map none, .bool true, .pointer (some ⟨B, i, none⟩), .map (some bn), .pointer (some ⟨B, i, none⟩), .pointer (some ⟨B, i, none⟩), .pointer (some ⟨B, i, none⟩), .map (some bn), .agg ka, undef], defers := [] }) rfl (by kernel_rfl) (by kernel_rfl) (by kernel_rfl) (fun _ _ _ h => h) (yi_load 27 (.tmp 3) _ rfl rfl rfl (fun w' h => LD.out w' gx h.1)) hS rfl ?_
    refine takeA (i := 4) (v := .agg #[]) ({ tmps := #[.pointer (some ⟨B, i, none⟩), .agg ka, undef, .pointer (some ⟨gx, 0, none⟩), .pointer (some ⟨B, i, none⟩), .pointer (some ⟨B, i, none⟩), .map none, .bool true, .pointer (some ⟨B, i, none⟩), .map (some bn), .pointer (some ⟨B, i, none⟩), .pointer (some ⟨B, i, none⟩), .pointer (some ⟨B, i, none⟩), .map (some bn), .agg ka, .agg #[]], defers := [] }) rfl (by kernel_rfl) (by kernel_rfl) (by kernel_rfl) (fun _ _ _ h => h) (.inl ⟨rfl, fun w' _ => by go_simp⟩) hS rfl ?_
    refine wpAnyH_ready (rs := [5]) (by kernel_rfl) (by simp) ?_
    refine AllReadyH.cons rfl (fun K hK => ?_) AllReadyH.nil
    rw [if_pos (by rfl)]
    obtain ⟨w1, hrun, hown1, hgrow1⟩ := (HXO.out).drew.update law27 Tryd.underlying103 (by unfold maxLen; omega) hkl (unitElem_mk (H := Unit))
    refine wp_upd hrun rfl rfl rfl rfl rfl ?_
    have hkg := Kept.ofGrown hgrow1
    refine hK.out ({ tmps := #[.pointer (some ⟨B, i, none⟩), .agg ka, undef, .pointer (some ⟨gx, 0, none⟩), .pointer (some ⟨B, i, none⟩), .pointer (some ⟨B, i, none⟩), .map none, .bool true, .pointer (some ⟨B, i, none⟩), .map (some bn), .pointer (some ⟨B, i, none⟩), .pointer (some ⟨B, i, none⟩), .pointer (some ⟨B, i, none⟩), .map (some bn), .agg ka, .agg #[]], defers := [] }) w1 ⟨?_, ?_⟩ (fun hS => ?_)
    · rw [hkg.block gx (lt_of_block HGX.out) (by intro e; injection e with e; exact HGB.out e)]; exact HGX.out
    · rw [World.cell?_of_block (w := (X.alloc (.map #[] 0)).drew) (hkg.block B (lt_of_block HUB.out) (by intro e; injection e with e; exact HBB.out e.symm))]; exact HCX.out
    clear hK K
    refine wpAnyH_done (by kernel_rfl) ?_ _
    go_wp2_with fail
    go_end0
    exact ⟨rfl, added_of (ls := []) H1.out HKL.out HUB.out HXK.out hown1 (drew_grown hgrow1) (.inr HBN.out) HBB.out⟩

end Go.Proofs.YtigpfaecbmnklaaDoor
