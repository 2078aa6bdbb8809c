/- Keys and requests: what it has, what it knows, what it learns. -/
import Derived.Test.YtigpfaecbmnklaaDoorKnow1
import Derived.Deep.Cut
namespace Go.Proofs.YtigpfaecbmnklaaDoor
open Go.RowKit Go.Maps
set_option maxRecDepth 100000

theorem ky_load {w' : World} {g : Nat} {k : Ky} (h : w'.heap[g]? = some (.cells k.cells.toArray 59 (0, 0))) : (Instr.loadAt 59 (.pointer (some ⟨g, 0, none⟩))).run Tryd.prog w' = .ok (.agg k.cells.toArray) w' := by
  have := run_loadVar_row (P := Tryd.prog) w' g 59 59 _ (0, 0) _ h Tryd.underlying59 rfl (by kernel_rfl)
  simp only [Instr.loadAt, Instr.sureAddr, Sem.run_bind, Sem.run_pure, Result.andThen_ok, this]
theorem req_load {w' : World} {g : Nat} {k : Rq} (h : w'.heap[g]? = some (.cells k.cells.toArray 27 (0, 0))) : (Instr.loadAt 27 (.pointer (some ⟨g, 0, none⟩))).run Tryd.prog w' = .ok (.agg k.cells.toArray) w' := by
  have := run_loadVar_row (P := Tryd.prog) w' g 27 27 _ (0, 0) _ h Tryd.underlying27 rfl (by kernel_rfl)
  simp only [Instr.loadAt, Instr.sureAddr, Sem.run_bind, Sem.run_pure, Result.andThen_ok, this]
theorem map_load {w' : World} {B i : Nat} {o : Option Nat} (T : TypeId) (hT : T = 101 ∨ T = 103 ∨ T = 105) (h : w'.cell? ⟨B, i, none⟩ = some (.map o)) : (Instr.loadAt T (.pointer (some ⟨B, i, none⟩))).run Tryd.prog w' = .ok (.map o) w' := by
  rcases hT with rfl | rfl | rfl <;> go_simp
theorem KwAt.cell {H : Nat} {w : World} {B : Nat} {S : Kn} {o : Nat → Option Nat} (h : KwAt H w B S o) (i : Nat) : w.cell? ⟨B, i, none⟩ = (knC o)[i]? := cell_of_row _ _ _ _ _ _ h.box

set_option maxHeartbeats 2000000 in
theorem has51 (H : Nat) (w : World) (B : Nat) (S : Kn) (h : Kw H w B S) (k : Ky) (hk : k.ok) : Calls Tryd.prog 51 #[.pointer (some ⟨B, 0, none⟩), .agg k.cells.toArray] w fun e w' => e = .returned (.bool (memB k S.k)) ∧ Below w.heap.size w w' := by
  obtain ⟨o, h⟩ := h
  obtain ⟨W, hW⟩ : ∃ W, W = w.alloc (.cells k.cells.toArray 59) := ⟨_, rfl⟩
  have hbl : Below w.heap.size w W := by rw [hW]; exact (Below.refl _ _).alloc (Nat.le_refl _) _
  have hWn : W.heap[w.heap.size]? = some (.cells k.cells.toArray 59 (0, 0)) := by rw [hW]; exact heap_alloc_new _ _
  have hW0 := Below.refl W.heap.size W
  have LB := Lib.hid (fun w' (h' : Below W.heap.size W w') => ky_load ((h'.block _ (lt_of_block hWn)).trans hWn))
  have LM := Lib.hid (fun w' (h' : Below W.heap.size W w') => map_load (w' := w') (B := B) (i := 0) (o := o 0) 101 (.inl rfl) (((h.on hbl).on h').cell 0))
  have CH := Lib.hid (fun w' (h' : Below W.heap.size W w') => has88 w' (o 0) S.k k hk ((h.on hbl).on h').k)
  have HBL := Lib.hid hbl
  generalize memB k S.k = hb0 at *
  simp only [Ky.cells] at hW ⊢
  have HW := Lib.hid hW
  clear hW hbl hWn h
  go_enter Tryd.func51, Tryd.ntmps51
  go_upto_region 1 with fail
  rw [← HW.out]
  clear HW
  have eA : (#[.int .u8 k.o, .int .u8 k.e] : Array Value) = k.cells.toArray := rfl
  rw [eA]
  clear eA
  generalize k.cells.toArray = ka at *
  obtain ⟨gx, hgx⟩ : ∃ g, g = w.heap.size := ⟨_, rfl⟩
  rw [← hgx] at LB ⊢
  have HGX := Lib.hid hgx
  clear hgx
  refine wp_region_held_drew (S := fun w' => Below W.heap.size W w') (by kernel_rfl) hW0.drew (fun hS => ?_)
  refine takeA (i := 0) (v := .pointer (some ⟨B, 0, none⟩)) ({ tmps := #[.pointer (some ⟨B, 0, none⟩), .agg ka, undef, .pointer (some ⟨gx, 0, none⟩), .bool false, .pointer (some ⟨B, 0, none⟩), undef, undef, undef, undef, undef], defers := [] }) rfl (by kernel_rfl) (by kernel_rfl) (by kernel_rfl) (fun _ _ _ h => h) (.inl ⟨rfl, fun _ _ => rfl⟩) hS rfl ?_
  refine takeA (i := 1) (v := .pointer (some ⟨B, 0, none⟩)) ({ tmps := #[.pointer (some ⟨B, 0, none⟩), .agg ka, undef, .pointer (some ⟨gx, 0, none⟩), .bool false, .pointer (some ⟨B, 0, none⟩), .pointer (some ⟨B, 0, none⟩), undef, undef, undef, undef], defers := [] }) rfl (by kernel_rfl) (by kernel_rfl) (by kernel_rfl) (fun _ _ _ h => h) (.inl ⟨rfl, fun w' _ => by go_simp⟩) hS rfl ?_
  refine takeA (i := 2) (v := .pointer (some ⟨B, 0, none⟩)) ({ tmps := #[.pointer (some ⟨B, 0, none⟩), .agg ka, undef, .pointer (some ⟨gx, 0, none⟩), .bool false, .pointer (some ⟨B, 0, none⟩), .pointer (some ⟨B, 0, none⟩), .pointer (some ⟨B, 0, none⟩), undef, undef, undef], defers := [] }) rfl (by kernel_rfl) (by kernel_rfl) (by kernel_rfl) (fun _ _ _ h => h) (.inl ⟨rfl, fun w' _ => by go_simp⟩) hS rfl ?_
  refine takeA (i := 3) (v := .map (o 0)) ({ tmps := #[.pointer (some ⟨B, 0, none⟩), .agg ka, undef, .pointer (some ⟨gx, 0, none⟩), .bool false, .pointer (some ⟨B, 0, none⟩), .pointer (some ⟨B, 0, none⟩), .pointer (some ⟨B, 0, none⟩), .map (o 0), undef, undef], defers := [] }) rfl (by kernel_rfl) (by kernel_rfl) (by kernel_rfl) (fun _ _ _ h => h) (yi_load 101 (.tmp 7) _ rfl rfl rfl LM.out) hS rfl ?_
  refine takeA (i := 4) (v := .agg ka) ({ tmps := #[.pointer (some ⟨B, 0, none⟩), .agg ka, undef, .pointer (some ⟨gx, 0, none⟩), .bool false, .pointer (some ⟨B, 0, none⟩), .pointer (some ⟨B, 0, none⟩), .pointer (some ⟨B, 0, none⟩), .map (o 0), .agg ka, undef], defers := [] }) rfl (by kernel_rfl) (by kernel_rfl) (by kernel_rfl) (fun _ _ _ h => h) (yi_load 59 (.tmp 3) _ rfl rfl rfl LB.out) hS rfl ?_
  refine wpAnyH_ready (rs := [5]) (by kernel_rfl) (by simp) ?_
  refine AllReadyH.cons rfl (fun K hK => ?_) AllReadyH.nil
  rw [if_pos (by rfl)]
  go_simp
  refine Calls.mono (CH.out _ hS) ?_
  rintro e w2 ⟨rfl, hb⟩
  refine hK.out ({ tmps := #[.pointer (some ⟨B, 0, none⟩), .agg ka, undef, .pointer (some ⟨gx, 0, none⟩), .bool false, .pointer (some ⟨B, 0, none⟩), .pointer (some ⟨B, 0, none⟩), .pointer (some ⟨B, 0, none⟩), .map (o 0), .agg ka, .bool hb0], defers := [] }) w2 (Below.up hS hb) (fun hS => ?_)
  clear hK K hb
  refine takeA (i := 6) (v := .bool hb0) ({ tmps := #[.pointer (some ⟨B, 0, none⟩), .agg ka, undef, .pointer (some ⟨gx, 0, none⟩), .bool hb0, .pointer (some ⟨B, 0, none⟩), .pointer (some ⟨B, 0, none⟩), .pointer (some ⟨B, 0, none⟩), .map (o 0), .agg ka, .bool hb0], defers := [] }) rfl (by kernel_rfl) (by kernel_rfl) (by kernel_rfl) (fun _ _ _ h => h) (.inl ⟨rfl, fun _ _ => rfl⟩) hS rfl ?_
  refine wpAnyH_done (by kernel_rfl) ?_ _
  go_wp2_with fail
  go_ret
  exact ⟨rfl, by first | exact HBL.out.trans (hS.mono HBL.out.size) | (rw [HGX.out]; exact HBL.out.trans (hS.mono HBL.out.size))⟩

def knowsB (S : Kn) (r : Rq) : Bool := decide (r = Rq.zero) || memB r S.r

set_option maxHeartbeats 2000000 in
theorem knows21 (H : Nat) (w : World) (B : Nat) (S : Kn) (h : Kw H w B S) (k : Rq) (hk : k.ok) : Calls Tryd.prog 21 #[.pointer (some ⟨B, 0, none⟩), .agg k.cells.toArray] w fun e w' => e = .returned (.bool (knowsB S k)) ∧ Below w.heap.size w w' := by
  obtain ⟨o, h⟩ := h
  obtain ⟨W, hW⟩ : ∃ W, W = w.alloc (.cells k.cells.toArray 27) := ⟨_, rfl⟩
  have hbl : Below w.heap.size w W := by rw [hW]; exact (Below.refl _ _).alloc (Nat.le_refl _) _
  have hWn : W.heap[w.heap.size]? = some (.cells k.cells.toArray 27 (0, 0)) := by rw [hW]; exact heap_alloc_new _ _
  have hW0 := Below.refl W.heap.size W
  have LB := Lib.hid (fun w' (h' : Below W.heap.size W w') => req_load ((h'.block _ (lt_of_block hWn)).trans hWn))
  have LM := Lib.hid (fun w' (h' : Below W.heap.size W w') => map_load (w' := w') (B := B) (i := 1) (o := o 1) 103 (.inr (.inl rfl)) (((h.on hbl).on h').cell 1))
  have CH := Lib.hid (fun w' (h' : Below W.heap.size W w') => has58 w' (o 1) S.r k hk ((h.on hbl).on h').r)
  have EQ := Lib.hid (fun w => eql27 k Rq.zero w)
  have EG : Hid (∀ op a b w, (eqGuard op 27 a b (.agg k.cells.toArray) (.agg Rq.zero.cells.toArray)).run Tryd.prog w = .ok () w) := Lib.hid (fun op a b w => guard27 op a b k Rq.zero w)
  have HBL := Lib.hid hbl
  obtain ⟨r, hr⟩ : ∃ r, r = knowsB S k := ⟨_, rfl⟩
  rw [← hr]
  unfold knowsB at hr
  generalize memB k S.r = hb0 at *
  generalize decide (k = Rq.zero) = zb at *
  have HR := Lib.hid hr
  simp only [Rq.cells] at hW ⊢
  have HW := Lib.hid hW
  clear hW hbl hWn h hr
  go_enter Tryd.func21, Tryd.ntmps21
  go_upto_region 1 with fail
  rw [← HW.out]
  clear HW
  have eA : (#[.int .u8 k.c, .int .u32 k.t, .int .u8 k.k, .int .u8 k.y, .int .u16 k.v] : Array Value) = k.cells.toArray := rfl
  rw [eA]
  have eZ : Rq.zero.cells.toArray = (#[.int .u8 0, .int .u32 0, .int .u8 0, .int .u8 0, .int .u16 0] : Array Value) := rfl
  rw [eZ] at EQ EG
  generalize k.cells.toArray = ka at *
  obtain ⟨gx, hgx⟩ : ∃ g, g = w.heap.size := ⟨_, rfl⟩
  rw [← hgx] at LB ⊢
  have HGX := Lib.hid hgx
  clear eA eZ hgx
  cases zb
  · refine wp_region_held_drew (S := fun w' => Below W.heap.size W w') (by kernel_rfl) hW0.drew (fun hS => ?_)
    refine takeA (i := 0) (v := .agg ka) ({ tmps := #[.pointer (some ⟨B, 0, none⟩), .agg ka, undef, .pointer (some ⟨gx, 0, none⟩), .bool false, .agg ka, undef, undef, undef, undef, undef, undef, undef, undef, undef, undef], defers := [] }) rfl (by kernel_rfl) (by kernel_rfl) (by kernel_rfl) (fun _ _ _ h => h) (yi_load 27 (.tmp 3) _ rfl rfl rfl LB.out) hS rfl ?_
    refine takeA (i := 1) (v := .agg #[.int .u8 0, .int .u32 0, .int .u8 0, .int .u8 0, .int .u16 0]) ({ tmps := #[.pointer (some ⟨B, 0, none⟩), .agg ka, undef, .pointer (some ⟨gx, 0, none⟩), .bool false, .agg ka, .agg #[.int .u8 0, .int .u32 0, .int .u8 0, .int .u8 0, .int .u16 0], undef, undef, undef, undef, undef, undef, undef, undef, undef], defers := [] }) rfl (by kernel_rfl) (by kernel_rfl) (by kernel_rfl) (fun _ _ _ h => h) (.inl ⟨rfl, fun w' _ => by go_simp⟩) hS rfl ?_
    refine takeA (i := 2) (v := .bool false) ({ tmps := #[.pointer (some ⟨B, 0, none⟩), .agg ka, undef, .pointer (some ⟨gx, 0, none⟩), .bool false, .agg ka, .agg #[.int .u8 0, .int .u32 0, .int .u8 0, .int .u8 0, .int .u16 0], .bool false, undef, undef, undef, undef, undef, undef, undef, undef], defers := [] }) rfl (by kernel_rfl) (by kernel_rfl) (by kernel_rfl) (fun _ _ _ h => h) (yi_eql rfl 27 (.tmp 5) (.tmp 6) rfl rfl rfl EQ.out EG.out) hS rfl ?_
    refine takeA (i := 3) (v := .bool false) ({ tmps := #[.pointer (some ⟨B, 0, none⟩), .agg ka, undef, .pointer (some ⟨gx, 0, none⟩), .bool false, .agg ka, .agg #[.int .u8 0, .int .u32 0, .int .u8 0, .int .u8 0, .int .u16 0], .bool false, .bool false, undef, undef, undef, undef, undef, undef, undef], defers := [] }) rfl (by kernel_rfl) (by kernel_rfl) (by kernel_rfl) (fun _ _ _ h => h) (.inl ⟨rfl, fun _ _ => rfl⟩) hS rfl ?_
    refine takeA (i := 4) (v := .pointer (some ⟨B, 0, none⟩)) ({ tmps := #[.pointer (some ⟨B, 0, none⟩), .agg ka, undef, .pointer (some ⟨gx, 0, none⟩), .bool false, .agg ka, .agg #[.int .u8 0, .int .u32 0, .int .u8 0, .int .u8 0, .int .u16 0], .bool false, .bool false, .pointer (some ⟨B, 0, none⟩), undef, undef, undef, undef, undef, undef], defers := [] }) rfl (by kernel_rfl) (by kernel_rfl) (by kernel_rfl) (fun _ _ _ h => h) (.inl ⟨rfl, fun _ _ => rfl⟩) hS rfl ?_
    refine takeA (i := 5) (v := .pointer (some ⟨B, 0, none⟩)) ({ tmps := #[.pointer (some ⟨B, 0, none⟩), .agg ka, undef, .pointer (some ⟨gx, 0, none⟩), .bool false, .agg ka, .agg #[.int .u8 0, .int .u32 0, .int .u8 0, .int .u8 0, .int .u16 0], .bool false, .bool false, .pointer (some ⟨B, 0, none⟩), .pointer (some ⟨B, 0, none⟩), undef, undef, undef, undef, undef], defers := [] }) rfl (by kernel_rfl) (by kernel_rfl) (by kernel_rfl) (fun _ _ _ h => h) (.inl ⟨rfl, fun w' _ => by go_simp⟩) hS rfl ?_
    refine takeA (i := 6) (v := .pointer (some ⟨B, 1, none⟩)) ({ tmps := #[.pointer (some ⟨B, 0, none⟩), .agg ka, undef, .pointer (some ⟨gx, 0, none⟩), .bool false, .agg ka, .agg #[.int .u8 0, .int .u32 0, .int .u8 0, .int .u8 0, .int .u16 0], .bool false, .bool false, .pointer (some ⟨B, 0, none⟩), .pointer (some ⟨B, 0, none⟩), .pointer (some ⟨B, 1, none⟩), undef, undef, undef, undef], defers := [] }) rfl (by kernel_rfl) (by kernel_rfl) (by kernel_rfl) (fun _ _ _ h => h) (.inl ⟨rfl, fun w' _ => by go_simp⟩) hS rfl ?_
    refine takeA (i := 7) (v := .map (o 1)) ({ tmps := #[.pointer (some ⟨B, 0, none⟩), .agg ka, undef, .pointer (some ⟨gx, 0, none⟩), .bool false, .agg ka, .agg #[.int .u8 0, .int .u32 0, .int .u8 0, .int .u8 0, .int .u16 0], .bool false, .bool false, .pointer (some ⟨B, 0, none⟩), .pointer (some ⟨B, 0, none⟩), .pointer (some ⟨B, 1, none⟩), .map (o 1), undef, undef, undef], defers := [] }) rfl (by kernel_rfl) (by kernel_rfl) (by kernel_rfl) (fun _ _ _ h => h) (yi_load 103 (.tmp 11) _ rfl rfl rfl LM.out) hS rfl ?_
    refine takeA (i := 8) (v := .agg ka) ({ tmps := #[.pointer (some ⟨B, 0, none⟩), .agg ka, undef, .pointer (some ⟨gx, 0, none⟩), .bool false, .agg ka, .agg #[.int .u8 0, .int .u32 0, .int .u8 0, .int .u8 0, .int .u16 0], .bool false, .bool false, .pointer (some ⟨B, 0, none⟩), .pointer (some ⟨B, 0, none⟩), .pointer (some ⟨B, 1, none⟩), .map (o 1), .agg ka, undef, undef], defers := [] }) rfl (by kernel_rfl) (by kernel_rfl) (by kernel_rfl) (fun _ _ _ h => h) (yi_load 27 (.tmp 3) _ rfl rfl rfl LB.out) hS rfl ?_
    refine wpAnyH_ready (rs := [9]) (by kernel_rfl) (by simp) ?_
    refine AllReadyH.cons rfl (fun K hK => ?_) AllReadyH.nil
    rw [if_pos (by rfl)]
    go_simp
    refine Calls.mono (CH.out _ hS) ?_
    rintro e w2 ⟨rfl, hb⟩
    refine hK.out ({ tmps := #[.pointer (some ⟨B, 0, none⟩), .agg ka, undef, .pointer (some ⟨gx, 0, none⟩), .bool false, .agg ka, .agg #[.int .u8 0, .int .u32 0, .int .u8 0, .int .u8 0, .int .u16 0], .bool false, .bool false, .pointer (some ⟨B, 0, none⟩), .pointer (some ⟨B, 0, none⟩), .pointer (some ⟨B, 1, none⟩), .map (o 1), .agg ka, .bool hb0, undef], defers := [] }) w2 (Below.up hS hb) (fun hS => ?_)
    clear hK K hb
    refine takeA (i := 10) (v := .bool hb0) ({ tmps := #[.pointer (some ⟨B, 0, none⟩), .agg ka, undef, .pointer (some ⟨gx, 0, none⟩), .bool false, .agg ka, .agg #[.int .u8 0, .int .u32 0, .int .u8 0, .int .u8 0, .int .u16 0], .bool false, .bool false, .pointer (some ⟨B, 0, none⟩), .pointer (some ⟨B, 0, none⟩), .pointer (some ⟨B, 1, none⟩), .map (o 1), .agg ka, .bool hb0, .bool hb0], defers := [] }) rfl (by kernel_rfl) (by kernel_rfl) (by kernel_rfl) (fun _ _ _ h => h) (.inl ⟨rfl, fun _ _ => rfl⟩) hS rfl ?_
    refine takeA (i := 11) (v := .bool hb0) ({ tmps := #[.pointer (some ⟨B, 0, none⟩), .agg ka, undef, .pointer (some ⟨gx, 0, none⟩), .bool hb0, .agg ka, .agg #[.int .u8 0, .int .u32 0, .int .u8 0, .int .u8 0, .int .u16 0], .bool false, .bool false, .pointer (some ⟨B, 0, none⟩), .pointer (some ⟨B, 0, none⟩), .pointer (some ⟨B, 1, none⟩), .map (o 1), .agg ka, .bool hb0, .bool hb0], defers := [] }) rfl (by kernel_rfl) (by kernel_rfl) (by kernel_rfl) (fun _ _ _ h => h) (.inl ⟨rfl, fun _ _ => rfl⟩) hS rfl ?_
    refine wpAnyH_done (by kernel_rfl) ?_ _
    go_wp2_with fail
    go_ret
    exact ⟨by rw [HR.out]; rfl, by first | exact HBL.out.trans (hS.mono HBL.out.size) | (rw [HGX.out]; exact HBL.out.trans (hS.mono HBL.out.size))⟩
  · refine wp_region_held_drew (S := fun w' => Below W.heap.size W w') (by kernel_rfl) hW0.drew (fun hS => ?_)
    refine takeA (i := 0) (v := .agg ka) ({ tmps := #[.pointer (some ⟨B, 0, none⟩), .agg ka, undef, .pointer (some ⟨gx, 0, none⟩), .bool false, .agg ka, undef, undef, undef, undef, undef, undef, undef, undef, undef, undef], defers := [] }) rfl (by kernel_rfl) (by kernel_rfl) (by kernel_rfl) (fun _ _ _ h => h) (yi_load 27 (.tmp 3) _ rfl rfl rfl LB.out) hS rfl ?_
    refine takeA (i := 1) (v := .agg #[.int .u8 0, .int .u32 0, .int .u8 0, .int .u8 0, .int .u16 0]) ({ tmps := #[.pointer (some ⟨B, 0, none⟩), .agg ka, undef, .pointer (some ⟨gx, 0, none⟩), .bool false, .agg ka, .agg #[.int .u8 0, .int .u32 0, .int .u8 0, .int .u8 0, .int .u16 0], undef, undef, undef, undef, undef, undef, undef, undef, undef], defers := [] }) rfl (by kernel_rfl) (by kernel_rfl) (by kernel_rfl) (fun _ _ _ h => h) (.inl ⟨rfl, fun w' _ => by go_simp⟩) hS rfl ?_
    refine takeA (i := 2) (v := .bool true) ({ tmps := #[.pointer (some ⟨B, 0, none⟩), .agg ka, undef, .pointer (some ⟨gx, 0, none⟩), .bool false, .agg ka, .agg #[.int .u8 0, .int .u32 0, .int .u8 0, .int .u8 0, .int .u16 0], .bool true, undef, undef, undef, undef, undef, undef, undef, undef], defers := [] }) rfl (by kernel_rfl) (by kernel_rfl) (by kernel_rfl) (fun _ _ _ h => h) (yi_eql rfl 27 (.tmp 5) (.tmp 6) rfl rfl rfl EQ.out EG.out) hS rfl ?_
    refine takeA (i := 3) (v := .bool true) ({ tmps := #[.pointer (some ⟨B, 0, none⟩), .agg ka, undef, .pointer (some ⟨gx, 0, none⟩), .bool false, .agg ka, .agg #[.int .u8 0, .int .u32 0, .int .u8 0, .int .u8 0, .int .u16 0], .bool true, .bool true, undef, undef, undef, undef, undef, undef, undef], defers := [] }) rfl (by kernel_rfl) (by kernel_rfl) (by kernel_rfl) (fun _ _ _ h => h) (.inl ⟨rfl, fun _ _ => rfl⟩) hS rfl ?_
    refine takeA (i := 4) (v := undef) ({ tmps := #[.pointer (some ⟨B, 0, none⟩), .agg ka, undef, .pointer (some ⟨gx, 0, none⟩), .bool false, .agg ka, .agg #[.int .u8 0, .int .u32 0, .int .u8 0, .int .u8 0, .int .u16 0], .bool true, .bool true, undef, undef, undef, undef, undef, undef, undef], defers := [] }) rfl (by kernel_rfl) (by kernel_rfl) (by kernel_rfl) (fun _ _ _ h => h) (.inr ⟨rfl, rfl⟩) hS rfl ?_
    refine takeA (i := 5) (v := undef) ({ tmps := #[.pointer (some ⟨B, 0, none⟩), .agg ka, undef, .pointer (some ⟨gx, 0, none⟩), .bool false, .agg ka, .agg #[.int .u8 0, .int .u32 0, .int .u8 0, .int .u8 0, .int .u16 0], .bool true, .bool true, undef, undef, undef, undef, undef, undef, undef], defers := [] }) rfl (by kernel_rfl) (by kernel_rfl) (by kernel_rfl) (fun _ _ _ h => h) (.inr ⟨rfl, rfl⟩) hS rfl ?_
    refine takeA (i := 6) (v := undef) ({ tmps := #[.pointer (some ⟨B, 0, none⟩), .agg ka, undef, .pointer (some ⟨gx, 0, none⟩), .bool false, .agg ka, .agg #[.int .u8 0, .int .u32 0, .int .u8 0, .int .u8 0, .int .u16 0], .bool true, .bool true, undef, undef, undef, undef, undef, undef, undef], defers := [] }) rfl (by kernel_rfl) (by kernel_rfl) (by kernel_rfl) (fun _ _ _ h => h) (.inr ⟨rfl, rfl⟩) hS rfl ?_
    refine takeA (i := 7) (v := undef) ({ tmps := #[.pointer (some ⟨B, 0, none⟩), .agg ka, undef, .pointer (some ⟨gx, 0, none⟩), .bool false, .agg ka, .agg #[.int .u8 0, .int .u32 0, .int .u8 0, .int .u8 0, .int .u16 0], .bool true, .bool true, undef, undef, undef, undef, undef, undef, undef], defers := [] }) rfl (by kernel_rfl) (by kernel_rfl) (by kernel_rfl) (fun _ _ _ h => h) (.inr ⟨rfl, rfl⟩) hS rfl ?_
    refine takeA (i := 8) (v := undef) ({ tmps := #[.pointer (some ⟨B, 0, none⟩), .agg ka, undef, .pointer (some ⟨gx, 0, none⟩), .bool false, .agg ka, .agg #[.int .u8 0, .int .u32 0, .int .u8 0, .int .u8 0, .int .u16 0], .bool true, .bool true, undef, undef, undef, undef, undef, undef, undef], defers := [] }) rfl (by kernel_rfl) (by kernel_rfl) (by kernel_rfl) (fun _ _ _ h => h) (.inr ⟨rfl, rfl⟩) hS rfl ?_
    refine takeA (i := 9) (v := undef) ({ tmps := #[.pointer (some ⟨B, 0, none⟩), .agg ka, undef, .pointer (some ⟨gx, 0, none⟩), .bool false, .agg ka, .agg #[.int .u8 0, .int .u32 0, .int .u8 0, .int .u8 0, .int .u16 0], .bool true, .bool true, undef, undef, undef, undef, undef, undef, undef], defers := [] }) rfl (by kernel_rfl) (by kernel_rfl) (by kernel_rfl) (fun _ _ _ h => h) (.inr ⟨rfl, rfl⟩) hS rfl ?_
    refine takeA (i := 10) (v := .bool true) ({ tmps := #[.pointer (some ⟨B, 0, none⟩), .agg ka, undef, .pointer (some ⟨gx, 0, none⟩), .bool false, .agg ka, .agg #[.int .u8 0, .int .u32 0, .int .u8 0, .int .u8 0, .int .u16 0], .bool true, .bool true, undef, undef, undef, undef, undef, undef, .bool true], defers := [] }) rfl (by kernel_rfl) (by kernel_rfl) (by kernel_rfl) (fun _ _ _ h => h) (.inl ⟨rfl, fun _ _ => rfl⟩) hS rfl ?_
    refine takeA (i := 11) (v := .bool true) ({ tmps := #[.pointer (some ⟨B, 0, none⟩), .agg ka, undef, .pointer (some ⟨gx, 0, none⟩), .bool true, .agg ka, .agg #[.int .u8 0, .int .u32 0, .int .u8 0, .int .u8 0, .int .u16 0], .bool true, .bool true, undef, undef, undef, undef, undef, undef, .bool true], defers := [] }) rfl (by kernel_rfl) (by kernel_rfl) (by kernel_rfl) (fun _ _ _ h => h) (.inl ⟨rfl, fun _ _ => rfl⟩) hS rfl ?_
    refine wpAnyH_done (by kernel_rfl) ?_ _
    go_wp2_with fail
    go_ret
    exact ⟨by rw [HR.out]; rfl, by first | exact HBL.out.trans (hS.mono HBL.out.size) | (rw [HGX.out]; exact HBL.out.trans (hS.mono HBL.out.size))⟩
end Go.Proofs.YtigpfaecbmnklaaDoor
