/- Whether it can show a vote; whether it has all that a message carries. -/
import Derived.Test.YtigpfaecbmnklaaDoorVo3
namespace Go.Proofs.YtigpfaecbmnklaaDoor
open Go.RowKit Go.Maps
set_option maxRecDepth 100000

/-- P4.2: a vote that was seen, or of an owner whose key is there -/
def castB (S : Kn) (v : Vt) (c : Vc) : Bool := memB (votB v c) S.v || memB (⟨v.f, v.e⟩ : Ky) S.k
theorem byte_load {w' : World} {g i : Nat} {x : Int} (h : w'.cell? ⟨g, i, none⟩ = some (.int .u8 x)) : (Instr.loadAt 5 (.pointer (some ⟨g, i, none⟩))).run Tryd.prog w' = .ok (.int .u8 x) w' := by go_simp

set_option maxHeartbeats 8000000 in
theorem canCast94 (H : Nat) (w : World) (B : Nat) (S : Kn) (h : Kw H w B S) (v : Vt) (c : Vc) (hv : VtAt w v c) (hok : VcOk c) (ht : Tab w) (hky : Ky.ok ⟨v.f, v.e⟩) :
    Calls Tryd.prog 94 #[.pointer (some ⟨B, 0, none⟩), .agg v.cells.toArray] w fun e w' => e = .returned (.bool (castB S v c)) ∧ Below w.heap.size w w' := by
  obtain ⟨W, hW⟩ : ∃ W, W = w.alloc (.cells v.cells.toArray 32) := ⟨_, rfl⟩
  have hbl : Below w.heap.size w W := by rw [hW]; exact (Below.refl _ _).alloc (Nat.le_refl _) _
  have hbx : W.heap[w.heap.size]? = some (.cells v.cells.toArray 32 (0, 0)) := by rw [hW]; exact heap_alloc_new _ _
  obtain ⟨o, h⟩ := h
  have hWK := h.on hbl
  have hlen := votB_len hv
  have hvW := hv.below hbl
  have htW := Tab.on ht hbl
  have LM := Lib.hid (fun w' (h' : Below W.heap.size W w') => map_load (w' := w') (B := B) (i := 3) (o := o 3) 105 (.inr (.inr rfl)) ((hWK.on h').cell 3))
  have LB := Lib.hid (fun w' (h' : Below W.heap.size W w') => vt_load0 ((h'.block _ (lt_of_block hbx)).trans hbx))
  have LF := Lib.hid (fun w' (h' : Below W.heap.size W w') => byte_load (x := v.f) (cell_vt ((h'.block _ (lt_of_block hbx)).trans hbx) 0))
  have LE := Lib.hid (fun w' (h' : Below W.heap.size W w') => byte_load (x := v.e) (cell_vt ((h'.block _ (lt_of_block hbx)).trans hbx) 1))
  have CB := Lib.hid (fun w' (h' : Below W.heap.size W w') => bytesOf55 w' v c (hvW.below h') hok (Tab.on htW h'))
  have CH := Lib.hid (fun w' (h' : Below W.heap.size W w') => has59 w' (o 3) S.v (votB v c) (by omega) (hWK.on h').v)
  have CK := Lib.hid (fun w' (h' : Below W.heap.size W w') => has51 H w' B S ⟨o, hWK.on h'⟩ ⟨v.f, v.e⟩ hky)
  simp only [Ky.cells, stV] at CK CB
  obtain ⟨r, hr⟩ : ∃ r, r = castB S v c := ⟨_, rfl⟩
  rw [← hr]
  unfold castB at hr
  generalize memB (votB v c) S.v = hb0 at *
  generalize memB (⟨v.f, v.e⟩ : Ky) S.k = kb at *
  generalize (⟨(votB v c).toArray⟩ : ByteArray) = sx at *
  have hW1 := Below.refl W.heap.size W
  have HR := Lib.hid hr
  have HBL := Lib.hid hbl
  have HW := Lib.hid hW
  clear hW hbx hbl h hWK hv hok ht hr hky hlen hvW htW
  simp only [Vt.cells] at HW ⊢
  go_enter Tryd.func94, Tryd.ntmps94
  go_upto_region 1 with fail
  rw [← HW.out]
  have eA : (#[.int .u8 v.f, .int .u8 v.e, .int .u32 v.vw, .int .u32 v.lo, .slice v.ms.a v.ms.n v.ms.c, .slice v.p.a v.p.n v.p.c, .slice v.q.a v.q.n v.q.c] : Array Value) = v.cells.toArray := rfl
  rw [eA]
  clear eA HW
  generalize v.cells.toArray = A at *
  obtain ⟨gx, hgx⟩ : ∃ g, g = w.heap.size := ⟨_, rfl⟩
  rw [← hgx] at LB LF LE ⊢
  clear hgx
  cases hb0
  · cases kb
    · refine wp_region_held_drew (S := fun w' => Below W.heap.size W w') (by kernel_rfl) hW1.drew (fun hS => ?_)
      refine takeA (i := 0) (v := .pointer (some ⟨B, 0, none⟩)) ({ tmps := #[.pointer (some ⟨B, 0, none⟩), .agg A, undef, .pointer (some ⟨gx, 0, none⟩), .bool false, .pointer (some ⟨B, 0, none⟩), undef, undef, undef, undef, undef, undef, undef, undef, undef, undef, undef, undef, undef, undef, undef], defers := [] }) rfl (by kernel_rfl) (by kernel_rfl) (by kernel_rfl) (fun _ _ _ h => h) (.inl ⟨rfl, fun _ _ => rfl⟩) hS rfl ?_
      refine takeA (i := 1) (v := .pointer (some ⟨B, 0, none⟩)) ({ tmps := #[.pointer (some ⟨B, 0, none⟩), .agg A, undef, .pointer (some ⟨gx, 0, none⟩), .bool false, .pointer (some ⟨B, 0, none⟩), .pointer (some ⟨B, 0, none⟩), undef, undef, undef, undef, undef, undef, undef, undef, undef, undef, undef, undef, undef, undef], defers := [] }) rfl (by kernel_rfl) (by kernel_rfl) (by kernel_rfl) (fun _ _ _ h => h) (.inl ⟨rfl, fun w' _ => by go_simp⟩) hS rfl ?_
      refine takeA (i := 2) (v := .pointer (some ⟨B, 3, none⟩)) ({ tmps := #[.pointer (some ⟨B, 0, none⟩), .agg A, undef, .pointer (some ⟨gx, 0, none⟩), .bool false, .pointer (some ⟨B, 0, none⟩), .pointer (some ⟨B, 0, none⟩), .pointer (some ⟨B, 3, none⟩), undef, undef, undef, undef, undef, undef, undef, undef, undef, undef, undef, undef, undef], defers := [] }) rfl (by kernel_rfl) (by kernel_rfl) (by kernel_rfl) (fun _ _ _ h => h) (.inl ⟨rfl, fun w' _ => by go_simp⟩) hS rfl ?_
      refine takeA (i := 3) (v := .map (o 3)) ({ tmps := #[.pointer (some ⟨B, 0, none⟩), .agg A, undef, .pointer (some ⟨gx, 0, none⟩), .bool false, .pointer (some ⟨B, 0, none⟩), .pointer (some ⟨B, 0, none⟩), .pointer (some ⟨B, 3, none⟩), .map (o 3), undef, undef, undef, undef, undef, undef, undef, undef, undef, undef, undef, undef], defers := [] }) rfl (by kernel_rfl) (by kernel_rfl) (by kernel_rfl) (fun _ _ _ h => h) (yi_load 105 (.tmp 7) _ rfl rfl rfl LM.out) hS rfl ?_
      refine takeA (i := 4) (v := .agg A) ({ tmps := #[.pointer (some ⟨B, 0, none⟩), .agg A, undef, .pointer (some ⟨gx, 0, none⟩), .bool false, .pointer (some ⟨B, 0, none⟩), .pointer (some ⟨B, 0, none⟩), .pointer (some ⟨B, 3, none⟩), .map (o 3), .agg A, undef, undef, undef, undef, undef, undef, undef, undef, undef, undef, undef], defers := [] }) rfl (by kernel_rfl) (by kernel_rfl) (by kernel_rfl) (fun _ _ _ h => h) (yi_load 32 (.tmp 3) _ rfl rfl rfl LB.out) hS rfl ?_
      refine wpAnyH_ready (rs := [5]) (by kernel_rfl) (by simp) ?_
      refine AllReadyH.cons rfl (fun K hK => ?_) AllReadyH.nil
      rw [if_pos (by rfl)]
      go_simp
      refine Calls.mono (CB.out _ hS) ?_
      rintro e w2 ⟨rfl, hb⟩
      refine hK.out ({ tmps := #[.pointer (some ⟨B, 0, none⟩), .agg A, undef, .pointer (some ⟨gx, 0, none⟩), .bool false, .pointer (some ⟨B, 0, none⟩), .pointer (some ⟨B, 0, none⟩), .pointer (some ⟨B, 3, none⟩), .map (o 3), .agg A, .string sx, undef, undef, undef, undef, undef, undef, undef, undef, undef, undef], defers := [] }) w2 (Below.up hS hb) (fun hS => ?_)
      clear hK K hb
      refine wpAnyH_ready (rs := [6]) (by kernel_rfl) (by simp) ?_
      refine AllReadyH.cons rfl (fun K hK => ?_) AllReadyH.nil
      rw [if_pos (by rfl)]
      go_simp
      refine Calls.mono (CH.out _ hS) ?_
      rintro e w3 ⟨rfl, hb⟩
      refine hK.out ({ tmps := #[.pointer (some ⟨B, 0, none⟩), .agg A, undef, .pointer (some ⟨gx, 0, none⟩), .bool false, .pointer (some ⟨B, 0, none⟩), .pointer (some ⟨B, 0, none⟩), .pointer (some ⟨B, 3, none⟩), .map (o 3), .agg A, .string sx, .bool false, undef, undef, undef, undef, undef, undef, undef, undef, undef], defers := [] }) w3 (Below.up hS hb) (fun hS => ?_)
      clear hK K hb
      refine takeA (i := 7) (v := .bool false) ({ tmps := #[.pointer (some ⟨B, 0, none⟩), .agg A, undef, .pointer (some ⟨gx, 0, none⟩), .bool false, .pointer (some ⟨B, 0, none⟩), .pointer (some ⟨B, 0, none⟩), .pointer (some ⟨B, 3, none⟩), .map (o 3), .agg A, .string sx, .bool false, .bool false, undef, undef, undef, undef, undef, undef, undef, undef], defers := [] }) rfl (by kernel_rfl) (by kernel_rfl) (by kernel_rfl) (fun _ _ _ h => h) (.inl ⟨rfl, fun _ _ => rfl⟩) hS rfl ?_
      refine takeA (i := 8) (v := .pointer (some ⟨B, 0, none⟩)) ({ tmps := #[.pointer (some ⟨B, 0, none⟩), .agg A, undef, .pointer (some ⟨gx, 0, none⟩), .bool false, .pointer (some ⟨B, 0, none⟩), .pointer (some ⟨B, 0, none⟩), .pointer (some ⟨B, 3, none⟩), .map (o 3), .agg A, .string sx, .bool false, .bool false, .pointer (some ⟨B, 0, none⟩), undef, undef, undef, undef, undef, undef, undef], defers := [] }) rfl (by kernel_rfl) (by kernel_rfl) (by kernel_rfl) (fun _ _ _ h => h) (.inl ⟨rfl, fun _ _ => rfl⟩) hS rfl ?_
      refine takeA (i := 9) (v := .pointer (some ⟨gx, 0, none⟩)) ({ tmps := #[.pointer (some ⟨B, 0, none⟩), .agg A, undef, .pointer (some ⟨gx, 0, none⟩), .bool false, .pointer (some ⟨B, 0, none⟩), .pointer (some ⟨B, 0, none⟩), .pointer (some ⟨B, 3, none⟩), .map (o 3), .agg A, .string sx, .bool false, .bool false, .pointer (some ⟨B, 0, none⟩), .pointer (some ⟨gx, 0, none⟩), undef, undef, undef, undef, undef, undef], defers := [] }) rfl (by kernel_rfl) (by kernel_rfl) (by kernel_rfl) (fun _ _ _ h => h) (.inl ⟨rfl, fun w' _ => by go_simp⟩) hS rfl ?_
      refine takeA (i := 10) (v := .int .u8 v.f) ({ tmps := #[.pointer (some ⟨B, 0, none⟩), .agg A, undef, .pointer (some ⟨gx, 0, none⟩), .bool false, .pointer (some ⟨B, 0, none⟩), .pointer (some ⟨B, 0, none⟩), .pointer (some ⟨B, 3, none⟩), .map (o 3), .agg A, .string sx, .bool false, .bool false, .pointer (some ⟨B, 0, none⟩), .pointer (some ⟨gx, 0, none⟩), .int .u8 v.f, undef, undef, undef, undef, undef], defers := [] }) rfl (by kernel_rfl) (by kernel_rfl) (by kernel_rfl) (fun _ _ _ h => h) (yi_load 5 (.tmp 14) _ rfl rfl rfl LF.out) hS rfl ?_
      refine takeA (i := 11) (v := .pointer (some ⟨gx, 1, none⟩)) ({ tmps := #[.pointer (some ⟨B, 0, none⟩), .agg A, undef, .pointer (some ⟨gx, 0, none⟩), .bool false, .pointer (some ⟨B, 0, none⟩), .pointer (some ⟨B, 0, none⟩), .pointer (some ⟨B, 3, none⟩), .map (o 3), .agg A, .string sx, .bool false, .bool false, .pointer (some ⟨B, 0, none⟩), .pointer (some ⟨gx, 0, none⟩), .int .u8 v.f, .pointer (some ⟨gx, 1, none⟩), undef, undef, undef, undef], defers := [] }) rfl (by kernel_rfl) (by kernel_rfl) (by kernel_rfl) (fun _ _ _ h => h) (.inl ⟨rfl, fun w' _ => by go_simp⟩) hS rfl ?_
      refine takeA (i := 12) (v := .int .u8 v.e) ({ tmps := #[.pointer (some ⟨B, 0, none⟩), .agg A, undef, .pointer (some ⟨gx, 0, none⟩), .bool false, .pointer (some ⟨B, 0, none⟩), .pointer (some ⟨B, 0, none⟩), .pointer (some ⟨B, 3, none⟩), .map (o 3), .agg A, .string sx, .bool false, .bool false, .pointer (some ⟨B, 0, none⟩), .pointer (some ⟨gx, 0, none⟩), .int .u8 v.f, .pointer (some ⟨gx, 1, none⟩), .int .u8 v.e, undef, undef, undef], defers := [] }) rfl (by kernel_rfl) (by kernel_rfl) (by kernel_rfl) (fun _ _ _ h => h) (yi_load 5 (.tmp 16) _ rfl rfl rfl LE.out) hS rfl ?_
      refine takeA (i := 13) (v := .agg #[.int .u8 v.f, .int .u8 v.e]) ({ tmps := #[.pointer (some ⟨B, 0, none⟩), .agg A, undef, .pointer (some ⟨gx, 0, none⟩), .bool false, .pointer (some ⟨B, 0, none⟩), .pointer (some ⟨B, 0, none⟩), .pointer (some ⟨B, 3, none⟩), .map (o 3), .agg A, .string sx, .bool false, .bool false, .pointer (some ⟨B, 0, none⟩), .pointer (some ⟨gx, 0, none⟩), .int .u8 v.f, .pointer (some ⟨gx, 1, none⟩), .int .u8 v.e, .agg #[.int .u8 v.f, .int .u8 v.e], undef, undef], defers := [] }) rfl (by kernel_rfl) (by kernel_rfl) (by kernel_rfl) (fun _ _ _ h => h) (.inl ⟨rfl, fun w' _ => by go_simp⟩) hS rfl ?_
      refine wpAnyH_ready (rs := [14]) (by kernel_rfl) (by simp) ?_
      refine AllReadyH.cons rfl (fun K hK => ?_) AllReadyH.nil
      rw [if_pos (by rfl)]
      go_simp
      refine Calls.mono (CK.out _ hS) ?_
      rintro e w4 ⟨rfl, hb⟩
      refine hK.out ({ tmps := #[.pointer (some ⟨B, 0, none⟩), .agg A, undef, .pointer (some ⟨gx, 0, none⟩), .bool false, .pointer (some ⟨B, 0, none⟩), .pointer (some ⟨B, 0, none⟩), .pointer (some ⟨B, 3, none⟩), .map (o 3), .agg A, .string sx, .bool false, .bool false, .pointer (some ⟨B, 0, none⟩), .pointer (some ⟨gx, 0, none⟩), .int .u8 v.f, .pointer (some ⟨gx, 1, none⟩), .int .u8 v.e, .agg #[.int .u8 v.f, .int .u8 v.e], .bool false, undef], defers := [] }) w4 (Below.up hS hb) (fun hS => ?_)
      clear hK K hb
      refine takeA (i := 15) (v := .bool false) ({ tmps := #[.pointer (some ⟨B, 0, none⟩), .agg A, undef, .pointer (some ⟨gx, 0, none⟩), .bool false, .pointer (some ⟨B, 0, none⟩), .pointer (some ⟨B, 0, none⟩), .pointer (some ⟨B, 3, none⟩), .map (o 3), .agg A, .string sx, .bool false, .bool false, .pointer (some ⟨B, 0, none⟩), .pointer (some ⟨gx, 0, none⟩), .int .u8 v.f, .pointer (some ⟨gx, 1, none⟩), .int .u8 v.e, .agg #[.int .u8 v.f, .int .u8 v.e], .bool false, .bool false], defers := [] }) rfl (by kernel_rfl) (by kernel_rfl) (by kernel_rfl) (fun _ _ _ h => h) (.inl ⟨rfl, fun _ _ => rfl⟩) hS rfl ?_
      refine takeA (i := 16) (v := .bool false) ({ tmps := #[.pointer (some ⟨B, 0, none⟩), .agg A, undef, .pointer (some ⟨gx, 0, none⟩), .bool false, .pointer (some ⟨B, 0, none⟩), .pointer (some ⟨B, 0, none⟩), .pointer (some ⟨B, 3, none⟩), .map (o 3), .agg A, .string sx, .bool false, .bool false, .pointer (some ⟨B, 0, none⟩), .pointer (some ⟨gx, 0, none⟩), .int .u8 v.f, .pointer (some ⟨gx, 1, none⟩), .int .u8 v.e, .agg #[.int .u8 v.f, .int .u8 v.e], .bool false, .bool false], defers := [] }) rfl (by kernel_rfl) (by kernel_rfl) (by kernel_rfl) (fun _ _ _ h => h) (.inl ⟨rfl, fun _ _ => rfl⟩) hS rfl ?_
      refine wpAnyH_done (by kernel_rfl) ?_ _
      go_wp2_with fail
      go_ret
      exact ⟨by rw [HR.out]; rfl, HBL.out.trans (hS.mono HBL.out.size)⟩
    · refine wp_region_held_drew (S := fun w' => Below W.heap.size W w') (by kernel_rfl) hW1.drew (fun hS => ?_)
      refine takeA (i := 0) (v := .pointer (some ⟨B, 0, none⟩)) ({ tmps := #[.pointer (some ⟨B, 0, none⟩), .agg A, undef, .pointer (some ⟨gx, 0, none⟩), .bool false, .pointer (some ⟨B, 0, none⟩), undef, undef, undef, undef, undef, undef, undef, undef, undef, undef, undef, undef, undef, undef, undef], defers := [] }) rfl (by kernel_rfl) (by kernel_rfl) (by kernel_rfl) (fun _ _ _ h => h) (.inl ⟨rfl, fun _ _ => rfl⟩) hS rfl ?_
      refine takeA (i := 1) (v := .pointer (some ⟨B, 0, none⟩)) ({ tmps := #[.pointer (some ⟨B, 0, none⟩), .agg A, undef, .pointer (some ⟨gx, 0, none⟩), .bool false, .pointer (some ⟨B, 0, none⟩), .pointer (some ⟨B, 0, none⟩), undef, undef, undef, undef, undef, undef, undef, undef, undef, undef, undef, undef, undef, undef], defers := [] }) rfl (by kernel_rfl) (by kernel_rfl) (by kernel_rfl) (fun _ _ _ h => h) (.inl ⟨rfl, fun w' _ => by go_simp⟩) hS rfl ?_
      refine takeA (i := 2) (v := .pointer (some ⟨B, 3, none⟩)) ({ tmps := #[.pointer (some ⟨B, 0, none⟩), .agg A, undef, .pointer (some ⟨gx, 0, none⟩), .bool false, .pointer (some ⟨B, 0, none⟩), .pointer (some ⟨B, 0, none⟩), .pointer (some ⟨B, 3, none⟩), undef, undef, undef, undef, undef, undef, undef, undef, undef, undef, undef, undef, undef], defers := [] }) rfl (by kernel_rfl) (by kernel_rfl) (by kernel_rfl) (fun _ _ _ h => h) (.inl ⟨rfl, fun w' _ => by go_simp⟩) hS rfl ?_
      refine takeA (i := 3) (v := .map (o 3)) ({ tmps := #[.pointer (some ⟨B, 0, none⟩), .agg A, undef, .pointer (some ⟨gx, 0, none⟩), .bool false, .pointer (some ⟨B, 0, none⟩), .pointer (some ⟨B, 0, none⟩), .pointer (some ⟨B, 3, none⟩), .map (o 3), undef, undef, undef, undef, undef, undef, undef, undef, undef, undef, undef, undef], defers := [] }) rfl (by kernel_rfl) (by kernel_rfl) (by kernel_rfl) (fun _ _ _ h => h) (yi_load 105 (.tmp 7) _ rfl rfl rfl LM.out) hS rfl ?_
      refine takeA (i := 4) (v := .agg A) ({ tmps := #[.pointer (some ⟨B, 0, none⟩), .agg A, undef, .pointer (some ⟨gx, 0, none⟩), .bool false, .pointer (some ⟨B, 0, none⟩), .pointer (some ⟨B, 0, none⟩), .pointer (some ⟨B, 3, none⟩), .map (o 3), .agg A, undef, undef, undef, undef, undef, undef, undef, undef, undef, undef, undef], defers := [] }) rfl (by kernel_rfl) (by kernel_rfl) (by kernel_rfl) (fun _ _ _ h => h) (yi_load 32 (.tmp 3) _ rfl rfl rfl LB.out) hS rfl ?_
      refine wpAnyH_ready (rs := [5]) (by kernel_rfl) (by simp) ?_
      refine AllReadyH.cons rfl (fun K hK => ?_) AllReadyH.nil
      rw [if_pos (by rfl)]
      go_simp
      refine Calls.mono (CB.out _ hS) ?_
      rintro e w2 ⟨rfl, hb⟩
      refine hK.out ({ tmps := #[.pointer (some ⟨B, 0, none⟩), .agg A, undef, .pointer (some ⟨gx, 0, none⟩), .bool false, .pointer (some ⟨B, 0, none⟩), .pointer (some ⟨B, 0, none⟩), .pointer (some ⟨B, 3, none⟩), .map (o 3), .agg A, .string sx, undef, undef, undef, undef, undef, undef, undef, undef, undef, undef], defers := [] }) w2 (Below.up hS hb) (fun hS => ?_)
      clear hK K hb
      refine wpAnyH_ready (rs := [6]) (by kernel_rfl) (by simp) ?_
      refine AllReadyH.cons rfl (fun K hK => ?_) AllReadyH.nil
      rw [if_pos (by rfl)]
      go_simp
      refine Calls.mono (CH.out _ hS) ?_
      rintro e w3 ⟨rfl, hb⟩
      refine hK.out ({ tmps := #[.pointer (some ⟨B, 0, none⟩), .agg A, undef, .pointer (some ⟨gx, 0, none⟩), .bool false, .pointer (some ⟨B, 0, none⟩), .pointer (some ⟨B, 0, none⟩), .pointer (some ⟨B, 3, none⟩), .map (o 3), .agg A, .string sx, .bool false, undef, undef, undef, undef, undef, undef, undef, undef, undef], defers := [] }) w3 (Below.up hS hb) (fun hS => ?_)
      clear hK K hb
      refine takeA (i := 7) (v := .bool false) ({ tmps := #[.pointer (some ⟨B, 0, none⟩), .agg A, undef, .pointer (some ⟨gx, 0, none⟩), .bool false, .pointer (some ⟨B, 0, none⟩), .pointer (some ⟨B, 0, none⟩), .pointer (some ⟨B, 3, none⟩), .map (o 3), .agg A, .string sx, .bool false, .bool false, undef, undef, undef, undef, undef, undef, undef, undef], defers := [] }) rfl (by kernel_rfl) (by kernel_rfl) (by kernel_rfl) (fun _ _ _ h => h) (.inl ⟨rfl, fun _ _ => rfl⟩) hS rfl ?_
      refine takeA (i := 8) (v := .pointer (some ⟨B, 0, none⟩)) ({ tmps := #[.pointer (some ⟨B, 0, none⟩), .agg A, undef, .pointer (some ⟨gx, 0, none⟩), .bool false, .pointer (some ⟨B, 0, none⟩), .pointer (some ⟨B, 0, none⟩), .pointer (some ⟨B, 3, none⟩), .map (o 3), .agg A, .string sx, .bool false, .bool false, .pointer (some ⟨B, 0, none⟩), undef, undef, undef, undef, undef, undef, undef], defers := [] }) rfl (by kernel_rfl) (by kernel_rfl) (by kernel_rfl) (fun _ _ _ h => h) (.inl ⟨rfl, fun _ _ => rfl⟩) hS rfl ?_
      refine takeA (i := 9) (v := .pointer (some ⟨gx, 0, none⟩)) ({ tmps := #[.pointer (some ⟨B, 0, none⟩), .agg A, undef, .pointer (some ⟨gx, 0, none⟩), .bool false, .pointer (some ⟨B, 0, none⟩), .pointer (some ⟨B, 0, none⟩), .pointer (some ⟨B, 3, none⟩), .map (o 3), .agg A, .string sx, .bool false, .bool false, .pointer (some ⟨B, 0, none⟩), .pointer (some ⟨gx, 0, none⟩), undef, undef, undef, undef, undef, undef], defers := [] }) rfl (by kernel_rfl) (by kernel_rfl) (by kernel_rfl) (fun _ _ _ h => h) (.inl ⟨rfl, fun w' _ => by go_simp⟩) hS rfl ?_
      refine takeA (i := 10) (v := .int .u8 v.f) ({ tmps := #[.pointer (some ⟨B, 0, none⟩), .agg A, undef, .pointer (some ⟨gx, 0, none⟩), .bool false, .pointer (some ⟨B, 0, none⟩), .pointer (some ⟨B, 0, none⟩), .pointer (some ⟨B, 3, none⟩), .map (o 3), .agg A, .string sx, .bool false, .bool false, .pointer (some ⟨B, 0, none⟩), .pointer (some ⟨gx, 0, none⟩), .int .u8 v.f, undef, undef, undef, undef, undef], defers := [] }) rfl (by kernel_rfl) (by kernel_rfl) (by kernel_rfl) (fun _ _ _ h => h) (yi_load 5 (.tmp 14) _ rfl rfl rfl LF.out) hS rfl ?_
      refine takeA (i := 11) (v := .pointer (some ⟨gx, 1, none⟩)) ({ tmps := #[.pointer (some ⟨B, 0, none⟩), .agg A, undef, .pointer (some ⟨gx, 0, none⟩), .bool false, .pointer (some ⟨B, 0, none⟩), .pointer (some ⟨B, 0, none⟩), .pointer (some ⟨B, 3, none⟩), .map (o 3), .agg A, .string sx, .bool false, .bool false, .pointer (some ⟨B, 0, none⟩), .pointer (some ⟨gx, 0, none⟩), .int .u8 v.f, .pointer (some ⟨gx, 1, none⟩), undef, undef, undef, undef], defers := [] }) rfl (by kernel_rfl) (by kernel_rfl) (by kernel_rfl) (fun _ _ _ h => h) (.inl ⟨rfl, fun w' _ => by go_simp⟩) hS rfl ?_
      refine takeA (i := 12) (v := .int .u8 v.e) ({ tmps := #[.pointer (some ⟨B, 0, none⟩), .agg A, undef, .pointer (some ⟨gx, 0, none⟩), .bool false, .pointer (some ⟨B, 0, none⟩), .pointer (some ⟨B, 0, none⟩), .pointer (some ⟨B, 3, none⟩), .map (o 3), .agg A, .string sx, .bool false, .bool false, .pointer (some ⟨B, 0, none⟩), .pointer (some ⟨gx, 0, none⟩), .int .u8 v.f, .pointer (some ⟨gx, 1, none⟩), .int .u8 v.e, undef, undef, undef], defers := [] }) rfl (by kernel_rfl) (by kernel_rfl) (by kernel_rfl) (fun _ _ _ h => h) (yi_load 5 (.tmp 16) _ rfl rfl rfl LE.out) hS rfl ?_
      refine takeA (i := 13) (v := .agg #[.int .u8 v.f, .int .u8 v.e]) ({ tmps := #[.pointer (some ⟨B, 0, none⟩), .agg A, undef, .pointer (some ⟨gx, 0, none⟩), .bool false, .pointer (some ⟨B, 0, none⟩), .pointer (some ⟨B, 0, none⟩), .pointer (some ⟨B, 3, none⟩), .map (o 3), .agg A, .string sx, .bool false, .bool false, .pointer (some ⟨B, 0, none⟩), .pointer (some ⟨gx, 0, none⟩), .int .u8 v.f, .pointer (some ⟨gx, 1, none⟩), .int .u8 v.e, .agg #[.int .u8 v.f, .int .u8 v.e], undef, undef], defers := [] }) rfl (by kernel_rfl) (by kernel_rfl) (by kernel_rfl) (fun _ _ _ h => h) (.inl ⟨rfl, fun w' _ => by go_simp⟩) hS rfl ?_
      refine wpAnyH_ready (rs := [14]) (by kernel_rfl) (by simp) ?_
      refine AllReadyH.cons rfl (fun K hK => ?_) AllReadyH.nil
      rw [if_pos (by rfl)]
      go_simp
      refine Calls.mono (CK.out _ hS) ?_
      rintro e w4 ⟨rfl, hb⟩
      refine hK.out ({ tmps := #[.pointer (some ⟨B, 0, none⟩), .agg A, undef, .pointer (some ⟨gx, 0, none⟩), .bool false, .pointer (some ⟨B, 0, none⟩), .pointer (some ⟨B, 0, none⟩), .pointer (some ⟨B, 3, none⟩), .map (o 3), .agg A, .string sx, .bool false, .bool false, .pointer (some ⟨B, 0, none⟩), .pointer (some ⟨gx, 0, none⟩), .int .u8 v.f, .pointer (some ⟨gx, 1, none⟩), .int .u8 v.e, .agg #[.int .u8 v.f, .int .u8 v.e], .bool true, undef], defers := [] }) w4 (Below.up hS hb) (fun hS => ?_)
      clear hK K hb
      refine takeA (i := 15) (v := .bool true) ({ tmps := #[.pointer (some ⟨B, 0, none⟩), .agg A, undef, .pointer (some ⟨gx, 0, none⟩), .bool false, .pointer (some ⟨B, 0, none⟩), .pointer (some ⟨B, 0, none⟩), .pointer (some ⟨B, 3, none⟩), .map (o 3), .agg A, .string sx, .bool false, .bool false, .pointer (some ⟨B, 0, none⟩), .pointer (some ⟨gx, 0, none⟩), .int .u8 v.f, .pointer (some ⟨gx, 1, none⟩), .int .u8 v.e, .agg #[.int .u8 v.f, .int .u8 v.e], .bool true, .bool true], defers := [] }) rfl (by kernel_rfl) (by kernel_rfl) (by kernel_rfl) (fun _ _ _ h => h) (.inl ⟨rfl, fun _ _ => rfl⟩) hS rfl ?_
      refine takeA (i := 16) (v := .bool true) ({ tmps := #[.pointer (some ⟨B, 0, none⟩), .agg A, undef, .pointer (some ⟨gx, 0, none⟩), .bool true, .pointer (some ⟨B, 0, none⟩), .pointer (some ⟨B, 0, none⟩), .pointer (some ⟨B, 3, none⟩), .map (o 3), .agg A, .string sx, .bool false, .bool false, .pointer (some ⟨B, 0, none⟩), .pointer (some ⟨gx, 0, none⟩), .int .u8 v.f, .pointer (some ⟨gx, 1, none⟩), .int .u8 v.e, .agg #[.int .u8 v.f, .int .u8 v.e], .bool true, .bool true], defers := [] }) rfl (by kernel_rfl) (by kernel_rfl) (by kernel_rfl) (fun _ _ _ h => h) (.inl ⟨rfl, fun _ _ => rfl⟩) hS rfl ?_
      refine wpAnyH_done (by kernel_rfl) ?_ _
      go_wp2_with fail
      go_ret
      exact ⟨by rw [HR.out]; rfl, HBL.out.trans (hS.mono HBL.out.size)⟩
  · refine wp_region_held_drew (S := fun w' => Below W.heap.size W w') (by kernel_rfl) hW1.drew (fun hS => ?_)
    refine takeA (i := 0) (v := .pointer (some ⟨B, 0, none⟩)) ({ tmps := #[.pointer (some ⟨B, 0, none⟩), .agg A, undef, .pointer (some ⟨gx, 0, none⟩), .bool false, .pointer (some ⟨B, 0, none⟩), undef, undef, undef, undef, undef, undef, undef, undef, undef, undef, undef, undef, undef, undef, undef], defers := [] }) rfl (by kernel_rfl) (by kernel_rfl) (by kernel_rfl) (fun _ _ _ h => h) (.inl ⟨rfl, fun _ _ => rfl⟩) hS rfl ?_
    refine takeA (i := 1) (v := .pointer (some ⟨B, 0, none⟩)) ({ tmps := #[.pointer (some ⟨B, 0, none⟩), .agg A, undef, .pointer (some ⟨gx, 0, none⟩), .bool false, .pointer (some ⟨B, 0, none⟩), .pointer (some ⟨B, 0, none⟩), undef, undef, undef, undef, undef, undef, undef, undef, undef, undef, undef, undef, undef, undef], defers := [] }) rfl (by kernel_rfl) (by kernel_rfl) (by kernel_rfl) (fun _ _ _ h => h) (.inl ⟨rfl, fun w' _ => by go_simp⟩) hS rfl ?_
    refine takeA (i := 2) (v := .pointer (some ⟨B, 3, none⟩)) ({ tmps := #[.pointer (some ⟨B, 0, none⟩), .agg A, undef, .pointer (some ⟨gx, 0, none⟩), .bool false, .pointer (some ⟨B, 0, none⟩), .pointer (some ⟨B, 0, none⟩), .pointer (some ⟨B, 3, none⟩), undef, undef, undef, undef, undef, undef, undef, undef, undef, undef, undef, undef, undef], defers := [] }) rfl (by kernel_rfl) (by kernel_rfl) (by kernel_rfl) (fun _ _ _ h => h) (.inl ⟨rfl, fun w' _ => by go_simp⟩) hS rfl ?_
    refine takeA (i := 3) (v := .map (o 3)) ({ tmps := #[.pointer (some ⟨B, 0, none⟩), .agg A, undef, .pointer (some ⟨gx, 0, none⟩), .bool false, .pointer (some ⟨B, 0, none⟩), .pointer (some ⟨B, 0, none⟩), .pointer (some ⟨B, 3, none⟩), .map (o 3), undef, undef, undef, undef, undef, undef, undef, undef, undef, undef, undef, undef], defers := [] }) rfl (by kernel_rfl) (by kernel_rfl) (by kernel_rfl) (fun _ _ _ h => h) (yi_load 105 (.tmp 7) _ rfl rfl rfl LM.out) hS rfl ?_
    refine takeA (i := 4) (v := .agg A) ({ tmps := #[.pointer (some ⟨B, 0, none⟩), .agg A, undef, .pointer (some ⟨gx, 0, none⟩), .bool false, .pointer (some ⟨B, 0, none⟩), .pointer (some ⟨B, 0, none⟩), .pointer (some ⟨B, 3, none⟩), .map (o 3), .agg A, undef, undef, undef, undef, undef, undef, undef, undef, undef, undef, undef], defers := [] }) rfl (by kernel_rfl) (by kernel_rfl) (by kernel_rfl) (fun _ _ _ h => h) (yi_load 32 (.tmp 3) _ rfl rfl rfl LB.out) hS rfl ?_
    refine wpAnyH_ready (rs := [5]) (by kernel_rfl) (by simp) ?_
    refine AllReadyH.cons rfl (fun K hK => ?_) AllReadyH.nil
    rw [if_pos (by rfl)]
    go_simp
    refine Calls.mono (CB.out _ hS) ?_
    rintro e w2 ⟨rfl, hb⟩
    refine hK.out ({ tmps := #[.pointer (some ⟨B, 0, none⟩), .agg A, undef, .pointer (some ⟨gx, 0, none⟩), .bool false, .pointer (some ⟨B, 0, none⟩), .pointer (some ⟨B, 0, none⟩), .pointer (some ⟨B, 3, none⟩), .map (o 3), .agg A, .string sx, undef, undef, undef, undef, undef, undef, undef, undef, undef, undef], defers := [] }) w2 (Below.up hS hb) (fun hS => ?_)
    clear hK K hb
    refine wpAnyH_ready (rs := [6]) (by kernel_rfl) (by simp) ?_
    refine AllReadyH.cons rfl (fun K hK => ?_) AllReadyH.nil
    rw [if_pos (by rfl)]
    go_simp
    refine Calls.mono (CH.out _ hS) ?_
    rintro e w3 ⟨rfl, hb⟩
    refine hK.out ({ tmps := #[.pointer (some ⟨B, 0, none⟩), .agg A, undef, .pointer (some ⟨gx, 0, none⟩), .bool false, .pointer (some ⟨B, 0, none⟩), .pointer (some ⟨B, 0, none⟩), .pointer (some ⟨B, 3, none⟩), .map (o 3), .agg A, .string sx, .bool true, undef, undef, undef, undef, undef, undef, undef, undef, undef], defers := [] }) w3 (Below.up hS hb) (fun hS => ?_)
    clear hK K hb
    refine takeA (i := 7) (v := .bool true) ({ tmps := #[.pointer (some ⟨B, 0, none⟩), .agg A, undef, .pointer (some ⟨gx, 0, none⟩), .bool false, .pointer (some ⟨B, 0, none⟩), .pointer (some ⟨B, 0, none⟩), .pointer (some ⟨B, 3, none⟩), .map (o 3), .agg A, .string sx, .bool true, .bool true, undef, undef, undef, undef, undef, undef, undef, undef], defers := [] }) rfl (by kernel_rfl) (by kernel_rfl) (by kernel_rfl) (fun _ _ _ h => h) (.inl ⟨rfl, fun _ _ => rfl⟩) hS rfl ?_
    refine takeA (i := 8) (v := undef) ({ tmps := #[.pointer (some ⟨B, 0, none⟩), .agg A, undef, .pointer (some ⟨gx, 0, none⟩), .bool false, .pointer (some ⟨B, 0, none⟩), .pointer (some ⟨B, 0, none⟩), .pointer (some ⟨B, 3, none⟩), .map (o 3), .agg A, .string sx, .bool true, .bool true, undef, undef, undef, undef, undef, undef, undef, undef], defers := [] }) rfl (by kernel_rfl) (by kernel_rfl) (by kernel_rfl) (fun _ _ _ h => h) (.inr ⟨rfl, rfl⟩) hS rfl ?_
    refine takeA (i := 9) (v := undef) ({ tmps := #[.pointer (some ⟨B, 0, none⟩), .agg A, undef, .pointer (some ⟨gx, 0, none⟩), .bool false, .pointer (some ⟨B, 0, none⟩), .pointer (some ⟨B, 0, none⟩), .pointer (some ⟨B, 3, none⟩), .map (o 3), .agg A, .string sx, .bool true, .bool true, undef, undef, undef, undef, undef, undef, undef, undef], defers := [] }) rfl (by kernel_rfl) (by kernel_rfl) (by kernel_rfl) (fun _ _ _ h => h) (.inr ⟨rfl, rfl⟩) hS rfl ?_
    refine takeA (i := 10) (v := undef) ({ tmps := #[.pointer (some ⟨B, 0, none⟩), .agg A, undef, .pointer (some ⟨gx, 0, none⟩), .bool false, .pointer (some ⟨B, 0, none⟩), .pointer (some ⟨B, 0, none⟩), .pointer (some ⟨B, 3, none⟩), .map (o 3), .agg A, .string sx, .bool true, .bool true, undef, undef, undef, undef, undef, undef, undef, undef], defers := [] }) rfl (by kernel_rfl) (by kernel_rfl) (by kernel_rfl) (fun _ _ _ h => h) (.inr ⟨rfl, rfl⟩) hS rfl ?_
    refine takeA (i := 11) (v := undef) ({ tmps := #[.pointer (some ⟨B, 0, none⟩), .agg A, undef, .pointer (some ⟨gx, 0, none⟩), .bool false, .pointer (some ⟨B, 0, none⟩), .pointer (some ⟨B, 0, none⟩), .pointer (some ⟨B, 3, none⟩), .map (o 3), .agg A, .string sx, .bool true, .bool true, undef, undef, undef, undef, undef, undef, undef, undef], defers := [] }) rfl (by kernel_rfl) (by kernel_rfl) (by kernel_rfl) (fun _ _ _ h => h) (.inr ⟨rfl, rfl⟩) hS rfl ?_
    refine takeA (i := 12) (v := undef) ({ tmps := #[.pointer (some ⟨B, 0, none⟩), .agg A, undef, .pointer (some ⟨gx, 0, none⟩), .bool false, .pointer (some ⟨B, 0, none⟩), .pointer (some ⟨B, 0, none⟩), .pointer (some ⟨B, 3, none⟩), .map (o 3), .agg A, .string sx, .bool true, .bool true, undef, undef, undef, undef, undef, undef, undef, undef], defers := [] }) rfl (by kernel_rfl) (by kernel_rfl) (by kernel_rfl) (fun _ _ _ h => h) (.inr ⟨rfl, rfl⟩) hS rfl ?_
    refine takeA (i := 13) (v := undef) ({ tmps := #[.pointer (some ⟨B, 0, none⟩), .agg A, undef, .pointer (some ⟨gx, 0, none⟩), .bool false, .pointer (some ⟨B, 0, none⟩), .pointer (some ⟨B, 0, none⟩), .pointer (some ⟨B, 3, none⟩), .map (o 3), .agg A, .string sx, .bool true, .bool true, undef, undef, undef, undef, undef, undef, undef, undef], defers := [] }) rfl (by kernel_rfl) (by kernel_rfl) (by kernel_rfl) (fun _ _ _ h => h) (.inr ⟨rfl, rfl⟩) hS rfl ?_
    refine takeA (i := 14) (v := undef) ({ tmps := #[.pointer (some ⟨B, 0, none⟩), .agg A, undef, .pointer (some ⟨gx, 0, none⟩), .bool false, .pointer (some ⟨B, 0, none⟩), .pointer (some ⟨B, 0, none⟩), .pointer (some ⟨B, 3, none⟩), .map (o 3), .agg A, .string sx, .bool true, .bool true, undef, undef, undef, undef, undef, undef, undef, undef], defers := [] }) rfl (by kernel_rfl) (by kernel_rfl) (by kernel_rfl) (fun _ _ _ h => h) (.inr ⟨rfl, rfl⟩) hS rfl ?_
    refine takeA (i := 15) (v := .bool true) ({ tmps := #[.pointer (some ⟨B, 0, none⟩), .agg A, undef, .pointer (some ⟨gx, 0, none⟩), .bool false, .pointer (some ⟨B, 0, none⟩), .pointer (some ⟨B, 0, none⟩), .pointer (some ⟨B, 3, none⟩), .map (o 3), .agg A, .string sx, .bool true, .bool true, undef, undef, undef, undef, undef, undef, undef, .bool true], defers := [] }) rfl (by kernel_rfl) (by kernel_rfl) (by kernel_rfl) (fun _ _ _ h => h) (.inl ⟨rfl, fun _ _ => rfl⟩) hS rfl ?_
    refine takeA (i := 16) (v := .bool true) ({ tmps := #[.pointer (some ⟨B, 0, none⟩), .agg A, undef, .pointer (some ⟨gx, 0, none⟩), .bool true, .pointer (some ⟨B, 0, none⟩), .pointer (some ⟨B, 0, none⟩), .pointer (some ⟨B, 3, none⟩), .map (o 3), .agg A, .string sx, .bool true, .bool true, undef, undef, undef, undef, undef, undef, undef, .bool true], defers := [] }) rfl (by kernel_rfl) (by kernel_rfl) (by kernel_rfl) (fun _ _ _ h => h) (.inl ⟨rfl, fun _ _ => rfl⟩) hS rfl ?_
    refine wpAnyH_done (by kernel_rfl) ?_ _
    go_wp2_with fail
    go_ret
    exact ⟨by rw [HR.out]; rfl, HBL.out.trans (hS.mono HBL.out.size)⟩

set_option maxHeartbeats 4000000 in
theorem fill93 (H : Nat) (w : World) (B cb : Nat) (S : Kn) (h : Kw H w B S) (hc : w.cell? ⟨cb, 0, none⟩ = some (.pointer (some ⟨B, 0, none⟩))) (v : Vt) (c : Vc) (hv : VtAt w v c) (hok : VcOk c) (ht : Tab w) (hky : Ky.ok ⟨v.f, v.e⟩) : Calls Tryd.prog 93 #[.agg v.cells.toArray, .pointer (some ⟨cb, 0, none⟩)] w fun e w' => e = .returned (.bool (!castB S v c)) ∧ Below w.heap.size w w' := by
  obtain ⟨W, hW⟩ : ∃ W, W = w.alloc (.cells v.cells.toArray 32) := ⟨_, rfl⟩
  have hbl : Below w.heap.size w W := by rw [hW]; exact (Below.refl _ _).alloc (Nat.le_refl _) _
  have hn : W.heap[w.heap.size]? = some (.cells v.cells.toArray 32 (0, 0)) := by rw [hW]; exact heap_alloc_new _ _
  have qc := (hbl.cell (cell_block hc)).trans hc
  have HLV := Lib.hid (vt_load0 hn)
  have C := Lib.hid (canCast94 H W B S (h.on hbl) v c (hv.below hbl) hok (Tab.on ht hbl) hky)
  generalize castB S v c = kb at *
  have HBL := Lib.hid hbl
  have HW := Lib.hid hW
  clear hW hn hbl h hc hv hok ht hky
  simp only [Vt.cells] at HW ⊢
  go_enter Tryd.func93, Tryd.ntmps93
  go_upto_region 1 with fail
  rw [← HW.out]
  have eA : (#[.int .u8 v.f, .int .u8 v.e, .int .u32 v.vw, .int .u32 v.lo, .slice v.ms.a v.ms.n v.ms.c, .slice v.p.a v.p.n v.p.c, .slice v.q.a v.q.n v.q.c] : Array Value) = v.cells.toArray := rfl
  rw [eA]
  clear eA HW
  generalize v.cells.toArray = A at *
  refine wp_region_lit ?_
  refine wpl_val (v := .pointer (some ⟨B, 0, none⟩)) (w1 := W) rfl (by go_simp) _ rfl ?_
  refine wpl_val (v := .agg A) (w1 := W) rfl (exec_load 32 (.tmp 2) rfl rfl HLV.out) _ rfl ?_
  go_wp2_with fail
  refine Calls.mono C.out ?_
  rintro e w1 ⟨rfl, hb⟩
  have HB := Lib.hid (HBL.out.trans (hb.mono HBL.out.size))
  clear hb
  go_wp2_with fail
  go_ret
  exact ⟨rfl, HB.out⟩
end Go.Proofs.YtigpfaecbmnklaaDoor
