/- Entries: whether one is one; which of two stands above. -/
import Derived.Test.YtmkeckablkccnaaDoorLists
import Derived.Test.YtmkeckablkccnaaDoorSame
import Derived.Laws.Cover1
namespace Go.Proofs.YtmkeckablkccnaaDoor
open Go.RowKit
set_option maxRecDepth 100000

def enOk (x : En) : Bool := isPl x.s && (isVw x.v && x.rq.is)
def enAb (x y : En) : Bool := decide (y.s < x.s)
/-- a text stands behind another -/
def textGt (a b : Rq) : Bool := !(Op.bytesLess (⟨a.text.toArray⟩ : ByteArray).toList (⟨b.text.toArray⟩ : ByteArray).toList || (⟨a.text.toArray⟩ : ByteArray).toList == (⟨b.text.toArray⟩ : ByteArray).toList)
def enAt (x y : En) : Bool := if x.s = y.s then textGt x.rq y.rq else decide (y.s < x.s)

set_option maxHeartbeats 1000000 in
theorem isEntry_any (x : En) (w : World) : Calls Tryd.prog 130 #[.agg x.cells.toArray] w fun e w' => e = .returned (.bool (enOk x)) ∧ Below w.heap.size w w' := by
  obtain ⟨r, hr⟩ : ∃ r, r = enOk x := ⟨_, rfl⟩
  rw [← hr]
  unfold enOk at hr
  have C1 := Lib.hid (isPlace_any x.s)
  have C2 := Lib.hid (isView_any x.v)
  have C3 := Lib.hid (isReq_any x.rq)
  generalize isPl x.s = b1 at C1 hr
  generalize isVw x.v = b2 at C2 hr
  generalize x.rq.is = b3 at C3 hr
  have HR := Lib.hid hr
  clear hr
  simp only [Rq.cells] at C3
  obtain ⟨W, hW⟩ : ∃ W, W = w.alloc (.cells x.cells.toArray 130) := ⟨_, rfl⟩
  have HBL := Lib.hid (show Below w.heap.size w W by rw [hW]; exact (Below.refl _ _).alloc (Nat.le_refl _) _)
  have q0 : W.cell? ⟨w.heap.size, 0, none⟩ = some (.int .u32 x.s) := by rw [hW]; simp [En.cells]
  have q1 : W.cell? ⟨w.heap.size, 1, none⟩ = some (.int .u32 x.v) := by rw [hW]; simp [En.cells]
  have q2 : W.cell? ⟨w.heap.size, 2, none⟩ = some (.int .u8 x.rq.c) := by rw [hW]; simp [En.cells]
  have q3 : W.cell? ⟨w.heap.size, 3, none⟩ = some (.int .u32 x.rq.t) := by rw [hW]; simp [En.cells]
  have q4 : W.cell? ⟨w.heap.size, 4, none⟩ = some (.int .u8 x.rq.k) := by rw [hW]; simp [En.cells]
  have q5 : W.cell? ⟨w.heap.size, 5, none⟩ = some (.int .u8 x.rq.y) := by rw [hW]; simp [En.cells]
  have q6 : W.cell? ⟨w.heap.size, 6, none⟩ = some (.int .u16 x.rq.v) := by rw [hW]; simp [En.cells]
  have HW := Lib.hid hW
  clear hW
  simp only [En.cells] at HW ⊢
  go_enter Tryd.func130, Tryd.ntmps130
  go_upto_region 1 with fail
  rw [← HW.out]
  clear HW
  go_wp2_with fail
  refine Calls.mono (C1.out _) ?_
  rintro e w' ⟨rfl, rfl⟩
  cases b1
  · go_wp2_with fail
    go_ret
    exact ⟨by rw [HR.out]; rfl, HBL.out⟩
  · go_wp2_with fail
    refine Calls.mono (C2.out _) ?_
    rintro e w' ⟨rfl, rfl⟩
    cases b2
    · go_wp2_with fail
      go_ret
      exact ⟨by rw [HR.out]; rfl, HBL.out⟩
    · go_wp2_with fail
      refine Calls.mono (C3.out _) ?_
      rintro e w' ⟨rfl, hb⟩
      have HB := Lib.hid (HBL.out.trans (hb.mono HBL.out.size))
      clear hb
      go_wp2_with fail
      go_ret
      exact ⟨by rw [HR.out]; rfl, HB.out⟩

theorem bySeq_any (x y : En) (w : World) : Calls Tryd.prog 113 #[.agg x.cells.toArray, .agg y.cells.toArray] w fun e w' => e = .returned (.bool (enAb x y)) ∧ Below w.heap.size w w' := by
  obtain ⟨r, hr⟩ : ∃ r, r = enAb x y := ⟨_, rfl⟩
  rw [← hr]
  unfold enAb at hr
  have HR := Lib.hid hr
  clear hr
  simp only [En.cells]
  by_cases h : x.s > y.s <;>
  · have H := Lib.hid h
    go_enter Tryd.func113, Tryd.ntmps113
    go_wp2
    go_ret
    refine ⟨?_, ((Below.refl _ _).alloc (Nat.le_refl _) _).alloc (by simp) _⟩
    rw [HR.out]; have := H.out; simp; omega

theorem rq_load {w' : World} {g : Nat} {x : En} (h : w'.heap[g]? = some (.cells x.cells.toArray 130 (0, 0))) : (Instr.loadAt 27 (.pointer (some ⟨g, 2, none⟩))).run Tryd.prog w' = .ok (.agg x.rq.cells.toArray) w' := by
  have q2 : w'.cell? ⟨g, 2, none⟩ = some (.int .u8 x.rq.c) := by rw [cell_of_row _ _ _ _ _ _ h]; rfl
  have q3 : w'.cell? ⟨g, 3, none⟩ = some (.int .u32 x.rq.t) := by rw [cell_of_row _ _ _ _ _ _ h]; rfl
  have q4 : w'.cell? ⟨g, 4, none⟩ = some (.int .u8 x.rq.k) := by rw [cell_of_row _ _ _ _ _ _ h]; rfl
  have q5 : w'.cell? ⟨g, 5, none⟩ = some (.int .u8 x.rq.y) := by rw [cell_of_row _ _ _ _ _ _ h]; rfl
  have q6 : w'.cell? ⟨g, 6, none⟩ = some (.int .u16 x.rq.v) := by rw [cell_of_row _ _ _ _ _ _ h]; rfl
  have u5 := Tryd.underlying5; have a5 := Tryd.isAgg5; have z5 := Tryd.sizeOf5
  simp only [Rq.cells]
  have a27 := Tryd.isAgg27; have z27 := Tryd.sizeOf27; have u27 := Tryd.underlying27
  go_simp

set_option maxHeartbeats 4000000 in
theorem bySeqAndText_any (x y : En) (hx : x.rq.ok) (hy : y.rq.ok) (w : World) (ht : Tab w) : Calls Tryd.prog 114 #[.agg x.cells.toArray, .agg y.cells.toArray] w fun e w' => e = .returned (.bool (enAt x y)) ∧ Below w.heap.size w w' := by
  obtain ⟨r, hr⟩ : ∃ r, r = enAt x y := ⟨_, rfl⟩
  rw [← hr]
  unfold enAt at hr
  obtain ⟨W, hW⟩ : ∃ W, W = (w.alloc (.cells x.cells.toArray 130)).alloc (.cells y.cells.toArray 130) := ⟨_, rfl⟩
  have hWs : W.heap.size = w.heap.size + 2 := by rw [hW]; simp
  have hWb : Below w.heap.size w W := by rw [hW]; exact ((Below.refl _ _).alloc (Nat.le_refl _) _).alloc (by simp) _
  have fa : ∀ w', Below W.heap.size W w' → w'.heap[w.heap.size]? = some (.cells x.cells.toArray 130 (0, 0)) := fun w' h => by rw [h.block w.heap.size (by omega), hW]; exact heap_alloc2_old _ _ _
  have fb : ∀ w', Below W.heap.size W w' → w'.heap[w.heap.size + 1]? = some (.cells y.cells.toArray 130 (0, 0)) := fun w' h => by rw [h.block (w.heap.size + 1) (by omega), hW]; exact heap_alloc2_new _ _ _
  have q0 : W.cell? ⟨w.heap.size, 0, none⟩ = some (.int .u32 x.s) := by rw [cell_of_row _ _ _ _ _ _ (fa W (Below.refl _ _))]; rfl
  have q1 : W.cell? ⟨w.heap.size + 1, 0, none⟩ = some (.int .u32 y.s) := by rw [cell_of_row _ _ _ _ _ _ (fb W (Below.refl _ _))]; rfl
  have hT := Tab.on ht hWb
  have LA := Lib.hid (fun w' h => rq_load (fa w' h))
  have LB := Lib.hid (fun w' h => rq_load (fb w' h))
  have CA := Lib.hid (fun w' (h : Below W.heap.size W w') => text_any x.rq hx w' (Tab.on hT h))
  have CB := Lib.hid (fun w' (h : Below W.heap.size W w') => text_any y.rq hy w' (Tab.on hT h))
  have HWB := Lib.hid hWb
  have HWS := Lib.hid hWs
  have hW0 := Below.refl W.heap.size W
  have HR := Lib.hid hr
  simp only [En.cells] at hW ⊢
  have HW := Lib.hid hW
  clear hWb hWs hW fa fb hT ht hr
  go_enter Tryd.func114, Tryd.ntmps114
  go_upto_region 1 with fail
  rw [← HW.out]
  clear HW
  generalize (#[.int .u32 x.s, .int .u32 x.v, .int .u8 x.rq.c, .int .u32 x.rq.t, .int .u8 x.rq.k, .int .u8 x.rq.y, .int .u16 x.rq.v] : Array Value) = xa
  generalize (#[.int .u32 y.s, .int .u32 y.v, .int .u8 y.rq.c, .int .u32 y.rq.t, .int .u8 y.rq.k, .int .u8 y.rq.y, .int .u16 y.rq.v] : Array Value) = ya
  by_cases h : x.s = y.s
  · have d : (x.s == y.s) = true := by simp [h]
    have HE := Lib.hid h
    clear h
    unfold textGt at HR
    generalize (⟨x.rq.text.toArray⟩ : ByteArray) = ta at *
    generalize (⟨y.rq.text.toArray⟩ : ByteArray) = tb at *
    generalize x.rq.cells.toArray = ra at *
    generalize y.rq.cells.toArray = rb at *
    generalize hg : w.heap.size = g at *
    go_upto_region 3 with fail
    generalize Value.bool (x.s != y.s) = u9
    refine wp_region_held_drew (S := fun w' => Below W.heap.size W w') (by kernel_rfl) hW0.drew (fun hS => ?_)
    refine takeA (i := 0) (v := .pointer (some ⟨g, 2, none⟩)) ({ tmps := #[.agg xa, .agg ya, .pointer (some ⟨g, 0, none⟩), .pointer (some ⟨g + 1, 0, none⟩), .bool false, .pointer (some ⟨g, 0, none⟩), .int .u32 x.s, .pointer (some ⟨g + 1, 0, none⟩), .int .u32 y.s, u9, undef, undef, undef, undef, undef, .pointer (some ⟨g, 2, none⟩), undef, undef, undef, undef, undef, undef], defers := [] }) rfl (by kernel_rfl) (by kernel_rfl) (by kernel_rfl) (fun _ _ _ h => h) (.inl ⟨rfl, fun w' _ => by go_simp⟩) hS rfl ?_
    refine takeA (i := 1) (v := .agg ra) ({ tmps := #[.agg xa, .agg ya, .pointer (some ⟨g, 0, none⟩), .pointer (some ⟨g + 1, 0, none⟩), .bool false, .pointer (some ⟨g, 0, none⟩), .int .u32 x.s, .pointer (some ⟨g + 1, 0, none⟩), .int .u32 y.s, u9, undef, undef, undef, undef, undef, .pointer (some ⟨g, 2, none⟩), .agg ra, undef, undef, undef, undef, undef], defers := [] }) rfl (by kernel_rfl) (by kernel_rfl) (by kernel_rfl) (fun _ _ _ h => h) (yi_load 27 (.tmp 15) _ rfl rfl rfl LA.out) hS rfl ?_
    refine takeA (i := 3) (v := .pointer (some ⟨g + 1, 2, none⟩)) ({ tmps := #[.agg xa, .agg ya, .pointer (some ⟨g, 0, none⟩), .pointer (some ⟨g + 1, 0, none⟩), .bool false, .pointer (some ⟨g, 0, none⟩), .int .u32 x.s, .pointer (some ⟨g + 1, 0, none⟩), .int .u32 y.s, u9, undef, undef, undef, undef, undef, .pointer (some ⟨g, 2, none⟩), .agg ra, undef, .pointer (some ⟨g + 1, 2, none⟩), undef, undef, undef], defers := [] }) rfl (by kernel_rfl) (by kernel_rfl) (by kernel_rfl) (fun _ _ _ h => h) (.inl ⟨rfl, fun w' _ => by go_simp⟩) hS rfl ?_
    refine takeA (i := 4) (v := .agg rb) ({ tmps := #[.agg xa, .agg ya, .pointer (some ⟨g, 0, none⟩), .pointer (some ⟨g + 1, 0, none⟩), .bool false, .pointer (some ⟨g, 0, none⟩), .int .u32 x.s, .pointer (some ⟨g + 1, 0, none⟩), .int .u32 y.s, u9, undef, undef, undef, undef, undef, .pointer (some ⟨g, 2, none⟩), .agg ra, undef, .pointer (some ⟨g + 1, 2, none⟩), .agg rb, undef, undef], defers := [] }) rfl (by kernel_rfl) (by kernel_rfl) (by kernel_rfl) (fun _ _ _ h => h) (yi_load 27 (.tmp 18) _ rfl rfl rfl LB.out) hS rfl ?_
    refine wpAnyH_ready (rs := [2]) (by kernel_rfl) (by simp) ?_
    refine AllReadyH.cons rfl (fun K hK => ?_) AllReadyH.nil
    rw [if_pos (by rfl)]
    go_simp
    refine Calls.mono (CA.out _ hS) ?_
    rintro e w2 ⟨rfl, hb⟩
    refine hK.out ({ tmps := #[.agg xa, .agg ya, .pointer (some ⟨g, 0, none⟩), .pointer (some ⟨g + 1, 0, none⟩), .bool false, .pointer (some ⟨g, 0, none⟩), .int .u32 x.s, .pointer (some ⟨g + 1, 0, none⟩), .int .u32 y.s, u9, undef, undef, undef, undef, undef, .pointer (some ⟨g, 2, none⟩), .agg ra, .string ta, .pointer (some ⟨g + 1, 2, none⟩), .agg rb, undef, undef], defers := [] }) w2 (Below.up hS hb) (fun hS => ?_)
    clear hK K hb
    refine wpAnyH_ready (rs := [5]) (by kernel_rfl) (by simp) ?_
    refine AllReadyH.cons rfl (fun K hK => ?_) AllReadyH.nil
    rw [if_pos (by rfl)]
    go_simp
    refine Calls.mono (CB.out _ hS) ?_
    rintro e w3 ⟨rfl, hb⟩
    refine hK.out ({ tmps := #[.agg xa, .agg ya, .pointer (some ⟨g, 0, none⟩), .pointer (some ⟨g + 1, 0, none⟩), .bool false, .pointer (some ⟨g, 0, none⟩), .int .u32 x.s, .pointer (some ⟨g + 1, 0, none⟩), .int .u32 y.s, u9, undef, undef, undef, undef, undef, .pointer (some ⟨g, 2, none⟩), .agg ra, .string ta, .pointer (some ⟨g + 1, 2, none⟩), .agg rb, .string tb, undef], defers := [] }) w3 (Below.up hS hb) (fun hS => ?_)
    clear hK K hb
    refine takeA (i := 6) (v := .bool (!(Op.bytesLess ta.toList tb.toList || ta.toList == tb.toList))) ({ tmps := #[.agg xa, .agg ya, .pointer (some ⟨g, 0, none⟩), .pointer (some ⟨g + 1, 0, none⟩), .bool false, .pointer (some ⟨g, 0, none⟩), .int .u32 x.s, .pointer (some ⟨g + 1, 0, none⟩), .int .u32 y.s, u9, undef, undef, undef, undef, undef, .pointer (some ⟨g, 2, none⟩), .agg ra, .string ta, .pointer (some ⟨g + 1, 2, none⟩), .agg rb, .string tb, .bool (!(Op.bytesLess ta.toList tb.toList || ta.toList == tb.toList))], defers := [] }) rfl (by kernel_rfl) (by kernel_rfl) (by kernel_rfl) (fun _ _ _ h => h) (.inl ⟨rfl, fun w' _ => by go_simp⟩) hS rfl ?_
    refine takeA (i := 7) (v := .bool (!(Op.bytesLess ta.toList tb.toList || ta.toList == tb.toList))) ({ tmps := #[.agg xa, .agg ya, .pointer (some ⟨g, 0, none⟩), .pointer (some ⟨g + 1, 0, none⟩), .bool (!(Op.bytesLess ta.toList tb.toList || ta.toList == tb.toList)), .pointer (some ⟨g, 0, none⟩), .int .u32 x.s, .pointer (some ⟨g + 1, 0, none⟩), .int .u32 y.s, u9, undef, undef, undef, undef, undef, .pointer (some ⟨g, 2, none⟩), .agg ra, .string ta, .pointer (some ⟨g + 1, 2, none⟩), .agg rb, .string tb, .bool (!(Op.bytesLess ta.toList tb.toList || ta.toList == tb.toList))], defers := [] }) rfl (by kernel_rfl) (by kernel_rfl) (by kernel_rfl) (fun _ _ _ h => h) (.inl ⟨rfl, fun _ _ => rfl⟩) hS rfl ?_
    refine wpAnyH_done (by kernel_rfl) ?_ _
    go_wp2_with fail
    go_ret
    refine ⟨?_, by rw [hg]; exact HWB.out.trans (hS.mono (by rw [HWS.out]; omega))⟩
    rw [HR.out, if_pos HE.out]; rfl
  · have d : (x.s == y.s) = false := by simp [h]
    have HE := Lib.hid h
    clear h
    by_cases h2 : x.s > y.s <;>
    · have H2 := Lib.hid h2
      go_wp2_with fail
      go_ret
      refine ⟨?_, HWB.out⟩
      rw [HR.out, if_neg HE.out]; have := H2.out; simp; omega
end Go.Proofs.YtmkeckablkccnaaDoor
