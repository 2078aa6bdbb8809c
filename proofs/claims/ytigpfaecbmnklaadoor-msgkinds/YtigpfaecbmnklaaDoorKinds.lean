/- The walk of MsgKinds. -/
import Derived.Test.YtigpfaecbmnklaaDoorKindsB
import Derived.Deep.CutBlock
namespace Go.Proofs.YtigpfaecbmnklaaDoor
open Go.RowKit
set_option maxRecDepth 100000

set_option maxHeartbeats 8000000 in
theorem kinds_any (kd f t e sp sq : Int) (k0 : 0 ≤ kd) (k1 : kd ≤ 255) (f0 : 0 ≤ f) (_f1 : f ≤ 255) (t0 : 0 ≤ t) (_t1 : t ≤ 255) (e0 : 0 ≤ e) (_e1 : e ≤ 255) (s0 : 0 ≤ sp) (s1 : sp ≤ 255) (q0 : 0 ≤ sq) (q1 : sq ≤ 4294967295) (w : World) (ht : Tab w) :
    Calls Tryd.prog 5 #[.int .u8 kd, .int .u8 f, .int .u8 t, .int .u8 e, .int .u8 sp, .int .u32 sq] w fun e w' => e = .returned (.bool true) ∧ Below w.heap.size w w' := by
  have CK := Lib.hid (known_any w ht)
  have HT := Lib.hid ht
  clear ht
  go_enter Tryd.func5, Tryd.ntmps5
  go_wp2_with fail
  refine Calls.mono CK.out ?_
  rintro e' w1 ⟨rfl, hb1⟩
  have B1 := Lib.hid hb1
  clear hb1 CK
  go_wp2_with fail
  refine Calls.mono (put_gen 2 3 4 5 w1) ?_
  rintro e' w2 ⟨rfl, hb2⟩
  have B2 := Lib.hid (B1.out.trans (hb2.mono B1.out.size))
  clear hb2
  have HQ : Hid (∀ w3, w3 = w2.alloc (.cells (Rq.mk 2 3 1 4 5).cells.toArray 27) → w3.heap[w2.heap.size]? = some (.cells (Rq.mk 2 3 1 4 5).cells.toArray 27 (0, 0)) ∧ Below w.heap.size w w3) := Lib.hid (fun w3 h => by rw [h]; exact ⟨heap_alloc_new _ _, B2.out.alloc B2.out.size _⟩)
  obtain ⟨w3, hw3⟩ : ∃ w3, w3 = w2.alloc (.cells (Rq.mk 2 3 1 4 5).cells.toArray 27) := ⟨_, rfl⟩
  have hq3 := (HQ.out w3 hw3).1
  have B3 := Lib.hid (HQ.out w3 hw3).2
  simp only [Rq.cells] at hw3 ⊢
  go_upto_region 5 with fail
  rw [← hw3]
  clear hw3 HQ
  obtain ⟨k, hk⟩ : ∃ k, k = kd % 14 + 1 := ⟨_, rfl⟩
  have hk1 : 1 ≤ k := by omega
  have hk2 : k ≤ 14 := by omega
  rw [← hk]
  clear hk
  generalize kd % 14 = kr
  generalize hQ : w2.heap.size = Q at *
  have HQ3 := Lib.hid hq3
  clear hq3
  generalize (#[.int .u8 2, .int .u32 3, .int .u8 1, .int .u8 4, .int .u16 5] : Array Value) = qa
  obtain ⟨U, hU⟩ : ∃ U, U = (w3.alloc (.cells Vz.toArray 37)).setCells w3.heap.size 0 (hm k (f % 4) (t % 4) (e % 200 + 1)).cells := ⟨_, rfl⟩
  obtain ⟨hbx, hbu, hth⟩ := msg_new w3 _ hU
  have HTH := Lib.hid hth
  have HU := Lib.hid hU
  have HBX := Lib.hid hbx
  have HBU := Lib.hid (B3.out.trans (hbu.mono B3.out.size))
  have HQU := Lib.hid ((hbu.block Q (lt_of_block HQ3.out)).trans HQ3.out)
  clear hU hbx hbu hth
  have HWE := Lib.hid (show IntKind.u8.wrap (e % 200 + 1) = e % 200 + 1 by simp [IntKind.wrap, IntKind.signed, IntKind.bits]; omega)
  refine wp_region_lit ?_
  refine wpl_val (v := .int .u8 k) (w1 := w3) rfl (by go_simp) ({ tmps := #[.int .u8 kd, .int .u8 f, .int .u8 t, .int .u8 e, .int .u8 sp, .int .u32 sq, undef, undef, undef, undef, undef, undef, .bool false, .int .u8 k, .pointer (some ⟨Q, 0, none⟩), undef, undef, undef, undef, .bool true, .bool false, .int .u8 kd, .int .u8 kr, .int .u8 k, .agg qa, .int .u8 k, undef, undef, undef, undef, undef, undef, undef, undef, undef, undef, undef, undef, undef, undef, undef, undef, undef, undef, undef, undef, undef, undef, undef, undef, undef, undef, undef, undef, undef, undef, undef, undef, undef, undef, undef, undef, undef, undef, undef, undef, undef, undef, undef, undef, undef, undef, undef, undef, undef, undef, undef, undef, undef, undef, undef, undef, undef, undef, undef, undef, undef, undef, undef, undef, undef, undef, undef, undef, undef, undef, undef, undef, undef, undef, undef, undef, undef, undef, undef, undef, undef, undef, undef, undef, undef, undef, undef, undef, undef, undef, undef, undef, undef, undef, undef, undef, undef, undef, undef, undef, undef, undef, undef, undef, undef, undef, undef, undef, undef, undef, undef], defers := [] }) rfl ?_
  refine wpl_val (v := .int .u8 f) (w1 := w3) rfl (by go_simp) ({ tmps := #[.int .u8 kd, .int .u8 f, .int .u8 t, .int .u8 e, .int .u8 sp, .int .u32 sq, undef, undef, undef, undef, undef, undef, .bool false, .int .u8 k, .pointer (some ⟨Q, 0, none⟩), undef, undef, undef, undef, .bool true, .bool false, .int .u8 kd, .int .u8 kr, .int .u8 k, .agg qa, .int .u8 k, .int .u8 f, undef, undef, undef, undef, undef, undef, undef, undef, undef, undef, undef, undef, undef, undef, undef, undef, undef, undef, undef, undef, undef, undef, undef, undef, undef, undef, undef, undef, undef, undef, undef, undef, undef, undef, undef, undef, undef, undef, undef, undef, undef, undef, undef, undef, undef, undef, undef, undef, undef, undef, undef, undef, undef, undef, undef, undef, undef, undef, undef, undef, undef, undef, undef, undef, undef, undef, undef, undef, undef, undef, undef, undef, undef, undef, undef, undef, undef, undef, undef, undef, undef, undef, undef, undef, undef, undef, undef, undef, undef, undef, undef, undef, undef, undef, undef, undef, undef, undef, undef, undef, undef, undef, undef, undef, undef, undef, undef, undef, undef, undef], defers := [] }) rfl ?_
  refine wpl_val (v := .int .u8 (f % 4)) (w1 := w3) rfl (by go_simp; exact Int.tmod_eq_emod_of_nonneg f0) ({ tmps := #[.int .u8 kd, .int .u8 f, .int .u8 t, .int .u8 e, .int .u8 sp, .int .u32 sq, undef, undef, undef, undef, undef, undef, .bool false, .int .u8 k, .pointer (some ⟨Q, 0, none⟩), undef, undef, undef, undef, .bool true, .bool false, .int .u8 kd, .int .u8 kr, .int .u8 k, .agg qa, .int .u8 k, .int .u8 f, .int .u8 (f % 4), undef, undef, undef, undef, undef, undef, undef, undef, undef, undef, undef, undef, undef, undef, undef, undef, undef, undef, undef, undef, undef, undef, undef, undef, undef, undef, undef, undef, undef, undef, undef, undef, undef, undef, undef, undef, undef, undef, undef, undef, undef, undef, undef, undef, undef, undef, undef, undef, undef, undef, undef, undef, undef, undef, undef, undef, undef, undef, undef, undef, undef, undef, undef, undef, undef, undef, undef, undef, undef, undef, undef, undef, undef, undef, undef, undef, undef, undef, undef, undef, undef, undef, undef, undef, undef, undef, undef, undef, undef, undef, undef, undef, undef, undef, undef, undef, undef, undef, undef, undef, undef, undef, undef, undef, undef, undef, undef, undef, undef], defers := [] }) rfl ?_
  refine wpl_val (v := .int .u8 t) (w1 := w3) rfl (by go_simp) ({ tmps := #[.int .u8 kd, .int .u8 f, .int .u8 t, .int .u8 e, .int .u8 sp, .int .u32 sq, undef, undef, undef, undef, undef, undef, .bool false, .int .u8 k, .pointer (some ⟨Q, 0, none⟩), undef, undef, undef, undef, .bool true, .bool false, .int .u8 kd, .int .u8 kr, .int .u8 k, .agg qa, .int .u8 k, .int .u8 f, .int .u8 (f % 4), .int .u8 t, undef, undef, undef, undef, undef, undef, undef, undef, undef, undef, undef, undef, undef, undef, undef, undef, undef, undef, undef, undef, undef, undef, undef, undef, undef, undef, undef, undef, undef, undef, undef, undef, undef, undef, undef, undef, undef, undef, undef, undef, undef, undef, undef, undef, undef, undef, undef, undef, undef, undef, undef, undef, undef, undef, undef, undef, undef, undef, undef, undef, undef, undef, undef, undef, undef, undef, undef, undef, undef, undef, undef, undef, undef, undef, undef, undef, undef, undef, undef, undef, undef, undef, undef, undef, undef, undef, undef, undef, undef, undef, undef, undef, undef, undef, undef, undef, undef, undef, undef, undef, undef, undef, undef, undef, undef, undef, undef, undef], defers := [] }) rfl ?_
  refine wpl_val (v := .int .u8 (t % 4)) (w1 := w3) rfl (by go_simp; exact Int.tmod_eq_emod_of_nonneg t0) ({ tmps := #[.int .u8 kd, .int .u8 f, .int .u8 t, .int .u8 e, .int .u8 sp, .int .u32 sq, undef, undef, undef, undef, undef, undef, .bool false, .int .u8 k, .pointer (some ⟨Q, 0, none⟩), undef, undef, undef, undef, .bool true, .bool false, .int .u8 kd, .int .u8 kr, .int .u8 k, .agg qa, .int .u8 k, .int .u8 f, .int .u8 (f % 4), .int .u8 t, .int .u8 (t % 4), undef, undef, undef, undef, undef, undef, undef, undef, undef, undef, undef, undef, undef, undef, undef, undef, undef, undef, undef, undef, undef, undef, undef, undef, undef, undef, undef, undef, undef, undef, undef, undef, undef, undef, undef, undef, undef, undef, undef, undef, undef, undef, undef, undef, undef, undef, undef, undef, undef, undef, undef, undef, undef, undef, undef, undef, undef, undef, undef, undef, undef, undef, undef, undef, undef, undef, undef, undef, undef, undef, undef, undef, undef, undef, undef, undef, undef, undef, undef, undef, undef, undef, undef, undef, undef, undef, undef, undef, undef, undef, undef, undef, undef, undef, undef, undef, undef, undef, undef, undef, undef, undef, undef, undef, undef, undef, undef], defers := [] }) rfl ?_
  refine wpl_val (v := .int .u8 e) (w1 := w3) rfl (by go_simp) ({ tmps := #[.int .u8 kd, .int .u8 f, .int .u8 t, .int .u8 e, .int .u8 sp, .int .u32 sq, undef, undef, undef, undef, undef, undef, .bool false, .int .u8 k, .pointer (some ⟨Q, 0, none⟩), undef, undef, undef, undef, .bool true, .bool false, .int .u8 kd, .int .u8 kr, .int .u8 k, .agg qa, .int .u8 k, .int .u8 f, .int .u8 (f % 4), .int .u8 t, .int .u8 (t % 4), .int .u8 e, undef, undef, undef, undef, undef, undef, undef, undef, undef, undef, undef, undef, undef, undef, undef, undef, undef, undef, undef, undef, undef, undef, undef, undef, undef, undef, undef, undef, undef, undef, undef, undef, undef, undef, undef, undef, undef, undef, undef, undef, undef, undef, undef, undef, undef, undef, undef, undef, undef, undef, undef, undef, undef, undef, undef, undef, undef, undef, undef, undef, undef, undef, undef, undef, undef, undef, undef, undef, undef, undef, undef, undef, undef, undef, undef, undef, undef, undef, undef, undef, undef, undef, undef, undef, undef, undef, undef, undef, undef, undef, undef, undef, undef, undef, undef, undef, undef, undef, undef, undef, undef, undef, undef, undef, undef, undef], defers := [] }) rfl ?_
  refine wpl_val (v := .int .u8 (e % 200)) (w1 := w3) rfl (by go_simp; exact Int.tmod_eq_emod_of_nonneg e0) ({ tmps := #[.int .u8 kd, .int .u8 f, .int .u8 t, .int .u8 e, .int .u8 sp, .int .u32 sq, undef, undef, undef, undef, undef, undef, .bool false, .int .u8 k, .pointer (some ⟨Q, 0, none⟩), undef, undef, undef, undef, .bool true, .bool false, .int .u8 kd, .int .u8 kr, .int .u8 k, .agg qa, .int .u8 k, .int .u8 f, .int .u8 (f % 4), .int .u8 t, .int .u8 (t % 4), .int .u8 e, .int .u8 (e % 200), undef, undef, undef, undef, undef, undef, undef, undef, undef, undef, undef, undef, undef, undef, undef, undef, undef, undef, undef, undef, undef, undef, undef, undef, undef, undef, undef, undef, undef, undef, undef, undef, undef, undef, undef, undef, undef, undef, undef, undef, undef, undef, undef, undef, undef, undef, undef, undef, undef, undef, undef, undef, undef, undef, undef, undef, undef, undef, undef, undef, undef, undef, undef, undef, undef, undef, undef, undef, undef, undef, undef, undef, undef, undef, undef, undef, undef, undef, undef, undef, undef, undef, undef, undef, undef, undef, undef, undef, undef, undef, undef, undef, undef, undef, undef, undef, undef, undef, undef, undef, undef, undef, undef, undef, undef], defers := [] }) rfl ?_
  refine wpl_val (v := .int .u8 (e % 200 + 1)) (w1 := w3) rfl (by go_simp; exact HWE.out) ({ tmps := #[.int .u8 kd, .int .u8 f, .int .u8 t, .int .u8 e, .int .u8 sp, .int .u32 sq, undef, undef, undef, undef, undef, undef, .bool false, .int .u8 k, .pointer (some ⟨Q, 0, none⟩), undef, undef, undef, undef, .bool true, .bool false, .int .u8 kd, .int .u8 kr, .int .u8 k, .agg qa, .int .u8 k, .int .u8 f, .int .u8 (f % 4), .int .u8 t, .int .u8 (t % 4), .int .u8 e, .int .u8 (e % 200), .int .u8 (e % 200 + 1), undef, undef, undef, undef, undef, undef, undef, undef, undef, undef, undef, undef, undef, undef, undef, undef, undef, undef, undef, undef, undef, undef, undef, undef, undef, undef, undef, undef, undef, undef, undef, undef, undef, undef, undef, undef, undef, undef, undef, undef, undef, undef, undef, undef, undef, undef, undef, undef, undef, undef, undef, undef, undef, undef, undef, undef, undef, undef, undef, undef, undef, undef, undef, undef, undef, undef, undef, undef, undef, undef, undef, undef, undef, undef, undef, undef, undef, undef, undef, undef, undef, undef, undef, undef, undef, undef, undef, undef, undef, undef, undef, undef, undef, undef, undef, undef, undef, undef, undef, undef, undef, undef, undef, undef], defers := [] }) rfl ?_
  refine wpl_val (v := .agg (hm k (f % 4) (t % 4) (e % 200 + 1)).cells.toArray) (w1 := w3) rfl (by simp only [hm, Mg.cells, Rq.zero, Vt.zero]; go_simp) ({ tmps := #[.int .u8 kd, .int .u8 f, .int .u8 t, .int .u8 e, .int .u8 sp, .int .u32 sq, undef, undef, undef, undef, undef, undef, .bool false, .int .u8 k, .pointer (some ⟨Q, 0, none⟩), undef, undef, undef, undef, .bool true, .bool false, .int .u8 kd, .int .u8 kr, .int .u8 k, .agg qa, .int .u8 k, .int .u8 f, .int .u8 (f % 4), .int .u8 t, .int .u8 (t % 4), .int .u8 e, .int .u8 (e % 200), .int .u8 (e % 200 + 1), .agg (hm k (f % 4) (t % 4) (e % 200 + 1)).cells.toArray, undef, undef, undef, undef, undef, undef, undef, undef, undef, undef, undef, undef, undef, undef, undef, undef, undef, undef, undef, undef, undef, undef, undef, undef, undef, undef, undef, undef, undef, undef, undef, undef, undef, undef, undef, undef, undef, undef, undef, undef, undef, undef, undef, undef, undef, undef, undef, undef, undef, undef, undef, undef, undef, undef, undef, undef, undef, undef, undef, undef, undef, undef, undef, undef, undef, undef, undef, undef, undef, undef, undef, undef, undef, undef, undef, undef, undef, undef, undef, undef, undef, undef, undef, undef, undef, undef, undef, undef, undef, undef, undef, undef, undef, undef, undef, undef, undef, undef, undef, undef, undef, undef, undef], defers := [] }) rfl ?_
  refine wpl_val (v := .pointer (some ⟨w3.heap.size, 0, none⟩)) (w1 := w3.alloc (.cells Vz.toArray 37)) rfl (by simp only [Vz]; go_simp) ({ tmps := #[.int .u8 kd, .int .u8 f, .int .u8 t, .int .u8 e, .int .u8 sp, .int .u32 sq, undef, undef, undef, undef, undef, undef, .bool false, .int .u8 k, .pointer (some ⟨Q, 0, none⟩), .pointer (some ⟨w3.heap.size, 0, none⟩), undef, undef, undef, .bool true, .bool false, .int .u8 kd, .int .u8 kr, .int .u8 k, .agg qa, .int .u8 k, .int .u8 f, .int .u8 (f % 4), .int .u8 t, .int .u8 (t % 4), .int .u8 e, .int .u8 (e % 200), .int .u8 (e % 200 + 1), .agg (hm k (f % 4) (t % 4) (e % 200 + 1)).cells.toArray, undef, undef, undef, undef, undef, undef, undef, undef, undef, undef, undef, undef, undef, undef, undef, undef, undef, undef, undef, undef, undef, undef, undef, undef, undef, undef, undef, undef, undef, undef, undef, undef, undef, undef, undef, undef, undef, undef, undef, undef, undef, undef, undef, undef, undef, undef, undef, undef, undef, undef, undef, undef, undef, undef, undef, undef, undef, undef, undef, undef, undef, undef, undef, undef, undef, undef, undef, undef, undef, undef, undef, undef, undef, undef, undef, undef, undef, undef, undef, undef, undef, undef, undef, undef, undef, undef, undef, undef, undef, undef, undef, undef, undef, undef, undef, undef, undef, undef, undef, undef, undef, undef, undef], defers := [] }) rfl ?_
  refine wpList_store_mid rfl 37 (.tmp 15) (.tmp 33) rfl w3.heap.size 0 (hm k (f % 4) (t % 4) (e % 200 + 1)).cells.toArray rfl rfl HTH.out size37 (all_oneCell_toArray (Mg.one _)) ?_
  dsimp only
  rw [← HU.out]
  clear HTH HU
  have HMQ := Lib.hid (show w3.heap.size ≠ Q by have := lt_of_block HQ3.out; omega)
  have HML := Lib.hid (show w.heap.size ≤ w3.heap.size from B3.out.size)
  generalize hM : w3.heap.size = M at *
  generalize hma : (hm k (f % 4) (t % 4) (e % 200 + 1)).cells.toArray = ma at *
  have HMA := Lib.hid hma
  clear hma
  obtain ⟨f4, hf4⟩ : ∃ x, x = f % 4 := ⟨_, rfl⟩
  obtain ⟨t4, ht4⟩ : ∃ x, x = t % 4 := ⟨_, rfl⟩
  obtain ⟨e2, he2⟩ : ∃ x, x = e % 200 + 1 := ⟨_, rfl⟩
  have hf4b : 0 ≤ f4 ∧ f4 < 4 := by omega
  have ht4b : 0 ≤ t4 ∧ t4 < 4 := by omega
  have he2b : 1 ≤ e2 ∧ e2 ≤ 200 := by omega
  rw [← hf4, ← ht4, ← he2] at HMA ⊢
  generalize e % 200 = e200
  clear hf4 ht4 he2
  go_upto_block 0 with fail
  obtain ⟨s, hs⟩ : ∃ x, x = sq % 1000 + 1 := ⟨_, rfl⟩
  have hsb : 1 ≤ s ∧ s ≤ 1000 := by omega
  rw [← hs]
  generalize sq % 1000 = s1000
  clear hs
  go_cut [] from 19 (fun wx => ∃ sm, wx.heap[M]? = some (.cells (kg k f4 t4 e2 s sm).cells.toArray 37 (0, 0)) ∧ (∀ w', Kept (fun b => b = M) wx w' → MgAt w' (kg k f4 t4 e2 s sm) (kc k)) ∧ sm.n = (if k = 12 then 8 else 0) ∧ Below w.heap.size w wx)
  case first =>
    have HC : Hid (∀ i, U.cell? ⟨M, i, none⟩ = (hm k f4 t4 e2).cells[i]?) := Lib.hid (fun i => by rw [cell_of_row _ _ _ _ _ _ HBX.out, ← HMA.out]; simp)
    have HZ : Hid (∀ i, U.frozen? ⟨M, i, none⟩ = false) := Lib.hid (fun i => frozen_of_row _ _ _ _ _ HBX.out)
    have y0 : U.cell? ⟨Q, 0, none⟩ = some (.int .u8 2) := by rw [cell_of_row _ _ _ _ _ _ HQU.out]; rfl
    have y1 : U.cell? ⟨Q, 1, none⟩ = some (.int .u32 3) := by rw [cell_of_row _ _ _ _ _ _ HQU.out]; rfl
    have y2 : U.cell? ⟨Q, 2, none⟩ = some (.int .u8 1) := by rw [cell_of_row _ _ _ _ _ _ HQU.out]; rfl
    have y3 : U.cell? ⟨Q, 3, none⟩ = some (.int .u8 4) := by rw [cell_of_row _ _ _ _ _ _ HQU.out]; rfl
    have y4 : U.cell? ⟨Q, 4, none⟩ = some (.int .u16 5) := by rw [cell_of_row _ _ _ _ _ _ HQU.out]; rfl
    have hmq : ¬ M = Q := HMQ.out
    have hqm : ¬ Q = M := fun e => HMQ.out e.symm
    have hcase : k = 1 ∨ k = 2 ∨ k = 3 ∨ k = 4 ∨ k = 5 ∨ k = 6 ∨ k = 7 ∨ k = 8 ∨ k = 9 ∨ k = 10 ∨ k = 11 ∨ k = 12 ∨ k = 13 ∨ k = 14 := by omega
    rcases hcase with rfl | rfl | rfl | rfl | rfl | rfl | rfl | rfl | rfl | rfl | rfl | rfl | rfl | rfl
    · have x1 : U.cell? ⟨M, 1, none⟩ = some (.int .u8 f4) := HC.out 1
      have z1 := HZ.out 1
      have x3 : U.cell? ⟨M, 3, none⟩ = some (.int .u8 e2) := HC.out 3
      have z3 := HZ.out 3
      have x6 : U.cell? ⟨M, 6, none⟩ = some (.int .u8 0) := HC.out 6
      have z6 := HZ.out 6
      have x7 : U.cell? ⟨M, 7, none⟩ = some (.int .u32 0) := HC.out 7
      have z7 := HZ.out 7
      have x8 : U.cell? ⟨M, 8, none⟩ = some (.int .u8 0) := HC.out 8
      have z8 := HZ.out 8
      have x9 : U.cell? ⟨M, 9, none⟩ = some (.int .u8 0) := HC.out 9
      have z9 := HZ.out 9
      have x10 : U.cell? ⟨M, 10, none⟩ = some (.int .u16 0) := HC.out 10
      have z10 := HZ.out 10
      go_upto_region 10 with fail
      go_region
      go_wp2_with fail
      go_meet
      refine ⟨⟨none, 0, 0⟩, ?_, (fun w' _ => kg_at w' _ _ _ _ _ _ rfl (by decide)), by simp, ?_⟩
      · have hb := HBX.out
        rw [← HMA.out] at hb
        have h9 := box_set (box_set (box_set (box_set (box_set (box_set (box_set (hb) 1 (.int .u8 12)) 3 (.int .u8 0)) 6 (.int .u8 2)) 7 (.int .u32 3)) 8 (.int .u8 1)) 9 (.int .u8 4)) 10 (.int .u16 5)
        rw [kgset1 f4 t4 e2 s ⟨none, 0, 0⟩] at h9
        exact box_drew h9
      · exact Below.drew <| Below.setCell (Below.setCell (Below.setCell (Below.setCell (Below.setCell (Below.setCell (Below.setCell (HBU.out) HML.out _) HML.out _) HML.out _) HML.out _) HML.out _) HML.out _) HML.out _
    · have x5 : U.cell? ⟨M, 5, none⟩ = some (.int .u32 0) := HC.out 5
      have z5 := HZ.out 5
      have x6 : U.cell? ⟨M, 6, none⟩ = some (.int .u8 0) := HC.out 6
      have z6 := HZ.out 6
      have x7 : U.cell? ⟨M, 7, none⟩ = some (.int .u32 0) := HC.out 7
      have z7 := HZ.out 7
      have x8 : U.cell? ⟨M, 8, none⟩ = some (.int .u8 0) := HC.out 8
      have z8 := HZ.out 8
      have x9 : U.cell? ⟨M, 9, none⟩ = some (.int .u8 0) := HC.out 9
      have z9 := HZ.out 9
      have x10 : U.cell? ⟨M, 10, none⟩ = some (.int .u16 0) := HC.out 10
      have z10 := HZ.out 10
      go_upto_region 16 with fail
      go_region
      go_wp2_with fail
      go_meet
      refine ⟨⟨none, 0, 0⟩, ?_, (fun w' _ => kg_at w' _ _ _ _ _ _ rfl (by decide)), by simp, ?_⟩
      · have hb := HBX.out
        rw [← HMA.out] at hb
        have h9 := box_set (box_set (box_set (box_set (box_set (box_set (hb) 5 (.int .u32 s)) 6 (.int .u8 2)) 7 (.int .u32 3)) 8 (.int .u8 1)) 9 (.int .u8 4)) 10 (.int .u16 5)
        rw [kgset2 f4 t4 e2 s ⟨none, 0, 0⟩] at h9
        exact box_drew h9
      · exact Below.drew <| Below.setCell (Below.setCell (Below.setCell (Below.setCell (Below.setCell (Below.setCell (HBU.out) HML.out _) HML.out _) HML.out _) HML.out _) HML.out _) HML.out _
    · have x5 : U.cell? ⟨M, 5, none⟩ = some (.int .u32 0) := HC.out 5
      have z5 := HZ.out 5
      have x6 : U.cell? ⟨M, 6, none⟩ = some (.int .u8 0) := HC.out 6
      have z6 := HZ.out 6
      have x7 : U.cell? ⟨M, 7, none⟩ = some (.int .u32 0) := HC.out 7
      have z7 := HZ.out 7
      have x8 : U.cell? ⟨M, 8, none⟩ = some (.int .u8 0) := HC.out 8
      have z8 := HZ.out 8
      have x9 : U.cell? ⟨M, 9, none⟩ = some (.int .u8 0) := HC.out 9
      have z9 := HZ.out 9
      have x10 : U.cell? ⟨M, 10, none⟩ = some (.int .u16 0) := HC.out 10
      have z10 := HZ.out 10
      go_upto_region 16 with fail
      go_region
      go_wp2_with fail
      go_meet
      refine ⟨⟨none, 0, 0⟩, ?_, (fun w' _ => kg_at w' _ _ _ _ _ _ rfl (by decide)), by simp, ?_⟩
      · have hb := HBX.out
        rw [← HMA.out] at hb
        have h9 := box_set (box_set (box_set (box_set (box_set (box_set (hb) 5 (.int .u32 s)) 6 (.int .u8 2)) 7 (.int .u32 3)) 8 (.int .u8 1)) 9 (.int .u8 4)) 10 (.int .u16 5)
        rw [kgset3 f4 t4 e2 s ⟨none, 0, 0⟩] at h9
        exact box_drew h9
      · exact Below.drew <| Below.setCell (Below.setCell (Below.setCell (Below.setCell (Below.setCell (Below.setCell (HBU.out) HML.out _) HML.out _) HML.out _) HML.out _) HML.out _) HML.out _
    · have x5 : U.cell? ⟨M, 5, none⟩ = some (.int .u32 0) := HC.out 5
      have z5 := HZ.out 5
      have x6 : U.cell? ⟨M, 6, none⟩ = some (.int .u8 0) := HC.out 6
      have z6 := HZ.out 6
      have x7 : U.cell? ⟨M, 7, none⟩ = some (.int .u32 0) := HC.out 7
      have z7 := HZ.out 7
      have x8 : U.cell? ⟨M, 8, none⟩ = some (.int .u8 0) := HC.out 8
      have z8 := HZ.out 8
      have x9 : U.cell? ⟨M, 9, none⟩ = some (.int .u8 0) := HC.out 9
      have z9 := HZ.out 9
      have x10 : U.cell? ⟨M, 10, none⟩ = some (.int .u16 0) := HC.out 10
      have z10 := HZ.out 10
      go_upto_region 16 with fail
      go_region
      go_wp2_with fail
      go_meet
      refine ⟨⟨none, 0, 0⟩, ?_, (fun w' _ => kg_at w' _ _ _ _ _ _ rfl (by decide)), by simp, ?_⟩
      · have hb := HBX.out
        rw [← HMA.out] at hb
        have h9 := box_set (box_set (box_set (box_set (box_set (box_set (hb) 5 (.int .u32 s)) 6 (.int .u8 2)) 7 (.int .u32 3)) 8 (.int .u8 1)) 9 (.int .u8 4)) 10 (.int .u16 5)
        rw [kgset4 f4 t4 e2 s ⟨none, 0, 0⟩] at h9
        exact box_drew h9
      · exact Below.drew <| Below.setCell (Below.setCell (Below.setCell (Below.setCell (Below.setCell (Below.setCell (HBU.out) HML.out _) HML.out _) HML.out _) HML.out _) HML.out _) HML.out _
    · have x5 : U.cell? ⟨M, 5, none⟩ = some (.int .u32 0) := HC.out 5
      have z5 := HZ.out 5
      go_wp2_with fail
      go_meet
      refine ⟨⟨none, 0, 0⟩, ?_, (fun w' _ => kg_at w' _ _ _ _ _ _ rfl (by decide)), by simp, ?_⟩
      · have hb := HBX.out
        rw [← HMA.out] at hb
        have h9 := box_set (hb) 5 (.int .u32 s)
        rw [kgset5 f4 t4 e2 s ⟨none, 0, 0⟩] at h9
        exact h9
      · exact Below.setCell (HBU.out) HML.out _
    · have x1 : U.cell? ⟨M, 1, none⟩ = some (.int .u8 f4) := HC.out 1
      have z1 := HZ.out 1
      have x3 : U.cell? ⟨M, 3, none⟩ = some (.int .u8 e2) := HC.out 3
      have z3 := HZ.out 3
      have x15 : U.cell? ⟨M, 15, none⟩ = some (.int .u8 0) := HC.out 15
      have z15 := HZ.out 15
      have x16 : U.cell? ⟨M, 16, none⟩ = some (.int .u8 0) := HC.out 16
      have z16 := HZ.out 16
      have x17 : U.cell? ⟨M, 17, none⟩ = some (.int .u32 0) := HC.out 17
      have z17 := HZ.out 17
      have x18 : U.cell? ⟨M, 18, none⟩ = some (.int .u32 0) := HC.out 18
      have z18 := HZ.out 18
      have x19 : U.cell? ⟨M, 19, none⟩ = some (.slice none 0 0) := HC.out 19
      have z19 := HZ.out 19
      have x20 : U.cell? ⟨M, 20, none⟩ = some (.slice none 0 0) := HC.out 20
      have z20 := HZ.out 20
      have x21 : U.cell? ⟨M, 21, none⟩ = some (.slice none 0 0) := HC.out 21
      have z21 := HZ.out 21
      go_wp2_with fail
      go_meet
      refine ⟨⟨none, 0, 0⟩, ?_, (fun w' _ => kg_at w' _ _ _ _ _ _ rfl (by decide)), by simp, ?_⟩
      · have hb := HBX.out
        rw [← HMA.out] at hb
        have h9 := box_set (box_set (box_set (box_set (box_set (box_set (box_set (hb) 15 (.int .u8 f4)) 16 (.int .u8 e2)) 17 (.int .u32 1)) 18 (.int .u32 0)) 19 (.slice none 0 0)) 20 (.slice none 0 0)) 21 (.slice none 0 0)
        rw [kgset6 f4 t4 e2 s ⟨none, 0, 0⟩] at h9
        exact h9
      · exact Below.setCell (Below.setCell (Below.setCell (Below.setCell (Below.setCell (Below.setCell (Below.setCell (HBU.out) HML.out _) HML.out _) HML.out _) HML.out _) HML.out _) HML.out _) HML.out _
    · have x4 : U.cell? ⟨M, 4, none⟩ = some (.int .u32 0) := HC.out 4
      have z4 := HZ.out 4
      go_wp2_with fail
      go_meet
      refine ⟨⟨none, 0, 0⟩, ?_, (fun w' _ => kg_at w' _ _ _ _ _ _ rfl (by decide)), by simp, ?_⟩
      · have hb := HBX.out
        rw [← HMA.out] at hb
        have h9 := box_set (hb) 4 (.int .u32 3)
        rw [kgset7 f4 t4 e2 s ⟨none, 0, 0⟩] at h9
        exact h9
      · exact Below.setCell (HBU.out) HML.out _
    · have x3 : U.cell? ⟨M, 3, none⟩ = some (.int .u8 e2) := HC.out 3
      have z3 := HZ.out 3
      have x12 : U.cell? ⟨M, 12, none⟩ = some (.int .u8 0) := HC.out 12
      have z12 := HZ.out 12
      go_wp2_with fail
      go_meet
      refine ⟨⟨none, 0, 0⟩, ?_, (fun w' _ => kg_at w' _ _ _ _ _ _ rfl (by decide)), by simp, ?_⟩
      · have hb := HBX.out
        rw [← HMA.out] at hb
        have h9 := box_set (hb) 12 (.int .u8 e2)
        rw [kgset8 f4 t4 e2 s ⟨none, 0, 0⟩] at h9
        exact h9
      · exact Below.setCell (HBU.out) HML.out _
    · have x3 : U.cell? ⟨M, 3, none⟩ = some (.int .u8 e2) := HC.out 3
      have z3 := HZ.out 3
      have x12 : U.cell? ⟨M, 12, none⟩ = some (.int .u8 0) := HC.out 12
      have z12 := HZ.out 12
      go_wp2_with fail
      go_meet
      refine ⟨⟨none, 0, 0⟩, ?_, (fun w' _ => kg_at w' _ _ _ _ _ _ rfl (by decide)), by simp, ?_⟩
      · have hb := HBX.out
        rw [← HMA.out] at hb
        have h9 := box_set (hb) 12 (.int .u8 e2)
        rw [kgset9 f4 t4 e2 s ⟨none, 0, 0⟩] at h9
        exact h9
      · exact Below.setCell (HBU.out) HML.out _
    · have x5 : U.cell? ⟨M, 5, none⟩ = some (.int .u32 0) := HC.out 5
      have z5 := HZ.out 5
      go_wp2_with fail
      go_meet
      refine ⟨⟨none, 0, 0⟩, ?_, (fun w' _ => kg_at w' _ _ _ _ _ _ rfl (by decide)), by simp, ?_⟩
      · have hb := HBX.out
        rw [← HMA.out] at hb
        have h9 := box_set (hb) 5 (.int .u32 s)
        rw [kgset10 f4 t4 e2 s ⟨none, 0, 0⟩] at h9
        exact h9
      · exact Below.setCell (HBU.out) HML.out _
    · have x5 : U.cell? ⟨M, 5, none⟩ = some (.int .u32 0) := HC.out 5
      have z5 := HZ.out 5
      go_wp2_with fail
      go_meet
      refine ⟨⟨none, 0, 0⟩, ?_, (fun w' _ => kg_at w' _ _ _ _ _ _ rfl (by decide)), by simp, ?_⟩
      · have hb := HBX.out
        rw [← HMA.out] at hb
        have h9 := box_set (hb) 5 (.int .u32 s)
        rw [kgset11 f4 t4 e2 s ⟨none, 0, 0⟩] at h9
        exact h9
      · exact Below.setCell (HBU.out) HML.out _
    · have x5 : U.cell? ⟨M, 5, none⟩ = some (.int .u32 0) := HC.out 5
      have z5 := HZ.out 5
      have x23 : U.cell? ⟨M, 23, none⟩ = some (.slice none 0 0) := HC.out 23
      have z23 := HZ.out 23
      have hms := mk8
      have hMl : M < U.heap.size := lt_of_block HBX.out
      have hMe : ¬ M = U.heap.size := by omega
      go_upto_region 25 with fail
      go_region
      go_wp2_with fail
      go_meet
      obtain ⟨X, hX⟩ : ∃ X, X = (U.setCell ⟨M, 5, none⟩ (.int .u32 s)).setCell ⟨M, 23, none⟩ (.slice (some ⟨U.heap.size, 0, none⟩) 8 8) := ⟨_, rfl⟩
      have hXs : X.heap.size = U.heap.size := by rw [hX]; simp [World.setCell]
      have hb := HBX.out
      rw [← HMA.out] at hb
      have h9 := box_set (box_set hb 5 (.int .u32 s)) 23 (.slice (some ⟨U.heap.size, 0, none⟩) 8 8)
      rw [← hX, kgset12 f4 t4 e2 s ⟨some ⟨U.heap.size, 0, none⟩, 8, 8⟩] at h9
      have hbel : Below w.heap.size w X := by rw [hX]; exact Below.setCell (Below.setCell HBU.out HML.out _) HML.out _
      refine ⟨⟨some ⟨U.heap.size, 0, none⟩, 8, 8⟩, ?_, ?_, by simp, ?_⟩
      · rw [← hX]
        exact box_drew ((heap_alloc_old _ _ (by rw [hXs]; exact hMl)).trans h9)
      · rw [← hX, ← hXs]
        intro w' hk'
        exact kg12_kept (kg12_at X f4 t4 e2 s) hk' (fun b off e => by injection e with e; injection e with e1 e2; omega)
      · rw [← hX]
        exact Below.drew (hbel.alloc hbel.size _)
    · have x5 : U.cell? ⟨M, 5, none⟩ = some (.int .u32 0) := HC.out 5
      have z5 := HZ.out 5
      go_wp2_with fail
      go_meet
      refine ⟨⟨none, 0, 0⟩, ?_, (fun w' _ => kg_at w' _ _ _ _ _ _ rfl (by decide)), by simp, ?_⟩
      · have hb := HBX.out
        rw [← HMA.out] at hb
        have h9 := box_set (hb) 5 (.int .u32 s)
        rw [kgset13 f4 t4 e2 s ⟨none, 0, 0⟩] at h9
        exact h9
      · exact Below.setCell (HBU.out) HML.out _
    · have x2 : U.cell? ⟨M, 2, none⟩ = some (.int .u8 t4) := HC.out 2
      have z2 := HZ.out 2
      have x6 : U.cell? ⟨M, 6, none⟩ = some (.int .u8 0) := HC.out 6
      have z6 := HZ.out 6
      have x7 : U.cell? ⟨M, 7, none⟩ = some (.int .u32 0) := HC.out 7
      have z7 := HZ.out 7
      have x8 : U.cell? ⟨M, 8, none⟩ = some (.int .u8 0) := HC.out 8
      have z8 := HZ.out 8
      have x9 : U.cell? ⟨M, 9, none⟩ = some (.int .u8 0) := HC.out 9
      have z9 := HZ.out 9
      have x10 : U.cell? ⟨M, 10, none⟩ = some (.int .u16 0) := HC.out 10
      have z10 := HZ.out 10
      go_upto_region 12 with fail
      go_region
      go_wp2_with fail
      go_meet
      refine ⟨⟨none, 0, 0⟩, ?_, (fun w' _ => kg_at w' _ _ _ _ _ _ rfl (by decide)), by simp, ?_⟩
      · have hb := HBX.out
        rw [← HMA.out] at hb
        have h9 := box_set (box_set (box_set (box_set (box_set (box_set (hb) 2 (.int .u8 12)) 6 (.int .u8 2)) 7 (.int .u32 3)) 8 (.int .u8 1)) 9 (.int .u8 4)) 10 (.int .u16 5)
        rw [kgset14 f4 t4 e2 s ⟨none, 0, 0⟩] at h9
        exact box_drew h9
      · exact Below.drew <| Below.setCell (Below.setCell (Below.setCell (Below.setCell (Below.setCell (Below.setCell (HBU.out) HML.out _) HML.out _) HML.out _) HML.out _) HML.out _) HML.out _
  case rest =>
    obtain ⟨sm, hb, hatt, hsn, hbel⟩ := hcut
    have hat := hatt wc (Kept.refl _ _)
    have hIs := kg_is k hk1 hk2 f4 t4 e2 s sm hf4b.1 hf4b.2 ht4b.1 ht4b.2 he2b.1 he2b.2 hsb.1 hsb.2 hsn
    have hLen := kg_len k hk1 hk2 f4 t4 e2 s sm
    have hLen2 := encM_len hat hIs
    have HK := Lib.hid (kg_k k hk1 hk2 f4 t4 e2 s sm)
    have HSP := Lib.hid (fun j vs h1 h2 => kg_sp k j hk1 hk2 h1 h2 f4 t4 e2 s sm vs)
    have HVS := Lib.hid (kg_vs k hk1 hk2 f4 t4 e2 s sm)
    have HOK := Lib.hid (kc_ok k)
    have hT := Tab.on HT.out hbel
    generalize kg k f4 t4 e2 s sm = m at *
    generalize kc k = c at *
    have HCE := Lib.hid (enc_ok wc m c hat HOK.out hT)
    have HCI := Lib.hid (fun w' (h : Below wc.heap.size wc w') => is_all w' m c (hat.below h) HOK.out (Tab.on hT h))
    rw [hIs] at HCE HCI
    have hfirst : (encM m c)[0]? = some k := by rw [← HK.out]; rfl
    have HAT := Lib.hid hatt
    have HB := Lib.hid hb
    have HBEL := Lib.hid hbel
    have HTT := Lib.hid hT
    generalize hel : encM m c = el at *
    have HFI := Lib.hid hfirst
    clear hb hat hatt hbel hIs hsn hel hT hfirst HBX HMA HQ3 HQU HMQ B1 B2 B3 HBU
    generalize hA : m.cells.toArray = A at *
    have HSZ := Lib.hid (show A.size = 25 by rw [← hA]; rfl)
    have HA := Lib.hid hA
    clear hA
    go_upto_region 26 with fail
    refine wp_region_lit ?_
    refine wpList_load_row rfl 37 (.tmp 15) rfl M rfl 37 _ (0, 0) _ HB.out Tryd.underlying37 rfl (by rw [HSZ.out]; exact size37) ?_
    go_wp2_with fail
    refine Calls.mono HCE.out ?_
    rintro e' w5 ⟨hres, hb5⟩
    rcases hres with ⟨h, -⟩ | ⟨-, ao, kc2, rfl, hnew⟩
    · cases h
    obtain ⟨gb, rfl, hcb⟩ : ∃ gb, ao = some ⟨gb, 0, none⟩ ∧ w5.cell? ⟨gb, 0, none⟩ = some (.int .u8 k) := by
      rcases hnew.1.2 with ⟨h1, h2⟩ | ⟨g', cap, cur, h1, -⟩
      · omega
      · injection h1 with h1 h2 h3
        subst h1
        refine ⟨g', rfl, ?_⟩
        have h4 := hnew.1.cells (g := g') rfl 0 (.int .u8 k) (by simp [vals, HFI.out])
        simpa [Addr.add] using h4
    have B5 := Lib.hid hb5
    have HB5 := Lib.hid ((hb5.block M (lt_of_block HB.out)).trans HB.out)
    have HGB := Lib.hid (cell_block hcb)
    have HCB := Lib.hid hcb
    generalize hln : el.length = ln at *
    have hln5 : ¬ (ln : Int) < 5 := by omega
    clear hb5 hnew hcb hln HCE HFI
    go_upto_region 27 with fail
    refine wp_region_lit ?_
    refine wpList_load_row rfl 37 (.tmp 15) rfl M rfl 37 _ (0, 0) _ HB5.out Tryd.underlying37 rfl (by rw [HSZ.out]; exact size37) ?_
    go_wp2_with fail
    refine Calls.mono (HCI.out _ B5.out) ?_
    rintro e' w6 ⟨rfl, hb6⟩
    have B6 := Lib.hid (Below.up B5.out hb6)
    have HB6 := Lib.hid ((hb6.block M (lt_of_block HB5.out)).trans HB5.out)
    have hc6 : w6.cell? ⟨gb, 0, none⟩ = some (.int .u8 k) := (hb6.cell HGB.out).trans HCB.out
    clear hb6
    obtain ⟨j, hj⟩ : ∃ j, j = sp % 6 := ⟨_, rfl⟩
    have hj0 : 0 ≤ j := by omega
    have hj5 : j ≤ 5 := by omega
    have hln0 : (0 : Int) < (ln : Int) := by omega
    go_upto_block 1 with fail
    rw [← hj]
    clear hj
    go_cut [] from 19 (fun wx => ∃ m' c', wx.heap[M]? = some (.cells m'.cells.toArray 37 (0, 0)) ∧ MgAt wx m' c' ∧ McOk c' ∧ isM m' c' = false ∧ Below w.heap.size w wx)
    case first =>
      have hA := HA.out
      have hb := HB6.out
      rw [← hA] at hb
      have hMl : M < w6.heap.size := lt_of_block hb
      have HBB := Lib.hid hb
      have HK6 : Hid (Kept (fun b => b = M) wc w6) := Lib.hid (Kept.ofBelow B6.out)
      have HBW6 := Lib.hid (HBEL.out.trans (B6.out.mono HBEL.out.size))
      clear hA hb
      have hcase : j = 0 ∨ j = 1 ∨ j = 2 ∨ j = 3 ∨ j = 4 ∨ j = 5 := by omega
      rcases hcase with rfl | rfl | rfl | rfl | rfl | rfl
      · have x1 : w6.cell? ⟨M, 3, none⟩ = some (.int .u8 m.e) := by rw [cell_of_row _ _ _ _ _ _ HBB.out]; rfl
        have z1 : w6.frozen? ⟨M, 3, none⟩ = false := frozen_of_row _ _ _ _ _ HBB.out
        go_wp2_with fail
        go_meet
        have h9 := box_set HBB.out 3 (.int .u8 201)
        rw [spset0 m ⟨none, 0, 0⟩] at h9
        have hat2 := HAT.out _ (HK6.out.setCell ⟨M, 3, none⟩ (.int .u8 201) (fun _ => rfl))
        exact ⟨spM m ⟨none, 0, 0⟩ 0, c, h9, ⟨hat2.vt, hat2.vs, hat2.sm, hat2.dt⟩, HOK.out, HSP.out 0 _ (by decide) (by decide), Below.setCell HBW6.out HML.out _⟩
      · have x1 : w6.cell? ⟨M, 2, none⟩ = some (.int .u8 m.t) := by rw [cell_of_row _ _ _ _ _ _ HBB.out]; rfl
        have z1 : w6.frozen? ⟨M, 2, none⟩ = false := frozen_of_row _ _ _ _ _ HBB.out
        go_wp2_with fail
        go_meet
        have h9 := box_set HBB.out 2 (.int .u8 9)
        rw [spset1 m ⟨none, 0, 0⟩] at h9
        have hat2 := HAT.out _ (HK6.out.setCell ⟨M, 2, none⟩ (.int .u8 9) (fun _ => rfl))
        exact ⟨spM m ⟨none, 0, 0⟩ 1, c, h9, ⟨hat2.vt, hat2.vs, hat2.sm, hat2.dt⟩, HOK.out, HSP.out 1 _ (by decide) (by decide), Below.setCell HBW6.out HML.out _⟩
      · have x1 : w6.cell? ⟨M, 1, none⟩ = some (.int .u8 m.f) := by rw [cell_of_row _ _ _ _ _ _ HBB.out]; rfl
        have z1 : w6.frozen? ⟨M, 1, none⟩ = false := frozen_of_row _ _ _ _ _ HBB.out
        go_wp2_with fail
        go_meet
        have h9 := box_set HBB.out 1 (.int .u8 20)
        rw [spset2 m ⟨none, 0, 0⟩] at h9
        have hat2 := HAT.out _ (HK6.out.setCell ⟨M, 1, none⟩ (.int .u8 20) (fun _ => rfl))
        exact ⟨spM m ⟨none, 0, 0⟩ 2, c, h9, ⟨hat2.vt, hat2.vs, hat2.sm, hat2.dt⟩, HOK.out, HSP.out 2 _ (by decide) (by decide), Below.setCell HBW6.out HML.out _⟩
      · have x1 : w6.cell? ⟨M, 0, none⟩ = some (.int .u8 m.k) := by rw [cell_of_row _ _ _ _ _ _ HBB.out]; rfl
        have z1 : w6.frozen? ⟨M, 0, none⟩ = false := frozen_of_row _ _ _ _ _ HBB.out
        go_wp2_with fail
        go_meet
        have h9 := box_set HBB.out 0 (.int .u8 15)
        rw [spset3 m ⟨none, 0, 0⟩] at h9
        have hat2 := HAT.out _ (HK6.out.setCell ⟨M, 0, none⟩ (.int .u8 15) (fun _ => rfl))
        exact ⟨spM m ⟨none, 0, 0⟩ 3, c, h9, ⟨hat2.vt, hat2.vs, hat2.sm, hat2.dt⟩, HOK.out, HSP.out 3 _ (by decide) (by decide), Below.setCell HBW6.out HML.out _⟩
      · have x1 : w6.cell? ⟨M, 22, none⟩ = some (.slice m.vs.a m.vs.n m.vs.c) := by rw [cell_of_row _ _ _ _ _ _ HBB.out]; rfl
        have z1 : w6.frozen? ⟨M, 22, none⟩ = false := frozen_of_row _ _ _ _ _ HBB.out
        have hms := mk1
        have hMe : ¬ M = w6.heap.size := by omega
        go_wp2_with fail
        go_meet
        obtain ⟨X, hX⟩ : ∃ X, X = w6.setCell ⟨M, 22, none⟩ (.slice (some ⟨w6.heap.size, 0, none⟩) 1 1) := ⟨_, rfl⟩
        have hXs : X.heap.size = w6.heap.size := by rw [hX]; simp [World.setCell]
        have h9 := box_set HBB.out 22 (.slice (some ⟨w6.heap.size, 0, none⟩) 1 1)
        rw [← hX, spset4 m ⟨some ⟨w6.heap.size, 0, none⟩, 1, 1⟩] at h9
        have hbel : Below w.heap.size w X := by rw [hX]; exact Below.setCell HBW6.out HML.out _
        have hkX : Kept (fun b => b = M) wc X := by rw [hX]; exact HK6.out.setCell _ _ (fun _ => rfl)
        rw [← hX]
        have hat2 := HAT.out _ (hkX.alloc (.cells #[.int .u8 0, .int .u8 0, .int .u32 0, .int .u32 0, .slice none 0 0, .slice none 0 0, .slice none 0 0] 32))
        refine ⟨spM m ⟨some ⟨w6.heap.size, 0, none⟩, 1, 1⟩ 4, spC c 4, (heap_alloc_old _ _ (by rw [hXs]; exact hMl)).trans h9, ⟨hat2.vt, ?_, hat2.sm, hat2.dt⟩, vs0_ok HOK.out, HSP.out 4 _ (by decide) (by decide), hbel.alloc hbel.size _⟩
        rw [← hXs]
        exact row1 X
      · have x1 : w6.cell? ⟨M, 5, none⟩ = some (.int .u32 m.sq) := by rw [cell_of_row _ _ _ _ _ _ HBB.out]; rfl
        have z1 : w6.frozen? ⟨M, 5, none⟩ = false := frozen_of_row _ _ _ _ _ HBB.out
        go_wp2_with fail
        go_meet
        have h9 := box_set HBB.out 5 (.int .u32 1073741825)
        rw [spset5 m ⟨none, 0, 0⟩] at h9
        have hat2 := HAT.out _ (HK6.out.setCell ⟨M, 5, none⟩ (.int .u32 1073741825) (fun _ => rfl))
        exact ⟨spM m ⟨none, 0, 0⟩ 5, c, h9, ⟨hat2.vt, hat2.vs, hat2.sm, hat2.dt⟩, HOK.out, HSP.out 5 _ (by decide) (by decide), Below.setCell HBW6.out HML.out _⟩
    case rest =>
      obtain ⟨m2, c2, hb, hat, hok, hno, hbel⟩ := hcut
      have hT := Tab.on HT.out hbel
      have HCE := Lib.hid (enc_ok wc m2 c2 hat hok hT)
      have HCI := Lib.hid (fun w' (h : Below wc.heap.size wc w') => is_all w' m2 c2 (hat.below h) hok (Tab.on hT h))
      rw [hno] at HCE HCI
      have HB7 := Lib.hid hb
      have HBEL7 := Lib.hid hbel
      clear hb hat hok hno hbel hT
      generalize hA2 : m2.cells.toArray = A2 at *
      have HSZ2 := Lib.hid (show A2.size = 25 by rw [← hA2]; rfl)
      clear hA2
      go_upto_region 41 with fail
      refine wp_region_lit ?_
      refine wpList_load_row rfl 37 (.tmp 15) rfl M rfl 37 _ (0, 0) _ HB7.out Tryd.underlying37 rfl (by rw [HSZ2.out]; exact size37) ?_
      go_wp2_with fail
      refine Calls.mono HCE.out ?_
      rintro e' w7 ⟨hres, hb7⟩
      rcases hres with ⟨-, rfl⟩ | ⟨h, -⟩
      rotate_left
      · cases h
      have B7 := Lib.hid hb7
      have HB8 := Lib.hid ((hb7.block M (lt_of_block HB7.out)).trans HB7.out)
      clear hb7
      go_upto_region 42 with fail
      refine wp_region_lit ?_
      refine wpList_load_row rfl 37 (.tmp 15) rfl M rfl 37 _ (0, 0) _ HB8.out Tryd.underlying37 rfl (by rw [HSZ2.out]; exact size37) ?_
      go_wp2_with fail
      refine Calls.mono (HCI.out _ B7.out) ?_
      rintro e' w8 ⟨rfl, hb8⟩
      have B8 := Lib.hid (HBEL7.out.trans ((Below.up B7.out hb8).mono HBEL7.out.size))
      clear hb8
      go_wp2_with fail
      go_ret
      exact ⟨rfl, B8.out⟩
end Go.Proofs.YtigpfaecbmnklaaDoor
