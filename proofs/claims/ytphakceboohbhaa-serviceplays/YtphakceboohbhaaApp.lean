/- Requests done once: the program's Apply. -/
import Derived.Test.YtphakceboohbhaaSvc
namespace Go.Proofs.Ytphakceboohbhaa
open Go.RowKit
set_option maxRecDepth 100000

set_option maxHeartbeats 4000000 in
theorem apply_any (w : World) (B : Nat) (s : Sv) (r : Rq) (hr : r.ok) (h : Ms w B s) (hg : ∀ i, 0 ≤ s.V i ∧ s.V i ≤ 65535) :
    Calls Try.prog 13 #[.pointer (some ⟨B, 0, none⟩), .agg r.cells.toArray] w fun e w' => e = .returned (.tuple #[.int .u32 (apR s r), .bool (apB s r)]) ∧ Kept (fun i => i = B) w w' ∧ Ms w' B (apS s r) := by
  have b0 : Below w.heap.size w (w.alloc (.cells r.cells.toArray 38)) := (Below.refl _ w).alloc (Nat.le_refl _) _
  have hM := h.below b0 h.lt
  have C := Lib.hid (new_svc _ B s r hr hM)
  have X := Lib.hid (And.intro (box_new w r) (And.intro b0 (And.intro hM hr)))
  have HG := Lib.hid (And.intro hg h.lt)
  clear b0 h hr hM hg
  obtain ⟨c, t, k, y, v⟩ := r
  simp only [Rq.cells] at C X ⊢
  by_cases hn : svNew s ⟨c, t, k, y, v⟩ = true
  · rw [hn] at C
    replace hn := Lib.hid hn
    go_enter Try.func13, Try.ntmps13
    go_wp2_with fail
    refine C.out.mono ?_
    rintro e w2 ⟨rfl, b2⟩
    obtain ⟨q0, q1, q2, q3, q4⟩ := (X.out.1.below b2 (by simp)).cells
    have X2 := Lib.hid (And.intro (X.out.1.below b2 (by simp)) (And.intro (X.out.2.1.trans (b2.mono (by simp))) (X.out.2.2.1.below b2 X.out.2.2.1.lt)))
    clear C b2
    go_wp2_with fail
    have hb := Rq.real_bounds (r := ⟨c, t, k, y, v⟩) (by have := hn.out; unfold svNew at this; simp only [Bool.and_eq_true] at this; exact this.1)
    have hok := X.out.2.2.2
    obtain ⟨ky, rfl⟩ : ∃ n : Nat, y = n := ⟨y.toNat, by have := hok.2.2.2.1; simp only at this; omega⟩
    obtain ⟨kc, rfl⟩ : ∃ n : Nat, c = n := ⟨c.toNat, by have := hb.1; simp only at this; omega⟩
    simp only at hb
    have hky : ky < 64 := by omega
    have hkc : 1 ≤ kc ∧ kc ≤ 4 := by omega
    have G0 := get_any w2.drew B ky s.V s.T s.R X2.out.2.2
    rw [if_pos hky] at G0
    have G := Lib.hid G0
    have D0 := do_any w2.drew ⟨kc, t, k, ky, v⟩ hok (s.V ky) (HG.out.1 ky)
    have HE : apS s ⟨kc, t, k, ky, v⟩ = ⟨upd s.V ky (doV ⟨kc, t, k, ky, v⟩ (s.V ky)), upd s.T (kc - 1) t, upd s.R (kc - 1) (doR ⟨kc, t, k, ky, v⟩ (s.V ky))⟩ := by
      unfold apS; rw [if_pos hn.out]; rfl
    have HR : apR s ⟨kc, t, k, ky, v⟩ = doR ⟨kc, t, k, ky, v⟩ (s.V ky) := by
      unfold apR; rw [if_pos hn.out]; rfl
    have HBn : apB s ⟨kc, t, k, ky, v⟩ = true := by unfold apB; rw [hn.out]; rfl
    generalize doV ⟨kc, t, k, ky, v⟩ (s.V ky) = dv at D0 HE
    generalize doR ⟨kc, t, k, ky, v⟩ (s.V ky) = dr at D0 HE HR
    generalize s.V ky = x at G D0
    simp only at D0
    have DO := Lib.hid D0
    have hc : Hid (∀ wx, Below w2.heap.size w2 wx → wx.cell? ⟨w.heap.size, 0, none⟩ = some (.int .u8 kc) ∧ wx.cell? ⟨w.heap.size, 1, none⟩ = some (.int .u32 t) ∧ wx.cell? ⟨w.heap.size, 2, none⟩ = some (.int .u8 k) ∧ wx.cell? ⟨w.heap.size, 3, none⟩ = some (.int .u8 ky) ∧ wx.cell? ⟨w.heap.size, 4, none⟩ = some (.int .u16 v)) :=
      Lib.hid (fun wx hw => (X2.out.1.below hw X2.out.1.lt).cells)
    have BG : Hid (Below w2.heap.size w2 w2.drew) := Lib.hid (Below.refl _ w2).drew
    have HF := Lib.hid (And.intro HE (And.intro HR (And.intro HBn (And.intro hkc (And.intro hky hb.2.1)))))
    clear G0 D0 HE HR HBn hkc hky hb hok X q0 q1 q2 q3 q4
    refine wp_region_held_drew (S := Below w2.heap.size w2) (by kernel_rfl) (BG.out) (fun hS => ?_)
    refine takeA (i := 0) (v := .pointer (some ⟨w.heap.size, 2, none⟩)) ({ tmps := #[.pointer (some ⟨B, 0, none⟩), .agg #[.int .u8 ↑kc, .int .u32 t, .int .u8 k, .int .u8 ↑ky, .int .u16 v], undef, .pointer (some ⟨w.heap.size, 0, none⟩), .int .u32 0, .bool false, undef, undef, .pointer (some ⟨B, 0, none⟩), .agg #[.int .u8 ↑kc, .int .u32 t, .int .u8 k, .int .u8 ↑ky, .int .u16 v], .bool true, .bool false, undef, undef, undef, undef, undef, undef, .pointer (some ⟨w.heap.size, 2, none⟩), undef, undef, undef, undef, undef, undef, undef, undef, undef, undef, undef, undef, undef, undef, undef, undef, undef, undef, undef, undef, undef, undef, undef], defers := [] }) rfl (by kernel_rfl) (by kernel_rfl) (by kernel_rfl) (fun _ _ _ h => h) (.inl ⟨rfl, fun _ _ => by go_simp⟩) hS rfl ?_
    refine takeA (i := 1) (v := .agg #[.int .u8 k, .int .u8 ↑ky, .int .u16 v]) ({ tmps := #[.pointer (some ⟨B, 0, none⟩), .agg #[.int .u8 ↑kc, .int .u32 t, .int .u8 k, .int .u8 ↑ky, .int .u16 v], undef, .pointer (some ⟨w.heap.size, 0, none⟩), .int .u32 0, .bool false, undef, undef, .pointer (some ⟨B, 0, none⟩), .agg #[.int .u8 ↑kc, .int .u32 t, .int .u8 k, .int .u8 ↑ky, .int .u16 v], .bool true, .bool false, undef, undef, undef, undef, undef, undef, .pointer (some ⟨w.heap.size, 2, none⟩), .agg #[.int .u8 k, .int .u8 ↑ky, .int .u16 v], undef, undef, undef, undef, undef, undef, undef, undef, undef, undef, undef, undef, undef, undef, undef, undef, undef, undef, undef, undef, undef, undef], defers := [] }) rfl (by kernel_rfl) (by kernel_rfl) (by kernel_rfl) (fun _ _ _ h => h) (yi_load 36 _ (.pointer (some ⟨w.heap.size, 2, none⟩)) rfl rfl rfl (fun wx hw => by obtain ⟨q0, q1, q2, q3, q4⟩ := hc.out wx hw; go_simp)) hS rfl ?_
    refine takeA (i := 2) (v := .pointer (some ⟨B, 0, none⟩)) ({ tmps := #[.pointer (some ⟨B, 0, none⟩), .agg #[.int .u8 ↑kc, .int .u32 t, .int .u8 k, .int .u8 ↑ky, .int .u16 v], undef, .pointer (some ⟨w.heap.size, 0, none⟩), .int .u32 0, .bool false, undef, undef, .pointer (some ⟨B, 0, none⟩), .agg #[.int .u8 ↑kc, .int .u32 t, .int .u8 k, .int .u8 ↑ky, .int .u16 v], .bool true, .bool false, undef, undef, undef, undef, undef, undef, .pointer (some ⟨w.heap.size, 2, none⟩), .agg #[.int .u8 k, .int .u8 ↑ky, .int .u16 v], .pointer (some ⟨B, 0, none⟩), undef, undef, undef, undef, undef, undef, undef, undef, undef, undef, undef, undef, undef, undef, undef, undef, undef, undef, undef, undef, undef], defers := [] }) rfl (by kernel_rfl) (by kernel_rfl) (by kernel_rfl) (fun _ _ _ h => h) (.inl ⟨rfl, fun _ _ => rfl⟩) hS rfl ?_
    refine takeA (i := 3) (v := .pointer (some ⟨w.heap.size, 2, none⟩)) ({ tmps := #[.pointer (some ⟨B, 0, none⟩), .agg #[.int .u8 ↑kc, .int .u32 t, .int .u8 k, .int .u8 ↑ky, .int .u16 v], undef, .pointer (some ⟨w.heap.size, 0, none⟩), .int .u32 0, .bool false, undef, undef, .pointer (some ⟨B, 0, none⟩), .agg #[.int .u8 ↑kc, .int .u32 t, .int .u8 k, .int .u8 ↑ky, .int .u16 v], .bool true, .bool false, undef, undef, undef, undef, undef, undef, .pointer (some ⟨w.heap.size, 2, none⟩), .agg #[.int .u8 k, .int .u8 ↑ky, .int .u16 v], .pointer (some ⟨B, 0, none⟩), .pointer (some ⟨w.heap.size, 2, none⟩), undef, undef, undef, undef, undef, undef, undef, undef, undef, undef, undef, undef, undef, undef, undef, undef, undef, undef, undef, undef], defers := [] }) rfl (by kernel_rfl) (by kernel_rfl) (by kernel_rfl) (fun _ _ _ h => h) (.inl ⟨rfl, fun _ _ => by go_simp⟩) hS rfl ?_
    refine takeA (i := 4) (v := .pointer (some ⟨w.heap.size, 3, none⟩)) ({ tmps := #[.pointer (some ⟨B, 0, none⟩), .agg #[.int .u8 ↑kc, .int .u32 t, .int .u8 k, .int .u8 ↑ky, .int .u16 v], undef, .pointer (some ⟨w.heap.size, 0, none⟩), .int .u32 0, .bool false, undef, undef, .pointer (some ⟨B, 0, none⟩), .agg #[.int .u8 ↑kc, .int .u32 t, .int .u8 k, .int .u8 ↑ky, .int .u16 v], .bool true, .bool false, undef, undef, undef, undef, undef, undef, .pointer (some ⟨w.heap.size, 2, none⟩), .agg #[.int .u8 k, .int .u8 ↑ky, .int .u16 v], .pointer (some ⟨B, 0, none⟩), .pointer (some ⟨w.heap.size, 2, none⟩), .pointer (some ⟨w.heap.size, 3, none⟩), undef, undef, undef, undef, undef, undef, undef, undef, undef, undef, undef, undef, undef, undef, undef, undef, undef, undef, undef], defers := [] }) rfl (by kernel_rfl) (by kernel_rfl) (by kernel_rfl) (fun _ _ _ h => h) (.inl ⟨rfl, fun _ _ => by go_simp⟩) hS rfl ?_
    refine takeA (i := 5) (v := .int .u8 ↑ky) ({ tmps := #[.pointer (some ⟨B, 0, none⟩), .agg #[.int .u8 ↑kc, .int .u32 t, .int .u8 k, .int .u8 ↑ky, .int .u16 v], undef, .pointer (some ⟨w.heap.size, 0, none⟩), .int .u32 0, .bool false, undef, undef, .pointer (some ⟨B, 0, none⟩), .agg #[.int .u8 ↑kc, .int .u32 t, .int .u8 k, .int .u8 ↑ky, .int .u16 v], .bool true, .bool false, undef, undef, undef, undef, undef, undef, .pointer (some ⟨w.heap.size, 2, none⟩), .agg #[.int .u8 k, .int .u8 ↑ky, .int .u16 v], .pointer (some ⟨B, 0, none⟩), .pointer (some ⟨w.heap.size, 2, none⟩), .pointer (some ⟨w.heap.size, 3, none⟩), .int .u8 ↑ky, undef, undef, undef, undef, undef, undef, undef, undef, undef, undef, undef, undef, undef, undef, undef, undef, undef, undef], defers := [] }) rfl (by kernel_rfl) (by kernel_rfl) (by kernel_rfl) (fun _ _ _ h => h) (yi_load 5 _ (.pointer (some ⟨w.heap.size, 3, none⟩)) rfl rfl rfl (fun wx hw => by obtain ⟨q0, q1, q2, q3, q4⟩ := hc.out wx hw; go_simp)) hS rfl ?_
    refine wpAnyH_ready (rs := [6]) (by kernel_rfl) (by simp) ?_
    refine AllReadyH.cons rfl (fun K hK => ?_) AllReadyH.nil
    rw [if_pos (by rfl)]
    go_simp
    refine Calls.mono (G.out) ?_
    rintro e w3 ⟨rfl, rfl⟩
    refine hK.out ({ tmps := #[.pointer (some ⟨B, 0, none⟩), .agg #[.int .u8 ↑kc, .int .u32 t, .int .u8 k, .int .u8 ↑ky, .int .u16 v], undef, .pointer (some ⟨w.heap.size, 0, none⟩), .int .u32 0, .bool false, undef, undef, .pointer (some ⟨B, 0, none⟩), .agg #[.int .u8 ↑kc, .int .u32 t, .int .u8 k, .int .u8 ↑ky, .int .u16 v], .bool true, .bool false, undef, undef, undef, undef, undef, undef, .pointer (some ⟨w.heap.size, 2, none⟩), .agg #[.int .u8 k, .int .u8 ↑ky, .int .u16 v], .pointer (some ⟨B, 0, none⟩), .pointer (some ⟨w.heap.size, 2, none⟩), .pointer (some ⟨w.heap.size, 3, none⟩), .int .u8 ↑ky, .int .u16 x, undef, undef, undef, undef, undef, undef, undef, undef, undef, undef, undef, undef, undef, undef, undef, undef, undef], defers := [] }) _ (BG.out) (fun hS => ?_)
    clear hK K
    refine wpAnyH_ready (rs := [7]) (by kernel_rfl) (by simp) ?_
    refine AllReadyH.cons rfl (fun K hK => ?_) AllReadyH.nil
    rw [if_pos (by rfl)]
    go_simp
    refine Calls.mono (DO.out) ?_
    rintro e w3 ⟨rfl, b3⟩
    have B3 := Lib.hid ((show Below w2.heap.size w2 w2.drew from (Below.refl _ w2).drew).trans b3)
    clear b3
    refine hK.out ({ tmps := #[.pointer (some ⟨B, 0, none⟩), .agg #[.int .u8 ↑kc, .int .u32 t, .int .u8 k, .int .u8 ↑ky, .int .u16 v], undef, .pointer (some ⟨w.heap.size, 0, none⟩), .int .u32 0, .bool false, undef, undef, .pointer (some ⟨B, 0, none⟩), .agg #[.int .u8 ↑kc, .int .u32 t, .int .u8 k, .int .u8 ↑ky, .int .u16 v], .bool true, .bool false, undef, undef, undef, undef, undef, undef, .pointer (some ⟨w.heap.size, 2, none⟩), .agg #[.int .u8 k, .int .u8 ↑ky, .int .u16 v], .pointer (some ⟨B, 0, none⟩), .pointer (some ⟨w.heap.size, 2, none⟩), .pointer (some ⟨w.heap.size, 3, none⟩), .int .u8 ↑ky, .int .u16 x, .tuple #[.int .u16 dv, .int .u32 dr], undef, undef, undef, undef, undef, undef, undef, undef, undef, undef, undef, undef, undef, undef, undef, undef], defers := [] }) _ (B3.out) (fun hS => ?_)
    clear hK K
    refine takeA (i := 8) (v := .tuple #[.int .u16 dv, .int .u32 dr]) ({ tmps := #[.pointer (some ⟨B, 0, none⟩), .agg #[.int .u8 ↑kc, .int .u32 t, .int .u8 k, .int .u8 ↑ky, .int .u16 v], undef, .pointer (some ⟨w.heap.size, 0, none⟩), .int .u32 0, .bool false, undef, undef, .pointer (some ⟨B, 0, none⟩), .agg #[.int .u8 ↑kc, .int .u32 t, .int .u8 k, .int .u8 ↑ky, .int .u16 v], .bool true, .bool false, undef, undef, undef, undef, undef, .tuple #[.int .u16 dv, .int .u32 dr], .pointer (some ⟨w.heap.size, 2, none⟩), .agg #[.int .u8 k, .int .u8 ↑ky, .int .u16 v], .pointer (some ⟨B, 0, none⟩), .pointer (some ⟨w.heap.size, 2, none⟩), .pointer (some ⟨w.heap.size, 3, none⟩), .int .u8 ↑ky, .int .u16 x, .tuple #[.int .u16 dv, .int .u32 dr], undef, undef, undef, undef, undef, undef, undef, undef, undef, undef, undef, undef, undef, undef, undef, undef], defers := [] }) rfl (by kernel_rfl) (by kernel_rfl) (by kernel_rfl) (fun _ _ _ h => h) (.inl ⟨rfl, fun _ _ => rfl⟩) hS rfl ?_
    refine takeA (i := 9) (v := .int .u16 dv) ({ tmps := #[.pointer (some ⟨B, 0, none⟩), .agg #[.int .u8 ↑kc, .int .u32 t, .int .u8 k, .int .u8 ↑ky, .int .u16 v], undef, .pointer (some ⟨w.heap.size, 0, none⟩), .int .u32 0, .bool false, undef, undef, .pointer (some ⟨B, 0, none⟩), .agg #[.int .u8 ↑kc, .int .u32 t, .int .u8 k, .int .u8 ↑ky, .int .u16 v], .bool true, .bool false, undef, undef, undef, undef, undef, .tuple #[.int .u16 dv, .int .u32 dr], .pointer (some ⟨w.heap.size, 2, none⟩), .agg #[.int .u8 k, .int .u8 ↑ky, .int .u16 v], .pointer (some ⟨B, 0, none⟩), .pointer (some ⟨w.heap.size, 2, none⟩), .pointer (some ⟨w.heap.size, 3, none⟩), .int .u8 ↑ky, .int .u16 x, .tuple #[.int .u16 dv, .int .u32 dr], .int .u16 dv, undef, undef, undef, undef, undef, undef, undef, undef, undef, undef, undef, undef, undef, undef, undef], defers := [] }) rfl (by kernel_rfl) (by kernel_rfl) (by kernel_rfl) (fun _ _ _ h => h) (.inl ⟨rfl, fun _ _ => by go_simp⟩) hS rfl ?_
    refine takeA (i := 10) (v := .int .u32 dr) ({ tmps := #[.pointer (some ⟨B, 0, none⟩), .agg #[.int .u8 ↑kc, .int .u32 t, .int .u8 k, .int .u8 ↑ky, .int .u16 v], undef, .pointer (some ⟨w.heap.size, 0, none⟩), .int .u32 0, .bool false, undef, undef, .pointer (some ⟨B, 0, none⟩), .agg #[.int .u8 ↑kc, .int .u32 t, .int .u8 k, .int .u8 ↑ky, .int .u16 v], .bool true, .bool false, undef, undef, undef, undef, undef, .tuple #[.int .u16 dv, .int .u32 dr], .pointer (some ⟨w.heap.size, 2, none⟩), .agg #[.int .u8 k, .int .u8 ↑ky, .int .u16 v], .pointer (some ⟨B, 0, none⟩), .pointer (some ⟨w.heap.size, 2, none⟩), .pointer (some ⟨w.heap.size, 3, none⟩), .int .u8 ↑ky, .int .u16 x, .tuple #[.int .u16 dv, .int .u32 dr], .int .u16 dv, .int .u32 dr, undef, undef, undef, undef, undef, undef, undef, undef, undef, undef, undef, undef, undef, undef], defers := [] }) rfl (by kernel_rfl) (by kernel_rfl) (by kernel_rfl) (fun _ _ _ h => h) (.inl ⟨rfl, fun _ _ => by go_simp⟩) hS rfl ?_
    refine takeA (i := 11) (v := .int .u16 dv) ({ tmps := #[.pointer (some ⟨B, 0, none⟩), .agg #[.int .u8 ↑kc, .int .u32 t, .int .u8 k, .int .u8 ↑ky, .int .u16 v], undef, .pointer (some ⟨w.heap.size, 0, none⟩), .int .u32 0, .bool false, .int .u16 dv, undef, .pointer (some ⟨B, 0, none⟩), .agg #[.int .u8 ↑kc, .int .u32 t, .int .u8 k, .int .u8 ↑ky, .int .u16 v], .bool true, .bool false, undef, undef, undef, undef, undef, .tuple #[.int .u16 dv, .int .u32 dr], .pointer (some ⟨w.heap.size, 2, none⟩), .agg #[.int .u8 k, .int .u8 ↑ky, .int .u16 v], .pointer (some ⟨B, 0, none⟩), .pointer (some ⟨w.heap.size, 2, none⟩), .pointer (some ⟨w.heap.size, 3, none⟩), .int .u8 ↑ky, .int .u16 x, .tuple #[.int .u16 dv, .int .u32 dr], .int .u16 dv, .int .u32 dr, undef, undef, undef, undef, undef, undef, undef, undef, undef, undef, undef, undef, undef, undef], defers := [] }) rfl (by kernel_rfl) (by kernel_rfl) (by kernel_rfl) (fun _ _ _ h => h) (.inl ⟨rfl, fun _ _ => rfl⟩) hS rfl ?_
    refine takeA (i := 12) (v := .int .u32 dr) ({ tmps := #[.pointer (some ⟨B, 0, none⟩), .agg #[.int .u8 ↑kc, .int .u32 t, .int .u8 k, .int .u8 ↑ky, .int .u16 v], undef, .pointer (some ⟨w.heap.size, 0, none⟩), .int .u32 0, .bool false, .int .u16 dv, .int .u32 dr, .pointer (some ⟨B, 0, none⟩), .agg #[.int .u8 ↑kc, .int .u32 t, .int .u8 k, .int .u8 ↑ky, .int .u16 v], .bool true, .bool false, undef, undef, undef, undef, undef, .tuple #[.int .u16 dv, .int .u32 dr], .pointer (some ⟨w.heap.size, 2, none⟩), .agg #[.int .u8 k, .int .u8 ↑ky, .int .u16 v], .pointer (some ⟨B, 0, none⟩), .pointer (some ⟨w.heap.size, 2, none⟩), .pointer (some ⟨w.heap.size, 3, none⟩), .int .u8 ↑ky, .int .u16 x, .tuple #[.int .u16 dv, .int .u32 dr], .int .u16 dv, .int .u32 dr, undef, undef, undef, undef, undef, undef, undef, undef, undef, undef, undef, undef, undef, undef], defers := [] }) rfl (by kernel_rfl) (by kernel_rfl) (by kernel_rfl) (fun _ _ _ h => h) (.inl ⟨rfl, fun _ _ => rfl⟩) hS rfl ?_
    refine wpAnyH_done (by kernel_rfl) ?_ _
    clear hS G DO BG
    obtain ⟨q0, q1, q2, q3, q4⟩ := hc.out _ B3.out
    have M3 := Lib.hid (X2.out.2.2.below B3.out X2.out.2.2.lt)
    have X3 := Lib.hid (X2.out.1.below B3.out X2.out.1.lt)
    have P0 := put_any w3 B ky dv s.V s.T s.R M3.out
    rw [if_pos HF.out.2.2.2.2.1] at P0
    have P := Lib.hid P0
    clear P0 hc
    go_wp2_with fail
    refine P.out.mono ?_
    rintro e w4 ⟨rfl, k4, m4⟩
    have X4 := X3.out.kept k4 (by have := HG.out.2; omega)
    obtain ⟨p0, p1, p2, p3, p4⟩ := X4.cells
    have P0 := setClient_some w4 B kc t dr _ _ _ m4 HF.out.2.2.2.1
    rw [if_neg HF.out.2.2.2.2.2] at P0
    have P5 := Lib.hid P0
    have K4 := Lib.hid (And.intro k4 m4)
    clear P P0 k4 m4 q0 q1 q2 q3 q4 X4
    go_wp2_with fail
    refine P5.out.mono ?_
    rintro e w5 ⟨rfl, k5, m5⟩
    have K5 := Lib.hid (And.intro k5 m5)
    clear k5 m5 P5
    go_wp2_with fail
    refine bodyPost_ret (v := .tuple #[.int .u32 dr, .bool true]) (by simp [results, Try.results13, go_sem]) rfl ⟨?_, ?_, ?_⟩
    · rw [HF.out.2.1, HF.out.2.2.1]
    · exact (Kept.ofBelow (X2.out.2.1.trans (B3.out.mono X2.out.2.1.size))).trans ((K4.out.1).trans K5.out.1 (fun _ _ h => h)) (fun _ _ h => h)
    · rw [HF.out.1]; exact K5.out.2
  · replace hn : svNew s ⟨c, t, k, y, v⟩ = false := by simpa using hn
    rw [hn] at C
    replace hn := Lib.hid hn
    go_enter Try.func13, Try.ntmps13
    go_wp2_with fail
    refine C.out.mono ?_
    rintro e w2 ⟨rfl, b2⟩
    obtain ⟨q0, q1, q2, q3, q4⟩ := (X.out.1.below b2 (by simp)).cells
    have X2 := Lib.hid (And.intro (X.out.2.1.trans (b2.mono (by simp))) (X.out.2.2.1.below b2 X.out.2.2.1.lt))
    have A := Lib.hid (again_any w2 B s ⟨c, t, k, y, v⟩ X.out.2.2.2 X2.out.2)
    simp only [Rq.cells] at A
    clear C b2
    go_wp2_with fail
    refine A.out.mono ?_
    rintro e w3 ⟨rfl, b3⟩
    have e3 := Lib.hid (And.intro (X2.out.1.trans (b3.mono X2.out.1.size)) (X2.out.2.below b3 X2.out.2.lt))
    clear b3
    go_wp2_with fail
    refine bodyPost_ret (v := .tuple #[.int .u32 (oldR s ⟨c, t, k, y, v⟩), .bool (oldB s ⟨c, t, k, y, v⟩)]) (by simp [results, Try.results13, go_sem]) rfl ⟨?_, Kept.ofBelow e3.out.1, ?_⟩
    · unfold apR apB; rw [hn.out]; simp
    · unfold apS; rw [if_neg (by rw [hn.out]; decide)]; exact e3.out.2
end Go.Proofs.Ytphakceboohbhaa
