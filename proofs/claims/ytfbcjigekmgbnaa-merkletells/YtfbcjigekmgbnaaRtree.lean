/- The document's groups and roots, and the sums of its map. -/
import Derived.Test.YtfbcjigekmgbnaaRpage
import Derived.Test.YtfbcjigekmgbnaaSum8
import Derived.Test.YtfbcjigekmgbnaaApp8
namespace Go.Proofs.Ytfbcjigekmgbnaa
open Go.RowKit
set_option maxRecDepth 100000

set_option maxHeartbeats 3200000 in
theorem rgroup_in (w : World) (ao : Option Addr) (cap : Nat) (l : List Int) (h : Qs w ao l) (g : Nat) (hn : l.length = 8) (hg : g < 4) :
    Calls Try.prog 24 #[.slice ao 8 cap, .int .i64 g] w fun e w' => e = .returned (.int .u64 (groupI l g)) ∧ Below w.heap.size w w' := by
  obtain ⟨b0, off, rfl, -⟩ := h 0 (by omega)
  obtain ⟨m, hm⟩ : ∃ m, m = 2 * g := ⟨_, rfl⟩
  obtain ⟨q, hq⟩ : ∃ q, q = 2 * g + 1 := ⟨_, rfl⟩
  have hm8 : m < 8 := by omega
  have hq8 : q < 8 := by omega
  have hm8' : (m : Int) < 8 := by omega
  have hq8' : (q : Int) < 8 := by omega
  have f0 : IntKind.i64.wrap (2 * (g : Int)) = (m : Int) := by rw [hm]; simp [IntKind.wrap, IntKind.signed, IntKind.bits]; omega
  have f1 : IntKind.i64.wrap ((m : Int) + 1) = (q : Int) := by rw [hm, hq]; simp [IntKind.wrap, IntKind.signed, IntKind.bits]; omega
  have g1 : ¬ (g : Int) < 0 := by omega
  have g2 : ¬ (3 : Int) < g := by omega
  have hgr : mixI (l.getD m 0) (l.getD q 0) = groupI l g := by rw [hm, hq]; rfl
  have cc : ∀ i, i < 8 → ∀ w', Qs w' (some ⟨b0, off, none⟩) l → w'.cell? ⟨b0, off + i, none⟩ = some (.int .u64 (l.getD i 0)) := fun i hi w' h => by
    obtain ⟨b, o, e, hc⟩ := h i (by omega)
    injection e with e; injection e with e1 e2; subst e1 e2
    exact hc
  have c1 := cc m hm8
  have c2 := cc q hq8
  generalize l.getD m 0 = x at *
  generalize l.getD q 0 = y at *
  have M := refMix_any x y w.drew
  rw [hgr] at M
  replace M := Lib.hid M
  have HQ := Lib.hid h
  clear hm hq hgr h hn cc hg
  go_enter Try.func24, Try.ntmps24
  go_wp2_with fail
  refine wp_region_held_drew (S := fun w' => Qs w' (some ⟨b0, off, none⟩) l) (by kernel_rfl) (qs_kept HQ.out ((Kept.refl (fun _ => False) _).drew) (fun _ _ _ h => h)) (fun hS => ?_)
  refine takeA (i := 0) (v := .slice (some ⟨b0, off, none⟩) 8 cap) ({ tmps := #[.slice (some ⟨b0, off, none⟩) 8 cap, .int .i64 ↑g, undef, undef, .int .u64 0, .slice (some ⟨b0, off, none⟩) 8 cap, .int .i64 8, .bool false, .bool false, .int .i64 ↑g, .bool false, .bool false, .bool false, .int .i64 ↑g, .bool false, .bool false, .slice (some ⟨b0, off, none⟩) 8 cap, undef, undef, undef, undef, undef, undef, undef, undef, undef, undef, undef], defers := [] }) rfl (by kernel_rfl) (by kernel_rfl) (by kernel_rfl) (fun _ _ _ h => h) (.inl ⟨rfl, fun _ _ => rfl⟩) hS rfl ?_
  refine takeA (i := 1) (v := .int .i64 ↑g) ({ tmps := #[.slice (some ⟨b0, off, none⟩) 8 cap, .int .i64 ↑g, undef, undef, .int .u64 0, .slice (some ⟨b0, off, none⟩) 8 cap, .int .i64 8, .bool false, .bool false, .int .i64 ↑g, .bool false, .bool false, .bool false, .int .i64 ↑g, .bool false, .bool false, .slice (some ⟨b0, off, none⟩) 8 cap, .int .i64 ↑g, undef, undef, undef, undef, undef, undef, undef, undef, undef, undef], defers := [] }) rfl (by kernel_rfl) (by kernel_rfl) (by kernel_rfl) (fun _ _ _ h => h) (.inl ⟨rfl, fun _ _ => rfl⟩) hS rfl ?_
  refine takeA (i := 2) (v := .int .i64 ↑m) ({ tmps := #[.slice (some ⟨b0, off, none⟩) 8 cap, .int .i64 ↑g, undef, undef, .int .u64 0, .slice (some ⟨b0, off, none⟩) 8 cap, .int .i64 8, .bool false, .bool false, .int .i64 ↑g, .bool false, .bool false, .bool false, .int .i64 ↑g, .bool false, .bool false, .slice (some ⟨b0, off, none⟩) 8 cap, .int .i64 ↑g, .int .i64 ↑m, undef, undef, undef, undef, undef, undef, undef, undef, undef], defers := [] }) rfl (by kernel_rfl) (by kernel_rfl) (by kernel_rfl) (fun _ _ _ h => h) (.inl ⟨rfl, fun _ _ => by go_simp <;> exact f0⟩) hS rfl ?_
  refine takeA (i := 3) (v := .pointer (some ⟨b0, off + m, none⟩)) ({ tmps := #[.slice (some ⟨b0, off, none⟩) 8 cap, .int .i64 ↑g, undef, undef, .int .u64 0, .slice (some ⟨b0, off, none⟩) 8 cap, .int .i64 8, .bool false, .bool false, .int .i64 ↑g, .bool false, .bool false, .bool false, .int .i64 ↑g, .bool false, .bool false, .slice (some ⟨b0, off, none⟩) 8 cap, .int .i64 ↑g, .int .i64 ↑m, .pointer (some ⟨b0, off + m, none⟩), undef, undef, undef, undef, undef, undef, undef, undef], defers := [] }) rfl (by kernel_rfl) (by kernel_rfl) (by kernel_rfl) (fun _ _ _ h => h) (.inl ⟨rfl, fun _ _ => by go_simp⟩) hS rfl ?_
  refine takeA (i := 4) (v := .int .u64 x) ({ tmps := #[.slice (some ⟨b0, off, none⟩) 8 cap, .int .i64 ↑g, undef, undef, .int .u64 0, .slice (some ⟨b0, off, none⟩) 8 cap, .int .i64 8, .bool false, .bool false, .int .i64 ↑g, .bool false, .bool false, .bool false, .int .i64 ↑g, .bool false, .bool false, .slice (some ⟨b0, off, none⟩) 8 cap, .int .i64 ↑g, .int .i64 ↑m, .pointer (some ⟨b0, off + m, none⟩), .int .u64 x, undef, undef, undef, undef, undef, undef, undef], defers := [] }) rfl (by kernel_rfl) (by kernel_rfl) (by kernel_rfl) (fun _ _ _ h => h) (yi_load 40 _ (.pointer (some ⟨b0, off + m, none⟩)) rfl rfl rfl (fun w hw => by have q := c1 w hw; go_simp)) hS rfl ?_
  refine takeA (i := 5) (v := .slice (some ⟨b0, off, none⟩) 8 cap) ({ tmps := #[.slice (some ⟨b0, off, none⟩) 8 cap, .int .i64 ↑g, undef, undef, .int .u64 0, .slice (some ⟨b0, off, none⟩) 8 cap, .int .i64 8, .bool false, .bool false, .int .i64 ↑g, .bool false, .bool false, .bool false, .int .i64 ↑g, .bool false, .bool false, .slice (some ⟨b0, off, none⟩) 8 cap, .int .i64 ↑g, .int .i64 ↑m, .pointer (some ⟨b0, off + m, none⟩), .int .u64 x, .slice (some ⟨b0, off, none⟩) 8 cap, undef, undef, undef, undef, undef, undef], defers := [] }) rfl (by kernel_rfl) (by kernel_rfl) (by kernel_rfl) (fun _ _ _ h => h) (.inl ⟨rfl, fun _ _ => rfl⟩) hS rfl ?_
  refine takeA (i := 6) (v := .int .i64 ↑g) ({ tmps := #[.slice (some ⟨b0, off, none⟩) 8 cap, .int .i64 ↑g, undef, undef, .int .u64 0, .slice (some ⟨b0, off, none⟩) 8 cap, .int .i64 8, .bool false, .bool false, .int .i64 ↑g, .bool false, .bool false, .bool false, .int .i64 ↑g, .bool false, .bool false, .slice (some ⟨b0, off, none⟩) 8 cap, .int .i64 ↑g, .int .i64 ↑m, .pointer (some ⟨b0, off + m, none⟩), .int .u64 x, .slice (some ⟨b0, off, none⟩) 8 cap, .int .i64 ↑g, undef, undef, undef, undef, undef], defers := [] }) rfl (by kernel_rfl) (by kernel_rfl) (by kernel_rfl) (fun _ _ _ h => h) (.inl ⟨rfl, fun _ _ => rfl⟩) hS rfl ?_
  refine takeA (i := 7) (v := .int .i64 ↑m) ({ tmps := #[.slice (some ⟨b0, off, none⟩) 8 cap, .int .i64 ↑g, undef, undef, .int .u64 0, .slice (some ⟨b0, off, none⟩) 8 cap, .int .i64 8, .bool false, .bool false, .int .i64 ↑g, .bool false, .bool false, .bool false, .int .i64 ↑g, .bool false, .bool false, .slice (some ⟨b0, off, none⟩) 8 cap, .int .i64 ↑g, .int .i64 ↑m, .pointer (some ⟨b0, off + m, none⟩), .int .u64 x, .slice (some ⟨b0, off, none⟩) 8 cap, .int .i64 ↑g, .int .i64 ↑m, undef, undef, undef, undef], defers := [] }) rfl (by kernel_rfl) (by kernel_rfl) (by kernel_rfl) (fun _ _ _ h => h) (.inl ⟨rfl, fun _ _ => by go_simp <;> exact f0⟩) hS rfl ?_
  refine takeA (i := 8) (v := .int .i64 ↑q) ({ tmps := #[.slice (some ⟨b0, off, none⟩) 8 cap, .int .i64 ↑g, undef, undef, .int .u64 0, .slice (some ⟨b0, off, none⟩) 8 cap, .int .i64 8, .bool false, .bool false, .int .i64 ↑g, .bool false, .bool false, .bool false, .int .i64 ↑g, .bool false, .bool false, .slice (some ⟨b0, off, none⟩) 8 cap, .int .i64 ↑g, .int .i64 ↑m, .pointer (some ⟨b0, off + m, none⟩), .int .u64 x, .slice (some ⟨b0, off, none⟩) 8 cap, .int .i64 ↑g, .int .i64 ↑m, .int .i64 ↑q, undef, undef, undef], defers := [] }) rfl (by kernel_rfl) (by kernel_rfl) (by kernel_rfl) (fun _ _ _ h => h) (.inl ⟨rfl, fun _ _ => by go_simp <;> exact f1⟩) hS rfl ?_
  refine takeA (i := 9) (v := .pointer (some ⟨b0, off + q, none⟩)) ({ tmps := #[.slice (some ⟨b0, off, none⟩) 8 cap, .int .i64 ↑g, undef, undef, .int .u64 0, .slice (some ⟨b0, off, none⟩) 8 cap, .int .i64 8, .bool false, .bool false, .int .i64 ↑g, .bool false, .bool false, .bool false, .int .i64 ↑g, .bool false, .bool false, .slice (some ⟨b0, off, none⟩) 8 cap, .int .i64 ↑g, .int .i64 ↑m, .pointer (some ⟨b0, off + m, none⟩), .int .u64 x, .slice (some ⟨b0, off, none⟩) 8 cap, .int .i64 ↑g, .int .i64 ↑m, .int .i64 ↑q, .pointer (some ⟨b0, off + q, none⟩), undef, undef], defers := [] }) rfl (by kernel_rfl) (by kernel_rfl) (by kernel_rfl) (fun _ _ _ h => h) (.inl ⟨rfl, fun _ _ => by go_simp⟩) hS rfl ?_
  refine takeA (i := 10) (v := .int .u64 y) ({ tmps := #[.slice (some ⟨b0, off, none⟩) 8 cap, .int .i64 ↑g, undef, undef, .int .u64 0, .slice (some ⟨b0, off, none⟩) 8 cap, .int .i64 8, .bool false, .bool false, .int .i64 ↑g, .bool false, .bool false, .bool false, .int .i64 ↑g, .bool false, .bool false, .slice (some ⟨b0, off, none⟩) 8 cap, .int .i64 ↑g, .int .i64 ↑m, .pointer (some ⟨b0, off + m, none⟩), .int .u64 x, .slice (some ⟨b0, off, none⟩) 8 cap, .int .i64 ↑g, .int .i64 ↑m, .int .i64 ↑q, .pointer (some ⟨b0, off + q, none⟩), .int .u64 y, undef], defers := [] }) rfl (by kernel_rfl) (by kernel_rfl) (by kernel_rfl) (fun _ _ _ h => h) (yi_load 40 _ (.pointer (some ⟨b0, off + q, none⟩)) rfl rfl rfl (fun w hw => by have q := c2 w hw; go_simp)) hS rfl ?_
  refine wpAnyH_ready (rs := [11]) (by kernel_rfl) (by simp) ?_
  refine AllReadyH.cons rfl (fun K hK => ?_) AllReadyH.nil
  rw [if_pos (by rfl)]
  go_simp
  refine Calls.mono (M.out) ?_
  rintro e w5 ⟨rfl, b5⟩
  have q5 := qs_below hS b5
  have B5 := Lib.hid (undrew b5)
  clear b5
  refine hK.out ({ tmps := #[.slice (some ⟨b0, off, none⟩) 8 cap, .int .i64 ↑g, undef, undef, .int .u64 0, .slice (some ⟨b0, off, none⟩) 8 cap, .int .i64 8, .bool false, .bool false, .int .i64 ↑g, .bool false, .bool false, .bool false, .int .i64 ↑g, .bool false, .bool false, .slice (some ⟨b0, off, none⟩) 8 cap, .int .i64 ↑g, .int .i64 ↑m, .pointer (some ⟨b0, off + m, none⟩), .int .u64 x, .slice (some ⟨b0, off, none⟩) 8 cap, .int .i64 ↑g, .int .i64 ↑m, .int .i64 ↑q, .pointer (some ⟨b0, off + q, none⟩), .int .u64 y, .int .u64 (groupI l g)], defers := [] }) _ (q5) (fun hS => ?_)
  clear hK K
  refine takeA (i := 12) (v := .int .u64 (groupI l g)) ({ tmps := #[.slice (some ⟨b0, off, none⟩) 8 cap, .int .i64 ↑g, undef, undef, .int .u64 (groupI l g), .slice (some ⟨b0, off, none⟩) 8 cap, .int .i64 8, .bool false, .bool false, .int .i64 ↑g, .bool false, .bool false, .bool false, .int .i64 ↑g, .bool false, .bool false, .slice (some ⟨b0, off, none⟩) 8 cap, .int .i64 ↑g, .int .i64 ↑m, .pointer (some ⟨b0, off + m, none⟩), .int .u64 x, .slice (some ⟨b0, off, none⟩) 8 cap, .int .i64 ↑g, .int .i64 ↑m, .int .i64 ↑q, .pointer (some ⟨b0, off + q, none⟩), .int .u64 y, .int .u64 (groupI l g)], defers := [] }) rfl (by kernel_rfl) (by kernel_rfl) (by kernel_rfl) (fun _ _ _ h => h) (.inl ⟨rfl, fun _ _ => rfl⟩) hS rfl ?_
  refine wpAnyH_done (by kernel_rfl) ?_ _
  clear M hS q5 c1 c2 f0 f1
  go_wp2_with fail
  go_ret
  exact ⟨rfl, B5.out⟩
theorem rgroup_no (w : World) (ao : Option Addr) (n cap : Nat) (g : Int) (hn : ¬ (n = 8 ∧ 0 ≤ g ∧ g < 4)) :
    Calls Try.prog 24 #[.slice ao n cap, .int .i64 g] w fun e w' => e = .returned (.int .u64 0) ∧ Below w.heap.size w w' := by
  by_cases h8 : n = 8
  · subst h8
    by_cases h0 : g < 0
    · clear hn
      go_enter Try.func24, Try.ntmps24
      go_wp2_with fail
      go_ret
      exact ⟨rfl, Below.refl _ _⟩
    · have h3 : (3 : Int) < g := by omega
      clear hn
      go_enter Try.func24, Try.ntmps24
      go_wp2_with fail
      go_ret
      exact ⟨rfl, Below.refl _ _⟩
  · have hb : ((n : Int) != 8) = true := by simp only [bne_iff_ne]; omega
    clear hn h8
    go_enter Try.func24, Try.ntmps24
    go_wp2_with fail
    go_ret
    exact ⟨rfl, Below.refl _ _⟩
theorem rgroup_any (w : World) (ao : Option Addr) (n cap : Nat) (l : List Int) (h : Qs w ao l) (hn : l.length = n) (g : Int) :
    Calls Try.prog 24 #[.slice ao n cap, .int .i64 g] w fun e w' => e = .returned (.int .u64 (gI l g)) ∧ Below w.heap.size w w' := by
  subst hn
  unfold gI
  by_cases hg : l.length = 8 ∧ 0 ≤ g ∧ g < 4
  · rw [if_pos hg, hg.1]
    obtain ⟨k, rfl⟩ := Int.eq_ofNat_of_zero_le hg.2.1
    exact rgroup_in w ao cap l h k hg.1 (by omega)
  · rw [if_neg hg]; exact rgroup_no w ao l.length cap g hg
theorem gI_in {l : List Int} (h : l.length = 8) (g : Nat) (hg : g < 4) : gI l g = groupI l g := by
  unfold gI; rw [if_pos ⟨h, by omega, by omega⟩]; rfl

set_option maxHeartbeats 3200000 in
theorem rroot_yes (w : World) (ao : Option Addr) (cap : Nat) (l : List Int) (h : Qs w ao l) (hn : l.length = 8) :
    Calls Try.prog 22 #[.slice ao 8 cap] w fun e w' => e = .returned (.int .u64 (mixI (mixI (groupI l 0) (groupI l 1)) (mixI (groupI l 2) (groupI l 3)))) ∧ Below w.heap.size w w' := by
  have GR : ∀ (g : Nat), g < 4 → ∀ w', Below w.heap.size w w' → Calls Try.prog 24 #[.slice ao 8 cap, .int .i64 g] w' fun e w'' => e = .returned (.int .u64 (groupI l g)) ∧ Below w'.heap.size w' w'' := fun g hg w' k => rgroup_in w' ao cap l (qs_below h k) g hn hg
  have G0 := Lib.hid (GR 0 (by omega))
  have G1 := Lib.hid (GR 1 (by omega))
  have G2 := Lib.hid (GR 2 (by omega))
  have G3 := Lib.hid (GR 3 (by omega))
  generalize groupI l 0 = g0 at *
  generalize groupI l 1 = g1 at *
  generalize groupI l 2 = g2 at *
  generalize groupI l 3 = g3 at *
  clear GR h hn
  go_enter Try.func22, Try.ntmps22
  go_wp2_with fail
  refine (G0.out w (Below.refl _ _)).mono ?_
  rintro e w1 ⟨rfl, b1⟩
  have B1 := Lib.hid b1
  clear b1
  go_wp2_with fail
  refine (G1.out w1 B1.out).mono ?_
  rintro e w2 ⟨rfl, b2⟩
  have B2 := Lib.hid (B1.out.trans (b2.mono B1.out.size))
  clear b2
  go_wp2_with fail
  refine (refMix_any _ _ _).mono ?_
  rintro e w3 ⟨rfl, b3⟩
  have B3 := Lib.hid (B2.out.trans (b3.mono B2.out.size))
  clear b3
  go_wp2_with fail
  refine (G2.out w3 B3.out).mono ?_
  rintro e w4 ⟨rfl, b4⟩
  have B4 := Lib.hid (B3.out.trans (b4.mono B3.out.size))
  clear b4
  go_wp2_with fail
  refine (G3.out w4 B4.out).mono ?_
  rintro e w5 ⟨rfl, b5⟩
  have B5 := Lib.hid (B4.out.trans (b5.mono B4.out.size))
  clear b5
  go_wp2_with fail
  refine (refMix_any _ _ _).mono ?_
  rintro e w6 ⟨rfl, b6⟩
  have B6 := Lib.hid (B5.out.trans (b6.mono B5.out.size))
  clear b6
  go_wp2_with fail
  refine (refMix_any _ _ _).mono ?_
  rintro e w7 ⟨rfl, b7⟩
  have B7 := Lib.hid (B6.out.trans (b7.mono B6.out.size))
  clear b7
  go_wp2_with fail
  go_ret
  exact ⟨rfl, B7.out⟩
theorem rroot_no (w : World) (ao : Option Addr) (n cap : Nat) (hn : n ≠ 8) :
    Calls Try.prog 22 #[.slice ao n cap] w fun e w' => e = .returned (.int .u64 0) ∧ Below w.heap.size w w' := by
  have hb : ((n : Int) != 8) = true := by simp only [bne_iff_ne]; omega
  clear hn
  go_enter Try.func22, Try.ntmps22
  go_wp2_with fail
  go_ret
  exact ⟨rfl, Below.refl _ _⟩
theorem rroot_any (w : World) (ao : Option Addr) (n cap : Nat) (l : List Int) (h : Qs w ao l) (hn : l.length = n) :
    Calls Try.prog 22 #[.slice ao n cap] w fun e w' => e = .returned (.int .u64 (rI l)) ∧ Below w.heap.size w w' := by
  subst hn
  unfold rI
  by_cases h8 : l.length = 8
  · rw [if_pos h8, h8]; exact rroot_yes w ao cap l h h8
  · rw [if_neg h8]; exact rroot_no w ao l.length cap h8

/-- the list of sums, behind k pages -/
def SI (H : Nat) (s : List Int) (w wr : World) (v : Value) (k : Nat) : Prop :=
  ∃ ao c, v = .slice ao k c ∧ RowK H .u64 40 wr v k (s.take k) ∧ Below H w wr ∧ H ≤ wr.heap.size
theorem SI.kept {H k : Nat} {s : List Int} {w wr w' : World} {v : Value} (h : SI H s w wr v k) (b : Below wr.heap.size wr w') : SI H s w w' v k := by
  obtain ⟨ao, c, rfl, h1, h2, h3⟩ := h
  exact ⟨ao, c, rfl, ⟨rowK_kept h1.1 (Kept.ofBelow (S := fun _ => False) b) (fun _ _ h => h), h1.2⟩, h2.trans (b.mono h3), Nat.le_trans h3 b.size⟩
theorem SI.next {H k : Nat} {s : List Int} {w wr w' : World} {v : Value} {ao' : Option Addr} {cap' : Nat} {x : Int} (h : SI H s w wr v k) (hx : s.take (k + 1) = s.take k ++ [x]) (t : TypeId)
    (ho : w'.ownsRow 0 40 1 (.slice ao' (k + 1) cap') (k + 1) (kv .u64 (s.take k ++ [x]))) (hk : Kept (fun j => some j = v.ownBlock) (wr.alloc (.cells #[.int .u64 x] t)) w')
    (hg : (Value.slice ao' (k + 1) cap').ownBlock = v.ownBlock ∨ (Value.slice ao' (k + 1) cap').ownBlock = some (wr.alloc (.cells #[.int .u64 x] t)).heap.size) : SI H s w w' (.slice ao' (k + 1) cap') (k + 1) := by
  obtain ⟨ao, c, rfl, h1, h2, h3⟩ := h
  have hs : (wr.alloc (.cells #[.int .u64 x] t)).heap.size = wr.heap.size + 1 := by simp
  refine ⟨ao', cap', rfl, ?_, (h2.alloc h3 _).trans (hk.below (by omega) (fun j e => h1.2 j e.symm)), by have := hk.size; omega⟩
  unfold RowK
  rw [hx]
  refine ⟨ho, fun g e => ?_⟩
  rcases hg with e1 | e1
  · rw [e1] at e; exact h1.2 g e
  · rw [e1] at e; injection e with e; omega

set_option maxHeartbeats 3200000 in
theorem rsums_any (w : World) (B : Nat) (V T R : Nat → Int) (h : Rp w B V T R) (VR : ∀ i, 0 ≤ V i ∧ V i ≤ 65535) (TR : ∀ i, 0 ≤ T i ∧ T i ≤ 4294967295) (RR : ∀ i, 0 ≤ R i ∧ R i ≤ 4294967295) :
    Calls Try.prog 16 #[.pointer (some ⟨B, 0, none⟩)] w fun e w' => ∃ ao c, e = .returned (.slice ao 8 c) ∧ Qs w' ao (sumsI V T R) ∧ Below w.heap.size w w' := by
  have HP : Hid (∀ (p : Nat), p < 8 → ∀ w', Below w.heap.size w w' → Calls Try.prog 35 #[.pointer (some ⟨B, 0, none⟩), .int .i64 p] w' fun e w'' => ∃ ao c, e = .returned (.slice ao (pageB V T R p).length c) ∧ New w'.heap.size w'' ao c (pageB V T R p) ∧ Below w'.heap.size w' w'') :=
    Lib.hid (fun p hp w' k => refPage_any w' B p V T R (h.below k h.lt) VR TR RR hp)
  have U0 : Hid (SI w.heap.size (sumsI V T R) w w (.slice none 0 0) 0) := Lib.hid ⟨none, 0, rfl, ⟨rowK_nil _ _ _, fun g e => by simp [Value.ownBlock] at e⟩, Below.refl _ _, Nat.le_refl _⟩
  clear h VR TR RR
  go_enter Try.func16, Try.ntmps16
  go_wp2_with fail
  go_loopw [3, 4] (fun v3 v4 wr => ∃ k : Nat, v4 = .int .i64 k ∧ k ≤ 8 ∧ Hid (SI w.heap.size (sumsI V T R) w wr v3 k)) (fun _ v4 _ => 8 - (intOf v4).toNat)
  case atStart => exact ⟨0, rfl, by omega, U0⟩
  case round =>
    obtain ⟨k, rfl, hk, I⟩ := hrel
    obtain ⟨ao, c, rfl, -, hb, -⟩ := I.out
    have HB := Lib.hid hb
    clear hb
    by_cases hlt : k < 8
    · have hlt' : (k : Int) < 8 := by omega
      have hx : (sumsI V T R).take (k + 1) = (sumsI V T R).take k ++ [leafI k (pageB V T R k)] := by
        rw [List.take_succ_eq_append_getElem (by rw [sumsI_len]; exact hlt)]
        congr 2
        have := sumsI_get V T R k hlt
        rw [List.getD_eq_getElem?_getD, List.getElem?_eq_getElem (by rw [sumsI_len]; exact hlt)] at this
        exact this
      have HX := Lib.hid hx
      have P := Lib.hid (HP.out k hlt wr HB.out)
      clear hx
      go_wp2_with fail
      refine P.out.mono ?_
      rintro e w2 ⟨ap, cp, rfl, hn, b2⟩
      have L := Lib.hid (refLeaf_any w2 k ap cp (pageB V T R k) (own_bytes hn.1) (fun e => hn.none e) (by have := pageB_short V T R k; omega))
      have I2 := Lib.hid (I.out.kept b2)
      clear hn b2 P
      go_wp2_with fail
      refine L.out.mono ?_
      rintro e w3 ⟨rfl, b3⟩
      have I3 := Lib.hid (I2.out.kept b3)
      clear b3 L I2
      generalize leafI k (pageB V T R k) = x at *
      have HO : Hid ((w3.alloc (.cells #[.int .u64 x] 40)).ownsRow 0 40 1 (.slice ao k c) k (kv .u64 ((sumsI V T R).take k))) := Lib.hid (by
        obtain ⟨ao', c', e, h1, _⟩ := I3.out
        injection e with e1 e2 e3
        subst e1 e3
        exact rowK_kept h1.1 ((Kept.refl (fun _ => False) w3).alloc _) (fun _ _ h => h))
      go_wp2_with (at_builtin
                   refine wpList_appK .u64 24 40 _ Try.underlying24 info40 rfl (.tmp 9) (.tmp 15) rfl (.slice ao k c) k _ rfl HO.out (some ⟨w3.heap.size, 0, none⟩) 1 1 [x] rfl rfl (ns_one .u64 _ _ 40) (by intro h; cases h) (by omega) ?_
                   intro ao' cap' w5 ho' hk' hg'
                   have I5 := Lib.hid (I3.out.next HX.out 40 ho' hk' hg')
                   clear ho' hk' hg')
      exact ⟨⟨k + 1, by go_num, by omega, I5⟩, by simp [intOf]; omega⟩
    · obtain rfl : k = 8 := by omega
      go_wp2_with fail
      go_ret
      obtain ⟨ao', c', e, h1, h2, _⟩ := I.out
      injection e with e1 e2 e3
      subst e1 e3
      have hq := rowK_ns h1.1
      rw [List.take_of_length_le (Nat.le_of_eq (sumsI_len V T R))] at hq
      exact ⟨ao, c, rfl, hq, h2⟩
theorem rmroot_any (w : World) (B : Nat) (V T R : Nat → Int) (h : Rp w B V T R) (VR : ∀ i, 0 ≤ V i ∧ V i ≤ 65535) (TR : ∀ i, 0 ≤ T i ∧ T i ≤ 4294967295) (RR : ∀ i, 0 ≤ R i ∧ R i ≤ 4294967295) :
    Calls Try.prog 18 #[.pointer (some ⟨B, 0, none⟩)] w fun e w' => e = .returned (.int .u64 (rI (sumsI V T R))) ∧ Below w.heap.size w w' := by
  have SA := Lib.hid (rsums_any w B V T R h VR TR RR)
  clear h VR TR RR
  go_enter Try.func18, Try.ntmps18
  go_wp2_with fail
  refine SA.out.mono ?_
  rintro e w1 ⟨ao, c, rfl, hq, b1⟩
  have RA := Lib.hid (rroot_any w1 ao 8 c (sumsI V T R) hq (sumsI_len V T R))
  have B1 := Lib.hid b1
  clear hq b1 SA
  go_wp2_with fail
  refine RA.out.mono ?_
  rintro e w2 ⟨rfl, b2⟩
  go_wp2_with fail
  go_ret
  exact ⟨rfl, B1.out.trans (b2.mono B1.out.size)⟩
end Go.Proofs.Ytfbcjigekmgbnaa
