/- Group and Root: what they tell of any list. -/
import Derived.Test.YtfbcjigekmgbnaaTree
namespace Go.Proofs.Ytfbcjigekmgbnaa
open Go.RowKit
set_option maxRecDepth 100000

theorem qs_none {w : World} {l : List Int} (h : Qs w none l) : l.length = 0 := by
  rcases Nat.eq_zero_or_pos l.length with e | e
  · exact e
  · obtain ⟨b, off, e2, _⟩ := h 0 e
    cases e2
theorem whole_any (w : World) (ao : Option Addr) (n cap : Nat) (l : List Int) (h : Qs w ao l) (hn : l.length = n) :
    Calls Try.prog 37 #[.slice ao n cap] w fun e w' => e = .returned (.tuple #[.agg (qv (wl l)).toArray, .bool (decide (l.length = 8))]) ∧ Below w.heap.size w w' := by
  subst hn
  unfold wl
  by_cases hl : l.length = 8
  · rw [if_pos hl, decide_eq_true hl]
    cases ao with
    | none => have := qs_none h; omega
    | some ad => rw [hl]; exact whole_yes w ad cap l h hl
  · rw [if_neg hl, decide_eq_false hl]
    exact whole_no w ao l.length cap hl
/-- Group of any list and number -/
def gI (l : List Int) (g : Int) : Int := if l.length = 8 ∧ 0 ≤ g ∧ g < 4 then groupI l g.toNat else 0
/-- Root of any list -/
def rI (l : List Int) : Int := if l.length = 8 then mixI (mixI (groupI l 0) (groupI l 1)) (mixI (groupI l 2) (groupI l 3)) else 0

theorem tgroup_no (w : World) (ao : Option Addr) (cap : Nat) (l : List Int) (h : Qs w ao l) (g : Int) (hn : l.length ≠ 8) :
    Calls Try.prog 23 #[.slice ao l.length cap, .int .i64 g] w fun e w' => e = .returned (.int .u64 0) ∧ Below w.heap.size w w' := by
  have W := whole_any w ao _ cap l h rfl
  have hd : decide (l.length = 8) = false := decide_eq_false hn
  rw [hd] at W
  have e : wl l = zeros := if_neg hn
  rw [e] at W
  simp only [qv, zeros, List.map] at W
  have W := Lib.hid W
  generalize l.length = n at *
  clear h hn hd e
  go_enter Try.func23, Try.ntmps23
  go_wp2_with fail
  refine W.out.mono ?_
  rintro e w1 ⟨rfl, b1⟩
  have B1 := Lib.hid b1
  clear b1 W
  go_wp2_with fail
  go_ret
  exact ⟨rfl, B1.out.alloc B1.out.size _⟩
theorem tgroup_far (w : World) (ao : Option Addr) (cap : Nat) (l : List Int) (h : Qs w ao l) (g : Int) (hn : l.length = 8) (hg : ¬ (0 ≤ g ∧ g < 4)) :
    Calls Try.prog 23 #[.slice ao 8 cap, .int .i64 g] w fun e w' => e = .returned (.int .u64 0) ∧ Below w.heap.size w w' := by
  have W := whole_any w ao 8 cap l h hn
  rw [decide_eq_true hn] at W
  have e : wl l = l := if_pos hn
  rw [e] at W
  obtain ⟨a0, a1, a2, a3, a4, a5, a6, a7, rfl⟩ := len8 hn
  simp only [qv, List.map] at W
  have W := Lib.hid W
  clear h hn e
  by_cases h1 : g < 0
  · clear hg
    go_enter Try.func23, Try.ntmps23
    go_wp2_with fail
    refine W.out.mono ?_
    rintro e w1 ⟨rfl, b1⟩
    have B1 := Lib.hid b1
    clear b1 W
    go_wp2_with fail
    go_ret
    exact ⟨rfl, B1.out.alloc B1.out.size _⟩
  · have h2 : 4 ≤ g := by omega
    clear hg
    go_enter Try.func23, Try.ntmps23
    go_wp2_with fail
    refine W.out.mono ?_
    rintro e w1 ⟨rfl, b1⟩
    have B1 := Lib.hid b1
    clear b1 W
    go_wp2_with fail
    go_ret
    exact ⟨rfl, B1.out.alloc B1.out.size _⟩
theorem tgroup_in (w : World) (ao : Option Addr) (cap : Nat) (l : List Int) (h : Qs w ao l) (g : Nat) (hn : l.length = 8) (hg : g < 4) :
    Calls Try.prog 23 #[.slice ao 8 cap, .int .i64 g] w fun e w' => e = .returned (.int .u64 (groupI l g)) ∧ Below w.heap.size w w' := by
  have W := whole_any w ao 8 cap l h hn
  rw [decide_eq_true hn] at W
  have e : wl l = l := if_pos hn
  rw [e] at W
  have G := fun w => group_any w l hn g hg
  obtain ⟨a0, a1, a2, a3, a4, a5, a6, a7, rfl⟩ := len8 hn
  simp only [qv, List.map] at W G
  have W := Lib.hid W
  have G := Lib.hid G
  have h1 : ¬ (g : Int) < 0 := by omega
  have h2 : ¬ 4 ≤ (g : Int) := by omega
  clear h hn e hg
  go_enter Try.func23, Try.ntmps23
  go_wp2_with fail
  refine W.out.mono ?_
  rintro e w1 ⟨rfl, b1⟩
  have B1 := Lib.hid b1
  clear b1 W
  go_wp2_with fail
  refine (G.out _).mono ?_
  rintro e w2 ⟨rfl, b2⟩
  have B2 := Lib.hid b2
  clear b2 G
  go_wp2_with fail
  go_ret
  have hb := B1.out.alloc B1.out.size (.cells #[.int .u64 a0, .int .u64 a1, .int .u64 a2, .int .u64 a3, .int .u64 a4, .int .u64 a5, .int .u64 a6, .int .u64 a7] 68)
  exact ⟨rfl, hb.trans (B2.out.mono hb.size)⟩
theorem root_no (w : World) (ao : Option Addr) (cap : Nat) (l : List Int) (h : Qs w ao l) (hn : l.length ≠ 8) :
    Calls Try.prog 21 #[.slice ao l.length cap] w fun e w' => e = .returned (.int .u64 0) ∧ Below w.heap.size w w' := by
  have W := whole_any w ao _ cap l h rfl
  have hd : decide (l.length = 8) = false := decide_eq_false hn
  rw [hd] at W
  have e : wl l = zeros := if_neg hn
  rw [e] at W
  simp only [qv, zeros, List.map] at W
  have W := Lib.hid W
  generalize l.length = n at *
  clear h hn hd e
  go_enter Try.func21, Try.ntmps21
  go_wp2_with fail
  refine W.out.mono ?_
  rintro e w1 ⟨rfl, b1⟩
  have B1 := Lib.hid b1
  clear b1 W
  go_wp2_with fail
  go_ret
  exact ⟨rfl, B1.out.alloc B1.out.size _⟩
theorem root_yes (w : World) (ao : Option Addr) (cap : Nat) (l : List Int) (h : Qs w ao l) (hn : l.length = 8) :
    Calls Try.prog 21 #[.slice ao 8 cap] w fun e w' => e = .returned (.int .u64 (mixI (mixI (groupI l 0) (groupI l 1)) (mixI (groupI l 2) (groupI l 3)))) ∧ Below w.heap.size w w' := by
  have W := whole_any w ao 8 cap l h hn
  rw [decide_eq_true hn] at W
  have e : wl l = l := if_pos hn
  rw [e] at W
  obtain ⟨a0, a1, a2, a3, a4, a5, a6, a7, rfl⟩ := len8 hn
  simp only [qv, List.map] at W
  have W := Lib.hid W
  clear h hn e
  go_enter Try.func21, Try.ntmps21
  go_wp2_with fail
  refine W.out.mono ?_
  rintro e w1 ⟨rfl, b1⟩
  have B1 := Lib.hid (b1.alloc b1.size (.cells #[.int .u64 a0, .int .u64 a1, .int .u64 a2, .int .u64 a3, .int .u64 a4, .int .u64 a5, .int .u64 a6, .int .u64 a7] 68))
  have Q1 : Qs (w1.alloc (.cells #[.int .u64 a0, .int .u64 a1, .int .u64 a2, .int .u64 a3, .int .u64 a4, .int .u64 a5, .int .u64 a6, .int .u64 a7] 68)) (some ⟨w1.heap.size, 0, none⟩) [a0, a1, a2, a3, a4, a5, a6, a7] := qs_block (heap_alloc_new w1 _)
  have HQ1 := Lib.hid Q1
  clear b1 W Q1
  go_wp2_with fail
  have Q1 := HQ1.out
  generalize hw2 : w1.alloc (.cells #[.int .u64 a0, .int .u64 a1, .int .u64 a2, .int .u64 a3, .int .u64 a4, .int .u64 a5, .int .u64 a6, .int .u64 a7] 68) = wa at *
  refine wp_region_held_drew (S := fun w' : World => Qs w' (some ⟨w1.heap.size, 0, none⟩) [a0, a1, a2, a3, a4, a5, a6, a7]) (by kernel_rfl) (qs_kept Q1 ((Kept.refl (fun _ => False) _).drew) (fun _ _ _ h => h)) (fun hS => ?_)
  refine takeA (i := 0) (v := .agg #[.int .u64 a0, .int .u64 a1, .int .u64 a2, .int .u64 a3, .int .u64 a4, .int .u64 a5, .int .u64 a6, .int .u64 a7]) ({ tmps := #[.slice ao 8 cap, undef, .int .u64 0, .pointer (some ⟨w1.heap.size, 0, none⟩), .bool true, undef, undef, .tuple #[.agg #[.int .u64 a0, .int .u64 a1, .int .u64 a2, .int .u64 a3, .int .u64 a4, .int .u64 a5, .int .u64 a6, .int .u64 a7], .bool true], .slice ao 8 cap, .tuple #[.agg #[.int .u64 a0, .int .u64 a1, .int .u64 a2, .int .u64 a3, .int .u64 a4, .int .u64 a5, .int .u64 a6, .int .u64 a7], .bool true], .agg #[.int .u64 a0, .int .u64 a1, .int .u64 a2, .int .u64 a3, .int .u64 a4, .int .u64 a5, .int .u64 a6, .int .u64 a7], .bool true, .bool true, .bool false, .agg #[.int .u64 a0, .int .u64 a1, .int .u64 a2, .int .u64 a3, .int .u64 a4, .int .u64 a5, .int .u64 a6, .int .u64 a7], undef, undef, undef, undef, undef, undef, undef, undef, undef, undef, undef, undef], defers := [] }) rfl (by kernel_rfl) (by kernel_rfl) (by kernel_rfl) (fun _ _ _ h => h) (yi_load 68 _ (.pointer (some ⟨w1.heap.size, 0, none⟩)) rfl rfl rfl (fun w hw => load68 hw rfl)) hS rfl ?_
  refine takeA (i := 2) (v := .agg #[.int .u64 a0, .int .u64 a1, .int .u64 a2, .int .u64 a3, .int .u64 a4, .int .u64 a5, .int .u64 a6, .int .u64 a7]) ({ tmps := #[.slice ao 8 cap, undef, .int .u64 0, .pointer (some ⟨w1.heap.size, 0, none⟩), .bool true, undef, undef, .tuple #[.agg #[.int .u64 a0, .int .u64 a1, .int .u64 a2, .int .u64 a3, .int .u64 a4, .int .u64 a5, .int .u64 a6, .int .u64 a7], .bool true], .slice ao 8 cap, .tuple #[.agg #[.int .u64 a0, .int .u64 a1, .int .u64 a2, .int .u64 a3, .int .u64 a4, .int .u64 a5, .int .u64 a6, .int .u64 a7], .bool true], .agg #[.int .u64 a0, .int .u64 a1, .int .u64 a2, .int .u64 a3, .int .u64 a4, .int .u64 a5, .int .u64 a6, .int .u64 a7], .bool true, .bool true, .bool false, .agg #[.int .u64 a0, .int .u64 a1, .int .u64 a2, .int .u64 a3, .int .u64 a4, .int .u64 a5, .int .u64 a6, .int .u64 a7], undef, .agg #[.int .u64 a0, .int .u64 a1, .int .u64 a2, .int .u64 a3, .int .u64 a4, .int .u64 a5, .int .u64 a6, .int .u64 a7], undef, undef, undef, undef, undef, undef, undef, undef, undef, undef], defers := [] }) rfl (by kernel_rfl) (by kernel_rfl) (by kernel_rfl) (fun _ _ _ h => h) (yi_load 68 _ (.pointer (some ⟨w1.heap.size, 0, none⟩)) rfl rfl rfl (fun w hw => load68 hw rfl)) hS rfl ?_
  refine wpAnyH_ready (rs := [1]) (by kernel_rfl) (by simp) ?_
  refine AllReadyH.cons rfl (fun K hK => ?_) AllReadyH.nil
  rw [if_pos (by rfl)]
  go_simp
  refine Calls.mono (group_0 _ a0 a1 a2 a3 a4 a5 a6 a7) ?_
  rintro e w2 ⟨rfl, b2⟩
  have q2 := qs_below hS b2
  have B2 := Lib.hid (B1.out.trans ((undrew b2).mono B1.out.size))
  clear b2
  refine hK.out ({ tmps := #[.slice ao 8 cap, undef, .int .u64 0, .pointer (some ⟨w1.heap.size, 0, none⟩), .bool true, undef, undef, .tuple #[.agg #[.int .u64 a0, .int .u64 a1, .int .u64 a2, .int .u64 a3, .int .u64 a4, .int .u64 a5, .int .u64 a6, .int .u64 a7], .bool true], .slice ao 8 cap, .tuple #[.agg #[.int .u64 a0, .int .u64 a1, .int .u64 a2, .int .u64 a3, .int .u64 a4, .int .u64 a5, .int .u64 a6, .int .u64 a7], .bool true], .agg #[.int .u64 a0, .int .u64 a1, .int .u64 a2, .int .u64 a3, .int .u64 a4, .int .u64 a5, .int .u64 a6, .int .u64 a7], .bool true, .bool true, .bool false, .agg #[.int .u64 a0, .int .u64 a1, .int .u64 a2, .int .u64 a3, .int .u64 a4, .int .u64 a5, .int .u64 a6, .int .u64 a7], .int .u64 (mixI a0 a1), .agg #[.int .u64 a0, .int .u64 a1, .int .u64 a2, .int .u64 a3, .int .u64 a4, .int .u64 a5, .int .u64 a6, .int .u64 a7], undef, undef, undef, undef, undef, undef, undef, undef, undef, undef], defers := [] }) _ (q2) (fun hS => ?_)
  clear hK K
  refine wpAnyH_ready (rs := [3]) (by kernel_rfl) (by simp) ?_
  refine AllReadyH.cons rfl (fun K hK => ?_) AllReadyH.nil
  rw [if_pos (by rfl)]
  go_simp
  refine Calls.mono (group_1 _ a0 a1 a2 a3 a4 a5 a6 a7) ?_
  rintro e w3 ⟨rfl, b3⟩
  have q3 := qs_below hS b3
  have B3 := Lib.hid (B2.out.trans (b3.mono B2.out.size))
  clear b3
  refine hK.out ({ tmps := #[.slice ao 8 cap, undef, .int .u64 0, .pointer (some ⟨w1.heap.size, 0, none⟩), .bool true, undef, undef, .tuple #[.agg #[.int .u64 a0, .int .u64 a1, .int .u64 a2, .int .u64 a3, .int .u64 a4, .int .u64 a5, .int .u64 a6, .int .u64 a7], .bool true], .slice ao 8 cap, .tuple #[.agg #[.int .u64 a0, .int .u64 a1, .int .u64 a2, .int .u64 a3, .int .u64 a4, .int .u64 a5, .int .u64 a6, .int .u64 a7], .bool true], .agg #[.int .u64 a0, .int .u64 a1, .int .u64 a2, .int .u64 a3, .int .u64 a4, .int .u64 a5, .int .u64 a6, .int .u64 a7], .bool true, .bool true, .bool false, .agg #[.int .u64 a0, .int .u64 a1, .int .u64 a2, .int .u64 a3, .int .u64 a4, .int .u64 a5, .int .u64 a6, .int .u64 a7], .int .u64 (mixI a0 a1), .agg #[.int .u64 a0, .int .u64 a1, .int .u64 a2, .int .u64 a3, .int .u64 a4, .int .u64 a5, .int .u64 a6, .int .u64 a7], .int .u64 (mixI a2 a3), undef, undef, undef, undef, undef, undef, undef, undef, undef], defers := [] }) _ (q3) (fun hS => ?_)
  clear hK K
  refine wpAnyH_ready (rs := [4]) (by kernel_rfl) (by simp) ?_
  refine AllReadyH.cons rfl (fun K hK => ?_) AllReadyH.nil
  rw [if_pos (by rfl)]
  go_simp
  refine Calls.mono (mix_any _ _ _) ?_
  rintro e w4 ⟨rfl, b4⟩
  have q4 := qs_below hS b4
  have B4 := Lib.hid (B3.out.trans (b4.mono B3.out.size))
  clear b4
  refine hK.out ({ tmps := #[.slice ao 8 cap, undef, .int .u64 0, .pointer (some ⟨w1.heap.size, 0, none⟩), .bool true, undef, undef, .tuple #[.agg #[.int .u64 a0, .int .u64 a1, .int .u64 a2, .int .u64 a3, .int .u64 a4, .int .u64 a5, .int .u64 a6, .int .u64 a7], .bool true], .slice ao 8 cap, .tuple #[.agg #[.int .u64 a0, .int .u64 a1, .int .u64 a2, .int .u64 a3, .int .u64 a4, .int .u64 a5, .int .u64 a6, .int .u64 a7], .bool true], .agg #[.int .u64 a0, .int .u64 a1, .int .u64 a2, .int .u64 a3, .int .u64 a4, .int .u64 a5, .int .u64 a6, .int .u64 a7], .bool true, .bool true, .bool false, .agg #[.int .u64 a0, .int .u64 a1, .int .u64 a2, .int .u64 a3, .int .u64 a4, .int .u64 a5, .int .u64 a6, .int .u64 a7], .int .u64 (mixI a0 a1), .agg #[.int .u64 a0, .int .u64 a1, .int .u64 a2, .int .u64 a3, .int .u64 a4, .int .u64 a5, .int .u64 a6, .int .u64 a7], .int .u64 (mixI a2 a3), .int .u64 (mixI (mixI a0 a1) (mixI a2 a3)), undef, undef, undef, undef, undef, undef, undef, undef], defers := [] }) _ (q4) (fun hS => ?_)
  clear hK K
  refine takeA (i := 5) (v := .int .u64 (mixI (mixI a0 a1) (mixI a2 a3))) ({ tmps := #[.slice ao 8 cap, undef, .int .u64 0, .pointer (some ⟨w1.heap.size, 0, none⟩), .bool true, .int .u64 (mixI (mixI a0 a1) (mixI a2 a3)), undef, .tuple #[.agg #[.int .u64 a0, .int .u64 a1, .int .u64 a2, .int .u64 a3, .int .u64 a4, .int .u64 a5, .int .u64 a6, .int .u64 a7], .bool true], .slice ao 8 cap, .tuple #[.agg #[.int .u64 a0, .int .u64 a1, .int .u64 a2, .int .u64 a3, .int .u64 a4, .int .u64 a5, .int .u64 a6, .int .u64 a7], .bool true], .agg #[.int .u64 a0, .int .u64 a1, .int .u64 a2, .int .u64 a3, .int .u64 a4, .int .u64 a5, .int .u64 a6, .int .u64 a7], .bool true, .bool true, .bool false, .agg #[.int .u64 a0, .int .u64 a1, .int .u64 a2, .int .u64 a3, .int .u64 a4, .int .u64 a5, .int .u64 a6, .int .u64 a7], .int .u64 (mixI a0 a1), .agg #[.int .u64 a0, .int .u64 a1, .int .u64 a2, .int .u64 a3, .int .u64 a4, .int .u64 a5, .int .u64 a6, .int .u64 a7], .int .u64 (mixI a2 a3), .int .u64 (mixI (mixI a0 a1) (mixI a2 a3)), undef, undef, undef, undef, undef, undef, undef, undef], defers := [] }) rfl (by kernel_rfl) (by kernel_rfl) (by kernel_rfl) (fun _ _ _ h => h) (.inl ⟨rfl, fun _ _ => rfl⟩) hS rfl ?_
  refine wpAnyH_done (by kernel_rfl) ?_ _
  clear Q1 HQ1
  have HQ4 := Lib.hid hS
  clear hS
  go_wp2_with fail
  have hS := HQ4.out
  refine wp_region_held_drew (S := fun w' : World => Qs w' (some ⟨w1.heap.size, 0, none⟩) [a0, a1, a2, a3, a4, a5, a6, a7]) (by kernel_rfl) (qs_kept hS ((Kept.refl (fun _ => False) _).drew) (fun _ _ _ h => h)) (fun hS => ?_)
  refine takeA (i := 0) (v := .agg #[.int .u64 a0, .int .u64 a1, .int .u64 a2, .int .u64 a3, .int .u64 a4, .int .u64 a5, .int .u64 a6, .int .u64 a7]) ({ tmps := #[.slice ao 8 cap, undef, .int .u64 0, .pointer (some ⟨w1.heap.size, 0, none⟩), .bool true, .int .u64 (mixI (mixI a0 a1) (mixI a2 a3)), undef, .tuple #[.agg #[.int .u64 a0, .int .u64 a1, .int .u64 a2, .int .u64 a3, .int .u64 a4, .int .u64 a5, .int .u64 a6, .int .u64 a7], .bool true], .slice ao 8 cap, .tuple #[.agg #[.int .u64 a0, .int .u64 a1, .int .u64 a2, .int .u64 a3, .int .u64 a4, .int .u64 a5, .int .u64 a6, .int .u64 a7], .bool true], .agg #[.int .u64 a0, .int .u64 a1, .int .u64 a2, .int .u64 a3, .int .u64 a4, .int .u64 a5, .int .u64 a6, .int .u64 a7], .bool true, .bool true, .bool false, .agg #[.int .u64 a0, .int .u64 a1, .int .u64 a2, .int .u64 a3, .int .u64 a4, .int .u64 a5, .int .u64 a6, .int .u64 a7], .int .u64 (mixI a0 a1), .agg #[.int .u64 a0, .int .u64 a1, .int .u64 a2, .int .u64 a3, .int .u64 a4, .int .u64 a5, .int .u64 a6, .int .u64 a7], .int .u64 (mixI a2 a3), .int .u64 (mixI (mixI a0 a1) (mixI a2 a3)), .agg #[.int .u64 a0, .int .u64 a1, .int .u64 a2, .int .u64 a3, .int .u64 a4, .int .u64 a5, .int .u64 a6, .int .u64 a7], undef, undef, undef, undef, undef, undef, undef], defers := [] }) rfl (by kernel_rfl) (by kernel_rfl) (by kernel_rfl) (fun _ _ _ h => h) (yi_load 68 _ (.pointer (some ⟨w1.heap.size, 0, none⟩)) rfl rfl rfl (fun w hw => load68 hw rfl)) hS rfl ?_
  refine takeA (i := 2) (v := .agg #[.int .u64 a0, .int .u64 a1, .int .u64 a2, .int .u64 a3, .int .u64 a4, .int .u64 a5, .int .u64 a6, .int .u64 a7]) ({ tmps := #[.slice ao 8 cap, undef, .int .u64 0, .pointer (some ⟨w1.heap.size, 0, none⟩), .bool true, .int .u64 (mixI (mixI a0 a1) (mixI a2 a3)), undef, .tuple #[.agg #[.int .u64 a0, .int .u64 a1, .int .u64 a2, .int .u64 a3, .int .u64 a4, .int .u64 a5, .int .u64 a6, .int .u64 a7], .bool true], .slice ao 8 cap, .tuple #[.agg #[.int .u64 a0, .int .u64 a1, .int .u64 a2, .int .u64 a3, .int .u64 a4, .int .u64 a5, .int .u64 a6, .int .u64 a7], .bool true], .agg #[.int .u64 a0, .int .u64 a1, .int .u64 a2, .int .u64 a3, .int .u64 a4, .int .u64 a5, .int .u64 a6, .int .u64 a7], .bool true, .bool true, .bool false, .agg #[.int .u64 a0, .int .u64 a1, .int .u64 a2, .int .u64 a3, .int .u64 a4, .int .u64 a5, .int .u64 a6, .int .u64 a7], .int .u64 (mixI a0 a1), .agg #[.int .u64 a0, .int .u64 a1, .int .u64 a2, .int .u64 a3, .int .u64 a4, .int .u64 a5, .int .u64 a6, .int .u64 a7], .int .u64 (mixI a2 a3), .int .u64 (mixI (mixI a0 a1) (mixI a2 a3)), .agg #[.int .u64 a0, .int .u64 a1, .int .u64 a2, .int .u64 a3, .int .u64 a4, .int .u64 a5, .int .u64 a6, .int .u64 a7], undef, .agg #[.int .u64 a0, .int .u64 a1, .int .u64 a2, .int .u64 a3, .int .u64 a4, .int .u64 a5, .int .u64 a6, .int .u64 a7], undef, undef, undef, undef, undef], defers := [] }) rfl (by kernel_rfl) (by kernel_rfl) (by kernel_rfl) (fun _ _ _ h => h) (yi_load 68 _ (.pointer (some ⟨w1.heap.size, 0, none⟩)) rfl rfl rfl (fun w hw => load68 hw rfl)) hS rfl ?_
  refine wpAnyH_ready (rs := [1]) (by kernel_rfl) (by simp) ?_
  refine AllReadyH.cons rfl (fun K hK => ?_) AllReadyH.nil
  rw [if_pos (by rfl)]
  go_simp
  refine Calls.mono (group_2 _ a0 a1 a2 a3 a4 a5 a6 a7) ?_
  rintro e w5 ⟨rfl, b5⟩
  have q5 := qs_below hS b5
  have B5 := Lib.hid (B4.out.trans ((undrew b5).mono B4.out.size))
  clear b5
  refine hK.out ({ tmps := #[.slice ao 8 cap, undef, .int .u64 0, .pointer (some ⟨w1.heap.size, 0, none⟩), .bool true, .int .u64 (mixI (mixI a0 a1) (mixI a2 a3)), undef, .tuple #[.agg #[.int .u64 a0, .int .u64 a1, .int .u64 a2, .int .u64 a3, .int .u64 a4, .int .u64 a5, .int .u64 a6, .int .u64 a7], .bool true], .slice ao 8 cap, .tuple #[.agg #[.int .u64 a0, .int .u64 a1, .int .u64 a2, .int .u64 a3, .int .u64 a4, .int .u64 a5, .int .u64 a6, .int .u64 a7], .bool true], .agg #[.int .u64 a0, .int .u64 a1, .int .u64 a2, .int .u64 a3, .int .u64 a4, .int .u64 a5, .int .u64 a6, .int .u64 a7], .bool true, .bool true, .bool false, .agg #[.int .u64 a0, .int .u64 a1, .int .u64 a2, .int .u64 a3, .int .u64 a4, .int .u64 a5, .int .u64 a6, .int .u64 a7], .int .u64 (mixI a0 a1), .agg #[.int .u64 a0, .int .u64 a1, .int .u64 a2, .int .u64 a3, .int .u64 a4, .int .u64 a5, .int .u64 a6, .int .u64 a7], .int .u64 (mixI a2 a3), .int .u64 (mixI (mixI a0 a1) (mixI a2 a3)), .agg #[.int .u64 a0, .int .u64 a1, .int .u64 a2, .int .u64 a3, .int .u64 a4, .int .u64 a5, .int .u64 a6, .int .u64 a7], .int .u64 (mixI a4 a5), .agg #[.int .u64 a0, .int .u64 a1, .int .u64 a2, .int .u64 a3, .int .u64 a4, .int .u64 a5, .int .u64 a6, .int .u64 a7], undef, undef, undef, undef, undef], defers := [] }) _ (q5) (fun hS => ?_)
  clear hK K
  refine wpAnyH_ready (rs := [3]) (by kernel_rfl) (by simp) ?_
  refine AllReadyH.cons rfl (fun K hK => ?_) AllReadyH.nil
  rw [if_pos (by rfl)]
  go_simp
  refine Calls.mono (group_3 _ a0 a1 a2 a3 a4 a5 a6 a7) ?_
  rintro e w6 ⟨rfl, b6⟩
  have q6 := qs_below hS b6
  have B6 := Lib.hid (B5.out.trans (b6.mono B5.out.size))
  clear b6
  refine hK.out ({ tmps := #[.slice ao 8 cap, undef, .int .u64 0, .pointer (some ⟨w1.heap.size, 0, none⟩), .bool true, .int .u64 (mixI (mixI a0 a1) (mixI a2 a3)), undef, .tuple #[.agg #[.int .u64 a0, .int .u64 a1, .int .u64 a2, .int .u64 a3, .int .u64 a4, .int .u64 a5, .int .u64 a6, .int .u64 a7], .bool true], .slice ao 8 cap, .tuple #[.agg #[.int .u64 a0, .int .u64 a1, .int .u64 a2, .int .u64 a3, .int .u64 a4, .int .u64 a5, .int .u64 a6, .int .u64 a7], .bool true], .agg #[.int .u64 a0, .int .u64 a1, .int .u64 a2, .int .u64 a3, .int .u64 a4, .int .u64 a5, .int .u64 a6, .int .u64 a7], .bool true, .bool true, .bool false, .agg #[.int .u64 a0, .int .u64 a1, .int .u64 a2, .int .u64 a3, .int .u64 a4, .int .u64 a5, .int .u64 a6, .int .u64 a7], .int .u64 (mixI a0 a1), .agg #[.int .u64 a0, .int .u64 a1, .int .u64 a2, .int .u64 a3, .int .u64 a4, .int .u64 a5, .int .u64 a6, .int .u64 a7], .int .u64 (mixI a2 a3), .int .u64 (mixI (mixI a0 a1) (mixI a2 a3)), .agg #[.int .u64 a0, .int .u64 a1, .int .u64 a2, .int .u64 a3, .int .u64 a4, .int .u64 a5, .int .u64 a6, .int .u64 a7], .int .u64 (mixI a4 a5), .agg #[.int .u64 a0, .int .u64 a1, .int .u64 a2, .int .u64 a3, .int .u64 a4, .int .u64 a5, .int .u64 a6, .int .u64 a7], .int .u64 (mixI a6 a7), undef, undef, undef, undef], defers := [] }) _ (q6) (fun hS => ?_)
  clear hK K
  refine wpAnyH_ready (rs := [4]) (by kernel_rfl) (by simp) ?_
  refine AllReadyH.cons rfl (fun K hK => ?_) AllReadyH.nil
  rw [if_pos (by rfl)]
  go_simp
  refine Calls.mono (mix_any _ _ _) ?_
  rintro e w7 ⟨rfl, b7⟩
  have q7 := qs_below hS b7
  have B7 := Lib.hid (B6.out.trans (b7.mono B6.out.size))
  clear b7
  refine hK.out ({ tmps := #[.slice ao 8 cap, undef, .int .u64 0, .pointer (some ⟨w1.heap.size, 0, none⟩), .bool true, .int .u64 (mixI (mixI a0 a1) (mixI a2 a3)), undef, .tuple #[.agg #[.int .u64 a0, .int .u64 a1, .int .u64 a2, .int .u64 a3, .int .u64 a4, .int .u64 a5, .int .u64 a6, .int .u64 a7], .bool true], .slice ao 8 cap, .tuple #[.agg #[.int .u64 a0, .int .u64 a1, .int .u64 a2, .int .u64 a3, .int .u64 a4, .int .u64 a5, .int .u64 a6, .int .u64 a7], .bool true], .agg #[.int .u64 a0, .int .u64 a1, .int .u64 a2, .int .u64 a3, .int .u64 a4, .int .u64 a5, .int .u64 a6, .int .u64 a7], .bool true, .bool true, .bool false, .agg #[.int .u64 a0, .int .u64 a1, .int .u64 a2, .int .u64 a3, .int .u64 a4, .int .u64 a5, .int .u64 a6, .int .u64 a7], .int .u64 (mixI a0 a1), .agg #[.int .u64 a0, .int .u64 a1, .int .u64 a2, .int .u64 a3, .int .u64 a4, .int .u64 a5, .int .u64 a6, .int .u64 a7], .int .u64 (mixI a2 a3), .int .u64 (mixI (mixI a0 a1) (mixI a2 a3)), .agg #[.int .u64 a0, .int .u64 a1, .int .u64 a2, .int .u64 a3, .int .u64 a4, .int .u64 a5, .int .u64 a6, .int .u64 a7], .int .u64 (mixI a4 a5), .agg #[.int .u64 a0, .int .u64 a1, .int .u64 a2, .int .u64 a3, .int .u64 a4, .int .u64 a5, .int .u64 a6, .int .u64 a7], .int .u64 (mixI a6 a7), .int .u64 (mixI (mixI a4 a5) (mixI a6 a7)), undef, undef, undef], defers := [] }) _ (q7) (fun hS => ?_)
  clear hK K
  refine takeA (i := 5) (v := .int .u64 (mixI (mixI a4 a5) (mixI a6 a7))) ({ tmps := #[.slice ao 8 cap, undef, .int .u64 0, .pointer (some ⟨w1.heap.size, 0, none⟩), .bool true, .int .u64 (mixI (mixI a0 a1) (mixI a2 a3)), .int .u64 (mixI (mixI a4 a5) (mixI a6 a7)), .tuple #[.agg #[.int .u64 a0, .int .u64 a1, .int .u64 a2, .int .u64 a3, .int .u64 a4, .int .u64 a5, .int .u64 a6, .int .u64 a7], .bool true], .slice ao 8 cap, .tuple #[.agg #[.int .u64 a0, .int .u64 a1, .int .u64 a2, .int .u64 a3, .int .u64 a4, .int .u64 a5, .int .u64 a6, .int .u64 a7], .bool true], .agg #[.int .u64 a0, .int .u64 a1, .int .u64 a2, .int .u64 a3, .int .u64 a4, .int .u64 a5, .int .u64 a6, .int .u64 a7], .bool true, .bool true, .bool false, .agg #[.int .u64 a0, .int .u64 a1, .int .u64 a2, .int .u64 a3, .int .u64 a4, .int .u64 a5, .int .u64 a6, .int .u64 a7], .int .u64 (mixI a0 a1), .agg #[.int .u64 a0, .int .u64 a1, .int .u64 a2, .int .u64 a3, .int .u64 a4, .int .u64 a5, .int .u64 a6, .int .u64 a7], .int .u64 (mixI a2 a3), .int .u64 (mixI (mixI a0 a1) (mixI a2 a3)), .agg #[.int .u64 a0, .int .u64 a1, .int .u64 a2, .int .u64 a3, .int .u64 a4, .int .u64 a5, .int .u64 a6, .int .u64 a7], .int .u64 (mixI a4 a5), .agg #[.int .u64 a0, .int .u64 a1, .int .u64 a2, .int .u64 a3, .int .u64 a4, .int .u64 a5, .int .u64 a6, .int .u64 a7], .int .u64 (mixI a6 a7), .int .u64 (mixI (mixI a4 a5) (mixI a6 a7)), undef, undef, undef], defers := [] }) rfl (by kernel_rfl) (by kernel_rfl) (by kernel_rfl) (fun _ _ _ h => h) (.inl ⟨rfl, fun _ _ => rfl⟩) hS rfl ?_
  refine wpAnyH_done (by kernel_rfl) ?_ _
  have HQ5 := Lib.hid hS
  clear hS HQ4
  have M := Lib.hid (mix_any (mixI (mixI a0 a1) (mixI a2 a3)) (mixI (mixI a4 a5) (mixI a6 a7)) w7)
  go_wp2_with fail
  refine M.out.mono ?_
  rintro e w8 ⟨rfl, b8⟩
  go_wp2_with fail
  go_ret
  exact ⟨rfl, B7.out.trans (b8.mono B7.out.size)⟩
theorem root_any (w : World) (ao : Option Addr) (n cap : Nat) (l : List Int) (h : Qs w ao l) (hn : l.length = n) :
    Calls Try.prog 21 #[.slice ao n cap] w fun e w' => e = .returned (.int .u64 (rI l)) ∧ Below w.heap.size w w' := by
  subst hn
  unfold rI
  by_cases h8 : l.length = 8
  · rw [if_pos h8, h8]; exact root_yes w ao cap l h h8
  · rw [if_neg h8]; exact root_no w ao cap l h h8
theorem tgroup_any (w : World) (ao : Option Addr) (n cap : Nat) (l : List Int) (h : Qs w ao l) (hn : l.length = n) (g : Int) :
    Calls Try.prog 23 #[.slice ao n cap, .int .i64 g] w fun e w' => e = .returned (.int .u64 (gI l g)) ∧ Below w.heap.size w w' := by
  subst hn
  unfold gI
  by_cases h8 : l.length = 8
  · by_cases hg : 0 ≤ g ∧ g < 4
    · rw [if_pos ⟨h8, hg⟩, h8]
      obtain ⟨k, rfl⟩ := Int.eq_ofNat_of_zero_le hg.1
      exact tgroup_in w ao cap l h k h8 (by omega)
    · rw [if_neg (fun h => hg h.2), h8]; exact tgroup_far w ao cap l h g h8 hg
  · rw [if_neg (fun h => h8 h.1)]; exact tgroup_no w ao cap l h g h8
end Go.Proofs.Ytfbcjigekmgbnaa
