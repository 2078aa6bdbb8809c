/- Sums and Of: what they tell of any map. -/
import Derived.Test.YtfbcjigekmgbnaaRoot
import Derived.Test.YtfbcjigekmgbnaaLoad
namespace Go.Proofs.Ytfbcjigekmgbnaa
open Go.RowKit
set_option maxRecDepth 100000

/-- the sum of each page -/
def sumsI (V T R : Nat → Int) : List Int := (List.range 8).map fun p : Nat => leafI p (pageB V T R p)
theorem sumsI_len (V T R : Nat → Int) : (sumsI V T R).length = 8 := by simp [sumsI]
theorem sumsI_get (V T R : Nat → Int) (p : Nat) (hp : p < 8) : (sumsI V T R).getD p 0 = leafI p (pageB V T R p) := by
  unfold sumsI
  rw [List.getD_eq_getElem?_getD]; simp [hp]
/-- the first k of them, the others 0 -/
def upS (S : Nat → Int) (k : Nat) : List Int := (List.range 8).map fun p => if p < k then S p else 0
theorem upS_get (S : Nat → Int) (k i : Nat) : (qv (upS S k))[i]? = if i < 8 then some (.int .u64 (if i < k then S i else 0)) else none := by
  unfold qv upS
  by_cases h : i < 8
  · simp [h]
  · simp [h]
theorem upS_set (S : Nat → Int) (k : Nat) (hk : k < 8) : (qv (upS S k)).set k (.int .u64 (S k)) = qv (upS S (k + 1)) := by
  refine List.ext_getElem? fun i => ?_
  rw [List.getElem?_set, upS_get, upS_get]
  have hl : (qv (upS S k)).length = 8 := by simp [qv, upS]
  rw [hl]
  by_cases e : k = i
  · subst e; simp [hk]
  · simp only [e, if_false]
    by_cases h8 : i < 8
    · simp only [h8, if_true]
      by_cases h1 : i < k
      · rw [if_pos h1, if_pos (by omega)]
      · rw [if_neg h1, if_neg (by omega)]
    · simp [h8]
theorem upS_all (S : Nat → Int) : upS S 8 = (List.range 8).map S := by
  unfold upS
  refine List.map_congr_left fun i hi => ?_
  rw [if_pos (List.mem_range.1 hi)]
/-- block E holds the array of the first k sums -/
def A8 (w : World) (E : Nat) (S : Nat → Int) (k : Nat) : Prop := w.heap[E]? = some (.cells (qv (upS S k)).toArray 68 (0, 0))
theorem A8.lt {w : World} {E k : Nat} {S : Nat → Int} (h : A8 w E S k) : E < w.heap.size := lt_of_block h
theorem A8.below {w w' : World} {E k : Nat} {S : Nat → Int} (h : A8 w E S k) (b : Below w.heap.size w w') : A8 w' E S k := by
  unfold A8
  rw [b.block E h.lt]; exact h
theorem A8.cell {w : World} {E k : Nat} {S : Nat → Int} (h : A8 w E S k) (hk : k < 8) : w.cell? ⟨E, k, none⟩ = some (.int .u64 0) := by
  rw [cell_of_row w E k _ 68 (0, 0) h]
  simp [upS_get, hk]
theorem A8.frozen {w : World} {E k : Nat} {S : Nat → Int} (h : A8 w E S k) (i : Nat) : w.frozen? ⟨E, i, none⟩ = false := frozen_of_row w E i _ 68 h
theorem A8.set {w : World} {E k : Nat} {S : Nat → Int} (h : A8 w E S k) (hk : k < 8) : A8 (w.setCell ⟨E, k, none⟩ (.int .u64 (S k))) E S (k + 1) := by
  unfold A8
  rw [heap_setCell_same w E k _ 68 _ h, List.setIfInBounds_toArray, upS_set S k hk]
theorem A8.new (w : World) (S : Nat → Int) : A8 (w.alloc (.cells #[.int .u64 0, .int .u64 0, .int .u64 0, .int .u64 0, .int .u64 0, .int .u64 0, .int .u64 0, .int .u64 0] 68)) w.heap.size S 0 := heap_alloc_new w _

set_option maxHeartbeats 1600000 in
theorem sums_any (w : World) (B : Nat) (V T R : Nat → Int) (h : Mp w B V T R) :
    Calls Try.prog 15 #[.pointer (some ⟨B, 0, none⟩)] w fun e w' => ∃ E, e = .returned (.slice (some ⟨E, 0, none⟩) 8 8) ∧ w'.heap[E]? = some (.cells (qv (sumsI V T R)).toArray 68 (0, 0)) ∧ w.heap.size ≤ E ∧ Below w.heap.size w w' := by
  have HM := Lib.hid h
  have K0 := Lib.hid (A8.new w (fun p : Nat => leafI p (pageB V T R p)))
  have B0 := Lib.hid ((Below.refl w.heap.size w).alloc (Nat.le_refl _) (.cells #[.int .u64 0, .int .u64 0, .int .u64 0, .int .u64 0, .int .u64 0, .int .u64 0, .int .u64 0, .int .u64 0] 68))
  clear h
  go_enter Try.func15, Try.ntmps15
  go_wp2_with fail
  generalize w.alloc (.cells #[.int .u64 0, .int .u64 0, .int .u64 0, .int .u64 0, .int .u64 0, .int .u64 0, .int .u64 0, .int .u64 0] 68) = w1 at *
  go_loopw [5] (fun v5 wr => ∃ k : Nat, v5 = .int .i64 k ∧ k ≤ 8 ∧ Hid (A8 wr w.heap.size (fun p : Nat => leafI p (pageB V T R p)) k) ∧ Hid (Below w.heap.size w wr)) (fun v5 _ => 8 - (intOf v5).toNat)
  case atStart => exact ⟨0, rfl, by omega, K0, B0⟩
  case round =>
    obtain ⟨k, rfl, hk, I, J⟩ := hrel
    by_cases hlt : k < 8
    · have hlt' : (k : Int) < 8 := by omega
      have P := Lib.hid (page_any wr B k V T R (HM.out.below J.out HM.out.lt) hlt)
      go_wp2_with fail
      refine P.out.mono ?_
      rintro e w2 ⟨ao, c, rfl, hn, b2⟩
      have L := Lib.hid (leaf_any w2 k ao c (pageB V T R k) (own_bytes hn.1) (fun e => hn.none e) (by have := pageB_short V T R k; omega))
      have I2 := Lib.hid (I.out.below b2)
      have J2 := Lib.hid (J.out.trans (b2.mono J.out.size))
      clear hn b2 P
      go_wp2_with fail
      refine L.out.mono ?_
      rintro e w3 ⟨rfl, b3⟩
      have i3 := I2.out.below b3
      have hc := i3.cell hlt
      have hf := i3.frozen k
      have I3 := Lib.hid (i3.set hlt)
      have J3 := Lib.hid ((J2.out.trans (b3.mono J2.out.size)).setCell (p := ⟨w.heap.size, k, none⟩) (Nat.le_refl _) (.int .u64 (leafI k (pageB V T R k))))
      clear i3 b3 L I2 J2
      go_wp2_with fail
      exact ⟨⟨k + 1, by go_num, by omega, I3, J3⟩, by simp [intOf]; omega⟩
    · obtain rfl : k = 8 := by omega
      go_wp2_with fail
      go_ret
      have := I.out
      unfold A8 at this
      rw [upS_all] at this
      exact ⟨_, rfl, this, Nat.le_refl _, J.out⟩

theorem of_any (w : World) (B : Nat) (V T R : Nat → Int) (h : Mp w B V T R) :
    Calls Try.prog 17 #[.pointer (some ⟨B, 0, none⟩)] w fun e w' => e = .returned (.int .u64 (rI (sumsI V T R))) ∧ Below w.heap.size w w' := by
  have SA := Lib.hid (sums_any w B V T R h)
  clear h
  go_enter Try.func17, Try.ntmps17
  go_wp2_with fail
  refine SA.out.mono ?_
  rintro e w1 ⟨E, rfl, hE, hlt, b1⟩
  have RA := Lib.hid (root_any w1 (some ⟨E, 0, none⟩) 8 8 (sumsI V T R) (qs_block hE) (sumsI_len V T R))
  have B1 := Lib.hid b1
  clear hE hlt b1 SA
  go_wp2_with fail
  refine RA.out.mono ?_
  rintro e w2 ⟨rfl, b2⟩
  go_wp2_with fail
  go_ret
  exact ⟨rfl, B1.out.trans (b2.mono B1.out.size)⟩
end Go.Proofs.Ytfbcjigekmgbnaa
