/- The statements' helps: whether two lists of sums, of places, are the same. -/
import Derived.Test.YtfbcjigekmgbnaaApp8
import Derived.Test.YtfbcjigekmgbnaaSr0
import Derived.BigQuiet
namespace Go.Proofs.Ytfbcjigekmgbnaa
open Go.RowKit
set_option maxRecDepth 100000

set_option maxHeartbeats 1600000 in
theorem hSums_same (w : World) (ao bo : Option Addr) (n ca cb : Nat) (a b : List Int) (ha : Ns .u64 w ao a) (hb : Ns .u64 w bo b) (hna : a.length = n) (hnb : b.length = n) (hn : n ≤ 100) :
    Calls Try.prog 14 #[.slice ao n ca, .slice bo n cb] w fun e w' => e = .returned (.bool (decide (a = b))) ∧ Below w.heap.size w w' := by
  have HA := Lib.hid (And.intro ha (And.intro hb (And.intro hna hnb)))
  clear ha hb hna hnb
  go_enter Try.func14, Try.ntmps14
  go_wp2_with fail
  go_loopw [5] (fun v5 wr => ∃ k : Nat, v5 = .int .i64 k ∧ k ≤ n ∧ Hid (∀ i, i < k → a.getD i 0 = b.getD i 0) ∧ Hid (Kept (fun _ => False) w wr)) (fun v5 _ => n - (intOf v5).toNat)
  case atStart => exact ⟨0, rfl, by omega, Lib.hid (fun i h => by omega), Lib.hid (Kept.refl _ _)⟩
  case round =>
    obtain ⟨k, rfl, hk, I, J⟩ := hrel
    by_cases hlt : k < n
    · have hlt' : (k : Int) < n := by omega
      have hk100 : (k : Int) < 100 := by omega
      obtain ⟨p1, f1, e1, c1⟩ := ns_kept HA.out.1 J.out (fun _ _ _ h => h) k (by have := HA.out.2.2.1; omega)
      obtain ⟨p2, f2, e2, c2⟩ := ns_kept HA.out.2.1 J.out (fun _ _ _ h => h) k (by have := HA.out.2.2.2; omega)
      subst e1 e2
      by_cases hq : a.getD k 0 = b.getD k 0
      · have I2 : Hid (∀ i, i < k + 1 → a.getD i 0 = b.getD i 0) := Lib.hid (fun i h => by
          by_cases e : i = k
          · rw [e]; exact hq
          · exact I.out i (by omega))
        rw [← hq] at c2
        generalize a.getD k 0 = x at c1 c2
        clear hq
        go_wp2_with fail
        go_quiet (fail)
        have J2 := Lib.hid (J.out.drewN nq)
        go_wp2_with fail
        exact ⟨⟨k + 1, by go_num, by omega, I2, J2⟩, by simp [intOf]; omega⟩
      · have hne : decide (a = b) = false := by rw [decide_eq_false_iff_not]; intro e; exact hq (by rw [e])
        replace hne := Lib.hid hne
        have hxy : (a.getD k 0 != b.getD k 0) = true := by simp only [bne_iff_ne]; exact hq
        generalize a.getD k 0 = x at c1 hxy
        generalize b.getD k 0 = y at c2 hxy
        clear hq
        go_wp2_with fail
        go_quiet (fail)
        have J2 := Lib.hid (J.out.drewN nq)
        go_wp2_with fail
        go_ret
        exact ⟨by rw [hne.out]; rfl, J2.out.below (Nat.le_refl _) (fun _ h => h.elim)⟩
    · obtain rfl : k = n := by omega
      have he : decide (a = b) = true := by
        rw [decide_eq_true_iff]
        refine List.ext_getElem? fun i => ?_
        by_cases hi : i < k
        · have := I.out i hi
          have h1 : i < a.length := by have := HA.out.2.2.1; omega
          have h2 : i < b.length := by have := HA.out.2.2.2; omega
          simp only [List.getD_eq_getElem?_getD, List.getElem?_eq_getElem h1, List.getElem?_eq_getElem h2, Option.getD_some] at this
          rw [List.getElem?_eq_getElem h1, List.getElem?_eq_getElem h2, this]
        · rw [List.getElem?_eq_none (by have := HA.out.2.2.1; omega), List.getElem?_eq_none (by have := HA.out.2.2.2; omega)]
      replace he := Lib.hid he
      go_wp2_with fail
      go_ret
      exact ⟨by rw [he.out]; rfl, J.out.below (Nat.le_refl _) (fun _ h => h.elim)⟩
theorem hSums_unlike (w : World) (ao bo : Option Addr) (na nb ca cb : Nat) (hn : na ≠ nb) :
    Calls Try.prog 14 #[.slice ao na ca, .slice bo nb cb] w fun e w' => e = .returned (.bool false) ∧ Below w.heap.size w w' := by
  have h1 : ((na : Int) != nb) = true := by simp only [bne_iff_ne]; omega
  have h2 : (na != nb) = true := by simpa using hn
  go_enter Try.func14, Try.ntmps14
  go_wp2_with fail
  go_ret
  exact ⟨rfl, Below.refl _ _⟩
theorem hSums_any (w : World) (ao bo : Option Addr) (na nb ca cb : Nat) (a b : List Int) (ha : Ns .u64 w ao a) (hb : Ns .u64 w bo b) (hna : a.length = na) (hnb : b.length = nb) (hn : na ≤ 100) :
    Calls Try.prog 14 #[.slice ao na ca, .slice bo nb cb] w fun e w' => e = .returned (.bool (decide (a = b))) ∧ Below w.heap.size w w' := by
  by_cases h : na = nb
  · subst h; exact hSums_same w ao bo na ca cb a b ha hb hna hnb hn
  · rw [decide_eq_false (fun e => h (by rw [← hna, ← hnb, e]))]
    exact hSums_unlike w ao bo na nb ca cb h

set_option maxHeartbeats 1600000 in
theorem hInts_same (w : World) (ao bo : Option Addr) (n ca cb : Nat) (a b : List Int) (ha : Ns .i64 w ao a) (hb : Ns .i64 w bo b) (hna : a.length = n) (hnb : b.length = n) (hn : n ≤ 100) :
    Calls Try.prog 25 #[.slice ao n ca, .slice bo n cb] w fun e w' => e = .returned (.bool (decide (a = b))) ∧ Below w.heap.size w w' := by
  have HA := Lib.hid (And.intro ha (And.intro hb (And.intro hna hnb)))
  clear ha hb hna hnb
  go_enter Try.func25, Try.ntmps25
  go_wp2_with fail
  go_loopw [5] (fun v5 wr => ∃ k : Nat, v5 = .int .i64 k ∧ k ≤ n ∧ Hid (∀ i, i < k → a.getD i 0 = b.getD i 0) ∧ Hid (Kept (fun _ => False) w wr)) (fun v5 _ => n - (intOf v5).toNat)
  case atStart => exact ⟨0, rfl, by omega, Lib.hid (fun i h => by omega), Lib.hid (Kept.refl _ _)⟩
  case round =>
    obtain ⟨k, rfl, hk, I, J⟩ := hrel
    by_cases hlt : k < n
    · have hlt' : (k : Int) < n := by omega
      have hk100 : (k : Int) < 100 := by omega
      obtain ⟨p1, f1, e1, c1⟩ := ns_kept HA.out.1 J.out (fun _ _ _ h => h) k (by have := HA.out.2.2.1; omega)
      obtain ⟨p2, f2, e2, c2⟩ := ns_kept HA.out.2.1 J.out (fun _ _ _ h => h) k (by have := HA.out.2.2.2; omega)
      subst e1 e2
      by_cases hq : a.getD k 0 = b.getD k 0
      · have I2 : Hid (∀ i, i < k + 1 → a.getD i 0 = b.getD i 0) := Lib.hid (fun i h => by
          by_cases e : i = k
          · rw [e]; exact hq
          · exact I.out i (by omega))
        rw [← hq] at c2
        generalize a.getD k 0 = x at c1 c2
        clear hq
        go_wp2_with fail
        go_quiet (fail)
        have J2 := Lib.hid (J.out.drewN nq)
        go_wp2_with fail
        exact ⟨⟨k + 1, by go_num, by omega, I2, J2⟩, by simp [intOf]; omega⟩
      · have hne : decide (a = b) = false := by rw [decide_eq_false_iff_not]; intro e; exact hq (by rw [e])
        replace hne := Lib.hid hne
        have hxy : (a.getD k 0 != b.getD k 0) = true := by simp only [bne_iff_ne]; exact hq
        generalize a.getD k 0 = x at c1 hxy
        generalize b.getD k 0 = y at c2 hxy
        clear hq
        go_wp2_with fail
        go_quiet (fail)
        have J2 := Lib.hid (J.out.drewN nq)
        go_wp2_with fail
        go_ret
        exact ⟨by rw [hne.out]; rfl, J2.out.below (Nat.le_refl _) (fun _ h => h.elim)⟩
    · obtain rfl : k = n := by omega
      have he : decide (a = b) = true := by
        rw [decide_eq_true_iff]
        refine List.ext_getElem? fun i => ?_
        by_cases hi : i < k
        · have := I.out i hi
          have h1 : i < a.length := by have := HA.out.2.2.1; omega
          have h2 : i < b.length := by have := HA.out.2.2.2; omega
          simp only [List.getD_eq_getElem?_getD, List.getElem?_eq_getElem h1, List.getElem?_eq_getElem h2, Option.getD_some] at this
          rw [List.getElem?_eq_getElem h1, List.getElem?_eq_getElem h2, this]
        · rw [List.getElem?_eq_none (by have := HA.out.2.2.1; omega), List.getElem?_eq_none (by have := HA.out.2.2.2; omega)]
      replace he := Lib.hid he
      go_wp2_with fail
      go_ret
      exact ⟨by rw [he.out]; rfl, J.out.below (Nat.le_refl _) (fun _ h => h.elim)⟩
theorem hInts_unlike (w : World) (ao bo : Option Addr) (na nb ca cb : Nat) (hn : na ≠ nb) :
    Calls Try.prog 25 #[.slice ao na ca, .slice bo nb cb] w fun e w' => e = .returned (.bool false) ∧ Below w.heap.size w w' := by
  have h1 : ((na : Int) != nb) = true := by simp only [bne_iff_ne]; omega
  have h2 : (na != nb) = true := by simpa using hn
  go_enter Try.func25, Try.ntmps25
  go_wp2_with fail
  go_ret
  exact ⟨rfl, Below.refl _ _⟩
theorem hInts_any (w : World) (ao bo : Option Addr) (na nb ca cb : Nat) (a b : List Int) (ha : Ns .i64 w ao a) (hb : Ns .i64 w bo b) (hna : a.length = na) (hnb : b.length = nb) (hn : na ≤ 100) :
    Calls Try.prog 25 #[.slice ao na ca, .slice bo nb cb] w fun e w' => e = .returned (.bool (decide (a = b))) ∧ Below w.heap.size w w' := by
  by_cases h : na = nb
  · subst h; exact hInts_same w ao bo na ca cb a b ha hb hna hnb hn
  · rw [decide_eq_false (fun e => h (by rw [← hna, ← hnb, e]))]
    exact hInts_unlike w ao bo na nb ca cb h
end Go.Proofs.Ytfbcjigekmgbnaa
