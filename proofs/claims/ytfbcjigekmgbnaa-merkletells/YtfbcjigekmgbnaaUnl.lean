/- Unlike: which sums of two lists differ. -/
import Derived.Test.YtfbcjigekmgbnaaRoot
import Derived.Test.YtfbcjigekmgbnaaApp8
import Derived.BigQuiet
namespace Go.Proofs.Ytfbcjigekmgbnaa
open Go.RowKit
set_option maxRecDepth 100000

def unlP (a b : List Int) (p : Nat) : Bool := decide (a.length ≠ 8 ∨ b.length ≠ 8 ∨ a.getD p 0 ≠ b.getD p 0)
/-- the places below k at which two lists are unlike -/
def unlTo (a b : List Int) (k : Nat) : List Int := ((List.range k).filter (unlP a b)).map fun p : Nat => (p : Int)
theorem unl_yes {a b : List Int} {k : Nat} (h : unlP a b k = true) : unlTo a b k ++ [(k : Int)] = unlTo a b (k + 1) := by
  unfold unlTo
  rw [List.range_succ, List.filter_append, List.map_append]
  simp [List.filter, h]
theorem unl_no {a b : List Int} {k : Nat} (h : unlP a b k = false) : unlTo a b k = unlTo a b (k + 1) := by
  unfold unlTo
  rw [List.range_succ, List.filter_append, List.map_append]
  simp [List.filter, h]
theorem unl_len (a b : List Int) (k : Nat) : (unlTo a b k).length ≤ k := by
  unfold unlTo
  rw [List.length_map]
  exact Nat.le_trans (List.length_filter_le _ _) (by simp)

/-- the list that grows, behind k places -/
def UI (H : Nat) (a b : List Int) (w wr : World) (v : Value) (k : Nat) : Prop :=
  ∃ ao c, v = .slice ao (unlTo a b k).length c ∧ RowK H .i64 3 wr v (unlTo a b k).length (unlTo a b k) ∧ Below H w wr ∧ H ≤ wr.heap.size
/-- what such a call tells -/
def UD (w : World) (a b : List Int) (e : Ending) (w' : World) : Prop :=
  ∃ ao c, e = .returned (.slice ao (unlTo a b 8).length c) ∧ Ns .i64 w' ao (unlTo a b 8) ∧ (∀ ad, ao = some ad → w.heap.size ≤ ad.block) ∧ Below w.heap.size w w'
theorem UI.done {a b : List Int} {w w3 wr : World} {v : Value} (h : UI w3.heap.size a b w3 wr v 8) (hB : Below w.heap.size w w3) : UD w a b (.returned v) wr := by
  obtain ⟨ao, c, rfl, h1, h2, h3⟩ := h
  refine ⟨ao, c, rfl, rowK_ns h1.1, fun ad e => ?_, hB.trans (h2.mono hB.size)⟩
  subst e
  exact Nat.le_trans hB.size (h1.2 _ rfl)
theorem UI.form {a b : List Int} {w wr : World} {v : Value} {k H : Nat} (h : UI H a b w wr v k) : ∃ (ao : Option Addr) (n c : Nat), v = .slice ao n c ∧ n = (unlTo a b k).length := by
  obtain ⟨ao, c, rfl, _⟩ := h
  exact ⟨ao, _, c, rfl, rfl⟩
theorem UI.bel {a b : List Int} {w wr : World} {v : Value} {k H : Nat} (h : UI H a b w wr v k) : Below H w wr := by
  obtain ⟨ao, c, _, _, h, _⟩ := h
  exact h
theorem UI.row {a b : List Int} {w wr : World} {v : Value} {k H : Nat} (h : UI H a b w wr v k) : wr.ownsRow 0 3 1 v (unlTo a b k).length (kv .i64 (unlTo a b k)) := by
  obtain ⟨ao, c, _, h, _⟩ := h
  exact h.1
theorem UI.next {a b : List Int} {w wr w' : World} {v : Value} {ao' : Option Addr} {cap' k H n : Nat} (h : UI H a b w wr v k) (hp : unlP a b k = true) (t : TypeId) (hn : n = (unlTo a b k).length)
    (ho : w'.ownsRow 0 3 1 (.slice ao' (n + 1) cap') (n + 1) (kv .i64 (unlTo a b k ++ [(k : Int)])))
    (hk : Kept (fun j => some j = v.ownBlock) (wr.alloc (.cells #[.int .i64 k] t)) w')
    (hg : (Value.slice ao' (n + 1) cap').ownBlock = v.ownBlock ∨ (Value.slice ao' (n + 1) cap').ownBlock = some (wr.alloc (.cells #[.int .i64 k] t)).heap.size) : UI H a b w w' (.slice ao' (n + 1) cap') (k + 1) := by
  subst hn
  obtain ⟨ao, c, rfl, h1, h2, h3⟩ := h
  have hs : (wr.alloc (.cells #[.int .i64 k] t)).heap.size = wr.heap.size + 1 := by simp
  have hl : (unlTo a b (k + 1)).length = (unlTo a b k).length + 1 := by rw [← unl_yes hp]; simp
  refine ⟨ao', cap', by rw [hl], ?_, (h2.alloc h3 _).trans (hk.below (by omega) (fun j e => h1.2 j e.symm)), by have := hk.size; omega⟩
  unfold RowK
  rw [hl, ← unl_yes hp]
  refine ⟨ho, fun g e => ?_⟩
  rcases hg with e1 | e1
  · rw [e1] at e; exact h1.2 g e
  · rw [e1] at e; injection e with e; omega
theorem UI.stay {a b : List Int} {w wr : World} {v : Value} {k H : Nat} (h : UI H a b w wr v k) (hp : unlP a b k = false) : UI H a b w wr v (k + 1) := by
  unfold UI; rw [← unl_no hp]; exact h
theorem UI.drewN {a b : List Int} {w wr : World} {v : Value} {k H : Nat} (h : UI H a b w wr v k) (n : Nat) : UI H a b w (wr.drewN n) v k := by
  obtain ⟨ao, c, rfl, h1, h2, h3⟩ := h
  have hk := (Kept.refl (fun _ => False) wr).drewN n
  exact ⟨ao, c, rfl, ⟨rowK_kept h1.1 hk (fun _ _ h => h), h1.2⟩, h2.trans (hk.below h3 (fun _ h => h.elim)), Nat.le_trans h3 hk.size⟩
theorem UI.drew {a b : List Int} {w wr : World} {v : Value} {k H : Nat} (h : UI H a b w wr v k) : UI H a b w wr.drew v k := by
  obtain ⟨ao, c, rfl, h1, h2, h3⟩ := h
  exact ⟨ao, c, rfl, ⟨rowK_kept h1.1 ((Kept.refl (fun _ => False) wr).drew) (fun _ _ h => h), h1.2⟩, h2.drew, h3⟩
theorem qs_cell {w : World} {B : Nat} {l : List Int} (h : Qs w (some ⟨B, 0, none⟩) l) (k : Nat) (hk : k < l.length) : w.cell? ⟨B, k, none⟩ = some (.int .u64 (l.getD k 0)) := by
  obtain ⟨b, off, e, hc⟩ := h k hk
  injection e with e; injection e with e1 e2; subst e1 e2
  rw [Nat.zero_add] at hc; exact hc

set_option maxHeartbeats 3200000 in
theorem unlike_tt (w : World) (ao bo : Option Addr) (na nb ca cb : Nat) (a b : List Int) (a0 a1 a2 a3 a4 a5 a6 a7 b0 b1 b2 b3 b4 b5 b6 b7 : Int)
    (WA : Calls Try.prog 37 #[.slice ao na ca] w fun e w' => e = .returned (.tuple #[.agg #[.int .u64 a0, .int .u64 a1, .int .u64 a2, .int .u64 a3, .int .u64 a4, .int .u64 a5, .int .u64 a6, .int .u64 a7], .bool true]) ∧ Below w.heap.size w w')
    (WB : ∀ w', Below w.heap.size w w' → Calls Try.prog 37 #[.slice bo nb cb] w' fun e w'' => e = .returned (.tuple #[.agg #[.int .u64 b0, .int .u64 b1, .int .u64 b2, .int .u64 b3, .int .u64 b4, .int .u64 b5, .int .u64 b6, .int .u64 b7], .bool true]) ∧ Below w'.heap.size w' w'')
    (hp : ∀ k : Nat, k < 8 → unlP a b k = ([a0, a1, a2, a3, a4, a5, a6, a7].getD k 0 != [b0, b1, b2, b3, b4, b5, b6, b7].getD k 0)) : Calls Try.prog 26 #[.slice ao na ca, .slice bo nb cb] w fun e w' => UD w a b e w' := by
  have HP := Lib.hid hp
  have HA := Lib.hid WA
  have HB := Lib.hid WB
  clear hp WA WB
  go_enter Try.func26, Try.ntmps26
  go_wp2_with fail
  refine HA.out.mono ?_
  rintro e w1 ⟨rfl, k1⟩
  have B1 := k1.alloc k1.size (.cells #[.int .u64 a0, .int .u64 a1, .int .u64 a2, .int .u64 a3, .int .u64 a4, .int .u64 a5, .int .u64 a6, .int .u64 a7] 68)
  have C1 : Qs (w1.alloc (.cells #[.int .u64 a0, .int .u64 a1, .int .u64 a2, .int .u64 a3, .int .u64 a4, .int .u64 a5, .int .u64 a6, .int .u64 a7] 68)) (some ⟨w1.heap.size, 0, none⟩) [a0, a1, a2, a3, a4, a5, a6, a7] := qs_block (heap_alloc_new w1 _)
  have BX := Lib.hid (HB.out _ B1)
  have H1 := Lib.hid (And.intro B1 C1)
  clear HA k1 B1 C1 HB
  go_wp2_with fail
  refine BX.out.mono ?_
  rintro e w2 ⟨rfl, k2⟩
  have B2 := (H1.out.1.trans (k2.mono H1.out.1.size)).alloc (Nat.le_trans H1.out.1.size k2.size) (.cells #[.int .u64 b0, .int .u64 b1, .int .u64 b2, .int .u64 b3, .int .u64 b4, .int .u64 b5, .int .u64 b6, .int .u64 b7] 68)
  have D2 : Qs (w2.alloc (.cells #[.int .u64 b0, .int .u64 b1, .int .u64 b2, .int .u64 b3, .int .u64 b4, .int .u64 b5, .int .u64 b6, .int .u64 b7] 68)) (some ⟨w2.heap.size, 0, none⟩) [b0, b1, b2, b3, b4, b5, b6, b7] := qs_block (heap_alloc_new w2 _)
  have C2 : Qs (w2.alloc (.cells #[.int .u64 b0, .int .u64 b1, .int .u64 b2, .int .u64 b3, .int .u64 b4, .int .u64 b5, .int .u64 b6, .int .u64 b7] 68)) (some ⟨w1.heap.size, 0, none⟩) [a0, a1, a2, a3, a4, a5, a6, a7] := qs_below (qs_below H1.out.2 k2) ((Below.refl _ w2).alloc (Nat.le_refl _) _)
  have hs : (w2.alloc (.cells #[.int .u64 b0, .int .u64 b1, .int .u64 b2, .int .u64 b3, .int .u64 b4, .int .u64 b5, .int .u64 b6, .int .u64 b7] 68)).heap.size = w2.heap.size + 1 := by simp
  have hs1 : (w1.alloc (.cells #[.int .u64 a0, .int .u64 a1, .int .u64 a2, .int .u64 a3, .int .u64 a4, .int .u64 a5, .int .u64 a6, .int .u64 a7] 68)).heap.size = w1.heap.size + 1 := by simp
  have hlt1 : w1.heap.size < (w2.alloc (.cells #[.int .u64 b0, .int .u64 b1, .int .u64 b2, .int .u64 b3, .int .u64 b4, .int .u64 b5, .int .u64 b6, .int .u64 b7] 68)).heap.size := by have := k2.size; omega
  have hlt2 : w2.heap.size < (w2.alloc (.cells #[.int .u64 b0, .int .u64 b1, .int .u64 b2, .int .u64 b3, .int .u64 b4, .int .u64 b5, .int .u64 b6, .int .u64 b7] 68)).heap.size := by omega
  have U0 : UI (w2.alloc (.cells #[.int .u64 b0, .int .u64 b1, .int .u64 b2, .int .u64 b3, .int .u64 b4, .int .u64 b5, .int .u64 b6, .int .u64 b7] 68)).heap.size a b (w2.alloc (.cells #[.int .u64 b0, .int .u64 b1, .int .u64 b2, .int .u64 b3, .int .u64 b4, .int .u64 b5, .int .u64 b6, .int .u64 b7] 68)) (w2.alloc (.cells #[.int .u64 b0, .int .u64 b1, .int .u64 b2, .int .u64 b3, .int .u64 b4, .int .u64 b5, .int .u64 b6, .int .u64 b7] 68)) (.slice none 0 0) 0 := ⟨none, 0, rfl, ⟨rowK_nil _ _ _, fun g e => by simp [Value.ownBlock] at e⟩, Below.refl _ _, Nat.le_refl _⟩
  have H2 := Lib.hid (And.intro B2 (And.intro C2 D2))
  have HU := Lib.hid U0
  have HS := Lib.hid (And.intro hlt1 hlt2)
  clear BX H1 k2 B2 D2 C2 U0 hs hs1 hlt1 hlt2
  generalize hE : w1.heap.size = E at *
  generalize hF : w2.heap.size = F at *
  clear hE
  go_wp2_with fail
  generalize hw3 : w2.alloc (.cells #[.int .u64 b0, .int .u64 b1, .int .u64 b2, .int .u64 b3, .int .u64 b4, .int .u64 b5, .int .u64 b6, .int .u64 b7] 68) = w3 at *
  clear hF hw3
  go_loopw [9, 21] (fun v9 v21 wr => ∃ k : Nat, v21 = .int .i64 k ∧ k ≤ 8 ∧ Hid (UI w3.heap.size a b w3 wr v9 k)) (fun _ v21 _ => 8 - (intOf v21).toNat)
  case atStart => exact ⟨0, rfl, by omega, HU⟩
  case round =>
    obtain ⟨k, rfl, hk, I⟩ := hrel
    by_cases hlt : k < 8
    · have hlt' : (k : Int) < 8 := by omega
      have hbw := Kept.ofBelow (S := fun _ => False) I.out.bel
      obtain ⟨o1, n, d1, rfl, hn⟩ := I.out.form
      have HN := Lib.hid hn
      have HI := I
      have hnk : n ≤ 8 := by have := unl_len a b k; omega
      clear hn
      have c1 := qs_cell (qs_kept H2.out.2.1 hbw (fun _ _ _ h => h)) k (by simpa using hlt)
      have c2 := qs_cell (qs_kept H2.out.2.2 hbw (fun _ _ _ h => h)) k (by simpa using hlt)
      have hq := HP.out k hlt
      generalize [a0, a1, a2, a3, a4, a5, a6, a7].getD k 0 = x at c1 hq
      generalize [b0, b1, b2, b3, b4, b5, b6, b7].getD k 0 = y at c2 hq
      clear hbw I
      cases hxy : (x != y) with
      | true =>
        rw [hxy] at hq
        have hp := Lib.hid hq
        clear hq
        go_wp2_with fail
        go_quiet (fail)
        have I2 := Lib.hid (HI.out.drewN nq)
        have HO := Lib.hid (rowK_kept (e := 3) (v := .slice o1 n d1) (n := n) (xs := kv .i64 (unlTo a b k)) (HN.out ▸ I2.out.row) ((Kept.refl (fun _ => False) (wr.drewN nq)).alloc (.cells #[.int .i64 k] 3)) (fun _ _ h => h))
        go_wp2_with (at_builtin
                     refine wpList_appK .i64 47 3 _ Try.underlying47 info3 rfl (.tmp 39) (.tmp 41) rfl (.slice o1 n d1) n _ rfl HO.out (some ⟨(wr.drewN nq).heap.size, 0, none⟩) 1 1 [(k : Int)] rfl rfl (ns_one .i64 _ _ 3) (by intro h; cases h) (by omega) ?_
                     intro ao' cap' w5 ho' hk' hg'
                     have I5 := Lib.hid (I2.out.next hp.out 3 (n := n) HN.out ho' hk' hg')
                     clear ho' hk' hg')
        exact ⟨⟨k + 1, by go_num, by omega, I5⟩, by simp [intOf]; omega⟩
      | false =>
        rw [hxy] at hq
        have hp := Lib.hid hq
        clear hq
        go_wp2_with fail
        go_quiet (fail)
        have I2 := Lib.hid ((HI.out.drewN nq).stay hp.out)
        go_wp2_with fail
        exact ⟨⟨k + 1, by go_num, by omega, I2⟩, by simp [intOf]; omega⟩
    · obtain rfl : k = 8 := by omega
      go_wp2_with fail
      go_ret
      exact I.out.done H2.out.1

set_option maxHeartbeats 3200000 in
theorem unlike_tf (w : World) (ao bo : Option Addr) (na nb ca cb : Nat) (a b : List Int) (a0 a1 a2 a3 a4 a5 a6 a7 b0 b1 b2 b3 b4 b5 b6 b7 : Int)
    (WA : Calls Try.prog 37 #[.slice ao na ca] w fun e w' => e = .returned (.tuple #[.agg #[.int .u64 a0, .int .u64 a1, .int .u64 a2, .int .u64 a3, .int .u64 a4, .int .u64 a5, .int .u64 a6, .int .u64 a7], .bool true]) ∧ Below w.heap.size w w')
    (WB : ∀ w', Below w.heap.size w w' → Calls Try.prog 37 #[.slice bo nb cb] w' fun e w'' => e = .returned (.tuple #[.agg #[.int .u64 b0, .int .u64 b1, .int .u64 b2, .int .u64 b3, .int .u64 b4, .int .u64 b5, .int .u64 b6, .int .u64 b7], .bool false]) ∧ Below w'.heap.size w' w'')
    (hp : ∀ k : Nat, k < 8 → unlP a b k = true) : Calls Try.prog 26 #[.slice ao na ca, .slice bo nb cb] w fun e w' => UD w a b e w' := by
  have HP := Lib.hid hp
  have HA := Lib.hid WA
  have HB := Lib.hid WB
  clear hp WA WB
  go_enter Try.func26, Try.ntmps26
  go_wp2_with fail
  refine HA.out.mono ?_
  rintro e w1 ⟨rfl, k1⟩
  have B1 := k1.alloc k1.size (.cells #[.int .u64 a0, .int .u64 a1, .int .u64 a2, .int .u64 a3, .int .u64 a4, .int .u64 a5, .int .u64 a6, .int .u64 a7] 68)
  have C1 : Qs (w1.alloc (.cells #[.int .u64 a0, .int .u64 a1, .int .u64 a2, .int .u64 a3, .int .u64 a4, .int .u64 a5, .int .u64 a6, .int .u64 a7] 68)) (some ⟨w1.heap.size, 0, none⟩) [a0, a1, a2, a3, a4, a5, a6, a7] := qs_block (heap_alloc_new w1 _)
  have BX := Lib.hid (HB.out _ B1)
  have H1 := Lib.hid (And.intro B1 C1)
  clear HA k1 B1 C1 HB
  go_wp2_with fail
  refine BX.out.mono ?_
  rintro e w2 ⟨rfl, k2⟩
  have B2 := (H1.out.1.trans (k2.mono H1.out.1.size)).alloc (Nat.le_trans H1.out.1.size k2.size) (.cells #[.int .u64 b0, .int .u64 b1, .int .u64 b2, .int .u64 b3, .int .u64 b4, .int .u64 b5, .int .u64 b6, .int .u64 b7] 68)
  have D2 : Qs (w2.alloc (.cells #[.int .u64 b0, .int .u64 b1, .int .u64 b2, .int .u64 b3, .int .u64 b4, .int .u64 b5, .int .u64 b6, .int .u64 b7] 68)) (some ⟨w2.heap.size, 0, none⟩) [b0, b1, b2, b3, b4, b5, b6, b7] := qs_block (heap_alloc_new w2 _)
  have C2 : Qs (w2.alloc (.cells #[.int .u64 b0, .int .u64 b1, .int .u64 b2, .int .u64 b3, .int .u64 b4, .int .u64 b5, .int .u64 b6, .int .u64 b7] 68)) (some ⟨w1.heap.size, 0, none⟩) [a0, a1, a2, a3, a4, a5, a6, a7] := qs_below (qs_below H1.out.2 k2) ((Below.refl _ w2).alloc (Nat.le_refl _) _)
  have hs : (w2.alloc (.cells #[.int .u64 b0, .int .u64 b1, .int .u64 b2, .int .u64 b3, .int .u64 b4, .int .u64 b5, .int .u64 b6, .int .u64 b7] 68)).heap.size = w2.heap.size + 1 := by simp
  have hs1 : (w1.alloc (.cells #[.int .u64 a0, .int .u64 a1, .int .u64 a2, .int .u64 a3, .int .u64 a4, .int .u64 a5, .int .u64 a6, .int .u64 a7] 68)).heap.size = w1.heap.size + 1 := by simp
  have hlt1 : w1.heap.size < (w2.alloc (.cells #[.int .u64 b0, .int .u64 b1, .int .u64 b2, .int .u64 b3, .int .u64 b4, .int .u64 b5, .int .u64 b6, .int .u64 b7] 68)).heap.size := by have := k2.size; omega
  have hlt2 : w2.heap.size < (w2.alloc (.cells #[.int .u64 b0, .int .u64 b1, .int .u64 b2, .int .u64 b3, .int .u64 b4, .int .u64 b5, .int .u64 b6, .int .u64 b7] 68)).heap.size := by omega
  have U0 : UI (w2.alloc (.cells #[.int .u64 b0, .int .u64 b1, .int .u64 b2, .int .u64 b3, .int .u64 b4, .int .u64 b5, .int .u64 b6, .int .u64 b7] 68)).heap.size a b (w2.alloc (.cells #[.int .u64 b0, .int .u64 b1, .int .u64 b2, .int .u64 b3, .int .u64 b4, .int .u64 b5, .int .u64 b6, .int .u64 b7] 68)) (w2.alloc (.cells #[.int .u64 b0, .int .u64 b1, .int .u64 b2, .int .u64 b3, .int .u64 b4, .int .u64 b5, .int .u64 b6, .int .u64 b7] 68)) (.slice none 0 0) 0 := ⟨none, 0, rfl, ⟨rowK_nil _ _ _, fun g e => by simp [Value.ownBlock] at e⟩, Below.refl _ _, Nat.le_refl _⟩
  have H2 := Lib.hid (And.intro B2 (And.intro C2 D2))
  have HU := Lib.hid U0
  have HS := Lib.hid (And.intro hlt1 hlt2)
  clear BX H1 k2 B2 D2 C2 U0 hs hs1 hlt1 hlt2
  generalize hE : w1.heap.size = E at *
  generalize hF : w2.heap.size = F at *
  clear hE
  go_wp2_with fail
  generalize hw3 : w2.alloc (.cells #[.int .u64 b0, .int .u64 b1, .int .u64 b2, .int .u64 b3, .int .u64 b4, .int .u64 b5, .int .u64 b6, .int .u64 b7] 68) = w3 at *
  clear hF hw3
  go_loopw [9, 21] (fun v9 v21 wr => ∃ k : Nat, v21 = .int .i64 k ∧ k ≤ 8 ∧ Hid (UI w3.heap.size a b w3 wr v9 k)) (fun _ v21 _ => 8 - (intOf v21).toNat)
  case atStart => exact ⟨0, rfl, by omega, HU⟩
  case round =>
    obtain ⟨k, rfl, hk, I⟩ := hrel
    by_cases hlt : k < 8
    · have hlt' : (k : Int) < 8 := by omega
      have hbw := Kept.ofBelow (S := fun _ => False) I.out.bel
      obtain ⟨o1, n, d1, rfl, hn⟩ := I.out.form
      have HN := Lib.hid hn
      have HI := I
      have hnk : n ≤ 8 := by have := unl_len a b k; omega
      clear hn
      have hp := Lib.hid (HP.out k hlt)
      clear hbw I
      go_wp2_with fail
      go_quiet (fail)
      have I2 := Lib.hid (HI.out.drewN nq)
      have HO := Lib.hid (rowK_kept (e := 3) (v := .slice o1 n d1) (n := n) (xs := kv .i64 (unlTo a b k)) (HN.out ▸ I2.out.row) ((Kept.refl (fun _ => False) (wr.drewN nq)).alloc (.cells #[.int .i64 k] 3)) (fun _ _ h => h))
      go_wp2_with (at_builtin
                   refine wpList_appK .i64 47 3 _ Try.underlying47 info3 rfl (.tmp 39) (.tmp 41) rfl (.slice o1 n d1) n _ rfl HO.out (some ⟨(wr.drewN nq).heap.size, 0, none⟩) 1 1 [(k : Int)] rfl rfl (ns_one .i64 _ _ 3) (by intro h; cases h) (by omega) ?_
                   intro ao' cap' w5 ho' hk' hg'
                   have I5 := Lib.hid (I2.out.next hp.out 3 (n := n) HN.out ho' hk' hg')
                   clear ho' hk' hg')
      exact ⟨⟨k + 1, by go_num, by omega, I5⟩, by simp [intOf]; omega⟩
    · obtain rfl : k = 8 := by omega
      go_wp2_with fail
      go_ret
      exact I.out.done H2.out.1

set_option maxHeartbeats 3200000 in
theorem unlike_ft (w : World) (ao bo : Option Addr) (na nb ca cb : Nat) (a b : List Int) (a0 a1 a2 a3 a4 a5 a6 a7 b0 b1 b2 b3 b4 b5 b6 b7 : Int)
    (WA : Calls Try.prog 37 #[.slice ao na ca] w fun e w' => e = .returned (.tuple #[.agg #[.int .u64 a0, .int .u64 a1, .int .u64 a2, .int .u64 a3, .int .u64 a4, .int .u64 a5, .int .u64 a6, .int .u64 a7], .bool false]) ∧ Below w.heap.size w w')
    (WB : ∀ w', Below w.heap.size w w' → Calls Try.prog 37 #[.slice bo nb cb] w' fun e w'' => e = .returned (.tuple #[.agg #[.int .u64 b0, .int .u64 b1, .int .u64 b2, .int .u64 b3, .int .u64 b4, .int .u64 b5, .int .u64 b6, .int .u64 b7], .bool true]) ∧ Below w'.heap.size w' w'')
    (hp : ∀ k : Nat, k < 8 → unlP a b k = true) : Calls Try.prog 26 #[.slice ao na ca, .slice bo nb cb] w fun e w' => UD w a b e w' := by
  have HP := Lib.hid hp
  have HA := Lib.hid WA
  have HB := Lib.hid WB
  clear hp WA WB
  go_enter Try.func26, Try.ntmps26
  go_wp2_with fail
  refine HA.out.mono ?_
  rintro e w1 ⟨rfl, k1⟩
  have B1 := k1.alloc k1.size (.cells #[.int .u64 a0, .int .u64 a1, .int .u64 a2, .int .u64 a3, .int .u64 a4, .int .u64 a5, .int .u64 a6, .int .u64 a7] 68)
  have C1 : Qs (w1.alloc (.cells #[.int .u64 a0, .int .u64 a1, .int .u64 a2, .int .u64 a3, .int .u64 a4, .int .u64 a5, .int .u64 a6, .int .u64 a7] 68)) (some ⟨w1.heap.size, 0, none⟩) [a0, a1, a2, a3, a4, a5, a6, a7] := qs_block (heap_alloc_new w1 _)
  have BX := Lib.hid (HB.out _ B1)
  have H1 := Lib.hid (And.intro B1 C1)
  clear HA k1 B1 C1 HB
  go_wp2_with fail
  refine BX.out.mono ?_
  rintro e w2 ⟨rfl, k2⟩
  have B2 := (H1.out.1.trans (k2.mono H1.out.1.size)).alloc (Nat.le_trans H1.out.1.size k2.size) (.cells #[.int .u64 b0, .int .u64 b1, .int .u64 b2, .int .u64 b3, .int .u64 b4, .int .u64 b5, .int .u64 b6, .int .u64 b7] 68)
  have D2 : Qs (w2.alloc (.cells #[.int .u64 b0, .int .u64 b1, .int .u64 b2, .int .u64 b3, .int .u64 b4, .int .u64 b5, .int .u64 b6, .int .u64 b7] 68)) (some ⟨w2.heap.size, 0, none⟩) [b0, b1, b2, b3, b4, b5, b6, b7] := qs_block (heap_alloc_new w2 _)
  have C2 : Qs (w2.alloc (.cells #[.int .u64 b0, .int .u64 b1, .int .u64 b2, .int .u64 b3, .int .u64 b4, .int .u64 b5, .int .u64 b6, .int .u64 b7] 68)) (some ⟨w1.heap.size, 0, none⟩) [a0, a1, a2, a3, a4, a5, a6, a7] := qs_below (qs_below H1.out.2 k2) ((Below.refl _ w2).alloc (Nat.le_refl _) _)
  have hs : (w2.alloc (.cells #[.int .u64 b0, .int .u64 b1, .int .u64 b2, .int .u64 b3, .int .u64 b4, .int .u64 b5, .int .u64 b6, .int .u64 b7] 68)).heap.size = w2.heap.size + 1 := by simp
  have hs1 : (w1.alloc (.cells #[.int .u64 a0, .int .u64 a1, .int .u64 a2, .int .u64 a3, .int .u64 a4, .int .u64 a5, .int .u64 a6, .int .u64 a7] 68)).heap.size = w1.heap.size + 1 := by simp
  have hlt1 : w1.heap.size < (w2.alloc (.cells #[.int .u64 b0, .int .u64 b1, .int .u64 b2, .int .u64 b3, .int .u64 b4, .int .u64 b5, .int .u64 b6, .int .u64 b7] 68)).heap.size := by have := k2.size; omega
  have hlt2 : w2.heap.size < (w2.alloc (.cells #[.int .u64 b0, .int .u64 b1, .int .u64 b2, .int .u64 b3, .int .u64 b4, .int .u64 b5, .int .u64 b6, .int .u64 b7] 68)).heap.size := by omega
  have U0 : UI (w2.alloc (.cells #[.int .u64 b0, .int .u64 b1, .int .u64 b2, .int .u64 b3, .int .u64 b4, .int .u64 b5, .int .u64 b6, .int .u64 b7] 68)).heap.size a b (w2.alloc (.cells #[.int .u64 b0, .int .u64 b1, .int .u64 b2, .int .u64 b3, .int .u64 b4, .int .u64 b5, .int .u64 b6, .int .u64 b7] 68)) (w2.alloc (.cells #[.int .u64 b0, .int .u64 b1, .int .u64 b2, .int .u64 b3, .int .u64 b4, .int .u64 b5, .int .u64 b6, .int .u64 b7] 68)) (.slice none 0 0) 0 := ⟨none, 0, rfl, ⟨rowK_nil _ _ _, fun g e => by simp [Value.ownBlock] at e⟩, Below.refl _ _, Nat.le_refl _⟩
  have H2 := Lib.hid (And.intro B2 (And.intro C2 D2))
  have HU := Lib.hid U0
  have HS := Lib.hid (And.intro hlt1 hlt2)
  clear BX H1 k2 B2 D2 C2 U0 hs hs1 hlt1 hlt2
  generalize hE : w1.heap.size = E at *
  generalize hF : w2.heap.size = F at *
  clear hE
  go_wp2_with fail
  generalize hw3 : w2.alloc (.cells #[.int .u64 b0, .int .u64 b1, .int .u64 b2, .int .u64 b3, .int .u64 b4, .int .u64 b5, .int .u64 b6, .int .u64 b7] 68) = w3 at *
  clear hF hw3
  go_loopw [9, 21] (fun v9 v21 wr => ∃ k : Nat, v21 = .int .i64 k ∧ k ≤ 8 ∧ Hid (UI w3.heap.size a b w3 wr v9 k)) (fun _ v21 _ => 8 - (intOf v21).toNat)
  case atStart => exact ⟨0, rfl, by omega, HU⟩
  case round =>
    obtain ⟨k, rfl, hk, I⟩ := hrel
    by_cases hlt : k < 8
    · have hlt' : (k : Int) < 8 := by omega
      have hbw := Kept.ofBelow (S := fun _ => False) I.out.bel
      obtain ⟨o1, n, d1, rfl, hn⟩ := I.out.form
      have HN := Lib.hid hn
      have HI := I
      have hnk : n ≤ 8 := by have := unl_len a b k; omega
      clear hn
      have hp := Lib.hid (HP.out k hlt)
      clear hbw I
      go_wp2_with fail
      go_quiet (fail)
      have I2 := Lib.hid (HI.out.drewN nq)
      have HO := Lib.hid (rowK_kept (e := 3) (v := .slice o1 n d1) (n := n) (xs := kv .i64 (unlTo a b k)) (HN.out ▸ I2.out.row) ((Kept.refl (fun _ => False) (wr.drewN nq)).alloc (.cells #[.int .i64 k] 3)) (fun _ _ h => h))
      go_wp2_with (at_builtin
                   refine wpList_appK .i64 47 3 _ Try.underlying47 info3 rfl (.tmp 39) (.tmp 41) rfl (.slice o1 n d1) n _ rfl HO.out (some ⟨(wr.drewN nq).heap.size, 0, none⟩) 1 1 [(k : Int)] rfl rfl (ns_one .i64 _ _ 3) (by intro h; cases h) (by omega) ?_
                   intro ao' cap' w5 ho' hk' hg'
                   have I5 := Lib.hid (I2.out.next hp.out 3 (n := n) HN.out ho' hk' hg')
                   clear ho' hk' hg')
      exact ⟨⟨k + 1, by go_num, by omega, I5⟩, by simp [intOf]; omega⟩
    · obtain rfl : k = 8 := by omega
      go_wp2_with fail
      go_ret
      exact I.out.done H2.out.1

set_option maxHeartbeats 3200000 in
theorem unlike_ff (w : World) (ao bo : Option Addr) (na nb ca cb : Nat) (a b : List Int) (a0 a1 a2 a3 a4 a5 a6 a7 b0 b1 b2 b3 b4 b5 b6 b7 : Int)
    (WA : Calls Try.prog 37 #[.slice ao na ca] w fun e w' => e = .returned (.tuple #[.agg #[.int .u64 a0, .int .u64 a1, .int .u64 a2, .int .u64 a3, .int .u64 a4, .int .u64 a5, .int .u64 a6, .int .u64 a7], .bool false]) ∧ Below w.heap.size w w')
    (WB : ∀ w', Below w.heap.size w w' → Calls Try.prog 37 #[.slice bo nb cb] w' fun e w'' => e = .returned (.tuple #[.agg #[.int .u64 b0, .int .u64 b1, .int .u64 b2, .int .u64 b3, .int .u64 b4, .int .u64 b5, .int .u64 b6, .int .u64 b7], .bool false]) ∧ Below w'.heap.size w' w'')
    (hp : ∀ k : Nat, k < 8 → unlP a b k = true) : Calls Try.prog 26 #[.slice ao na ca, .slice bo nb cb] w fun e w' => UD w a b e w' := by
  have HP := Lib.hid hp
  have HA := Lib.hid WA
  have HB := Lib.hid WB
  clear hp WA WB
  go_enter Try.func26, Try.ntmps26
  go_wp2_with fail
  refine HA.out.mono ?_
  rintro e w1 ⟨rfl, k1⟩
  have B1 := k1.alloc k1.size (.cells #[.int .u64 a0, .int .u64 a1, .int .u64 a2, .int .u64 a3, .int .u64 a4, .int .u64 a5, .int .u64 a6, .int .u64 a7] 68)
  have C1 : Qs (w1.alloc (.cells #[.int .u64 a0, .int .u64 a1, .int .u64 a2, .int .u64 a3, .int .u64 a4, .int .u64 a5, .int .u64 a6, .int .u64 a7] 68)) (some ⟨w1.heap.size, 0, none⟩) [a0, a1, a2, a3, a4, a5, a6, a7] := qs_block (heap_alloc_new w1 _)
  have BX := Lib.hid (HB.out _ B1)
  have H1 := Lib.hid (And.intro B1 C1)
  clear HA k1 B1 C1 HB
  go_wp2_with fail
  refine BX.out.mono ?_
  rintro e w2 ⟨rfl, k2⟩
  have B2 := (H1.out.1.trans (k2.mono H1.out.1.size)).alloc (Nat.le_trans H1.out.1.size k2.size) (.cells #[.int .u64 b0, .int .u64 b1, .int .u64 b2, .int .u64 b3, .int .u64 b4, .int .u64 b5, .int .u64 b6, .int .u64 b7] 68)
  have D2 : Qs (w2.alloc (.cells #[.int .u64 b0, .int .u64 b1, .int .u64 b2, .int .u64 b3, .int .u64 b4, .int .u64 b5, .int .u64 b6, .int .u64 b7] 68)) (some ⟨w2.heap.size, 0, none⟩) [b0, b1, b2, b3, b4, b5, b6, b7] := qs_block (heap_alloc_new w2 _)
  have C2 : Qs (w2.alloc (.cells #[.int .u64 b0, .int .u64 b1, .int .u64 b2, .int .u64 b3, .int .u64 b4, .int .u64 b5, .int .u64 b6, .int .u64 b7] 68)) (some ⟨w1.heap.size, 0, none⟩) [a0, a1, a2, a3, a4, a5, a6, a7] := qs_below (qs_below H1.out.2 k2) ((Below.refl _ w2).alloc (Nat.le_refl _) _)
  have hs : (w2.alloc (.cells #[.int .u64 b0, .int .u64 b1, .int .u64 b2, .int .u64 b3, .int .u64 b4, .int .u64 b5, .int .u64 b6, .int .u64 b7] 68)).heap.size = w2.heap.size + 1 := by simp
  have hs1 : (w1.alloc (.cells #[.int .u64 a0, .int .u64 a1, .int .u64 a2, .int .u64 a3, .int .u64 a4, .int .u64 a5, .int .u64 a6, .int .u64 a7] 68)).heap.size = w1.heap.size + 1 := by simp
  have hlt1 : w1.heap.size < (w2.alloc (.cells #[.int .u64 b0, .int .u64 b1, .int .u64 b2, .int .u64 b3, .int .u64 b4, .int .u64 b5, .int .u64 b6, .int .u64 b7] 68)).heap.size := by have := k2.size; omega
  have hlt2 : w2.heap.size < (w2.alloc (.cells #[.int .u64 b0, .int .u64 b1, .int .u64 b2, .int .u64 b3, .int .u64 b4, .int .u64 b5, .int .u64 b6, .int .u64 b7] 68)).heap.size := by omega
  have U0 : UI (w2.alloc (.cells #[.int .u64 b0, .int .u64 b1, .int .u64 b2, .int .u64 b3, .int .u64 b4, .int .u64 b5, .int .u64 b6, .int .u64 b7] 68)).heap.size a b (w2.alloc (.cells #[.int .u64 b0, .int .u64 b1, .int .u64 b2, .int .u64 b3, .int .u64 b4, .int .u64 b5, .int .u64 b6, .int .u64 b7] 68)) (w2.alloc (.cells #[.int .u64 b0, .int .u64 b1, .int .u64 b2, .int .u64 b3, .int .u64 b4, .int .u64 b5, .int .u64 b6, .int .u64 b7] 68)) (.slice none 0 0) 0 := ⟨none, 0, rfl, ⟨rowK_nil _ _ _, fun g e => by simp [Value.ownBlock] at e⟩, Below.refl _ _, Nat.le_refl _⟩
  have H2 := Lib.hid (And.intro B2 (And.intro C2 D2))
  have HU := Lib.hid U0
  have HS := Lib.hid (And.intro hlt1 hlt2)
  clear BX H1 k2 B2 D2 C2 U0 hs hs1 hlt1 hlt2
  generalize hE : w1.heap.size = E at *
  generalize hF : w2.heap.size = F at *
  clear hE
  go_wp2_with fail
  generalize hw3 : w2.alloc (.cells #[.int .u64 b0, .int .u64 b1, .int .u64 b2, .int .u64 b3, .int .u64 b4, .int .u64 b5, .int .u64 b6, .int .u64 b7] 68) = w3 at *
  clear hF hw3
  go_loopw [9, 21] (fun v9 v21 wr => ∃ k : Nat, v21 = .int .i64 k ∧ k ≤ 8 ∧ Hid (UI w3.heap.size a b w3 wr v9 k)) (fun _ v21 _ => 8 - (intOf v21).toNat)
  case atStart => exact ⟨0, rfl, by omega, HU⟩
  case round =>
    obtain ⟨k, rfl, hk, I⟩ := hrel
    by_cases hlt : k < 8
    · have hlt' : (k : Int) < 8 := by omega
      have hbw := Kept.ofBelow (S := fun _ => False) I.out.bel
      obtain ⟨o1, n, d1, rfl, hn⟩ := I.out.form
      have HN := Lib.hid hn
      have HI := I
      have hnk : n ≤ 8 := by have := unl_len a b k; omega
      clear hn
      have hp := Lib.hid (HP.out k hlt)
      clear hbw I
      go_wp2_with fail
      go_quiet (fail)
      have I2 := Lib.hid (HI.out.drewN nq)
      have HO := Lib.hid (rowK_kept (e := 3) (v := .slice o1 n d1) (n := n) (xs := kv .i64 (unlTo a b k)) (HN.out ▸ I2.out.row) ((Kept.refl (fun _ => False) (wr.drewN nq)).alloc (.cells #[.int .i64 k] 3)) (fun _ _ h => h))
      go_wp2_with (at_builtin
                   refine wpList_appK .i64 47 3 _ Try.underlying47 info3 rfl (.tmp 39) (.tmp 41) rfl (.slice o1 n d1) n _ rfl HO.out (some ⟨(wr.drewN nq).heap.size, 0, none⟩) 1 1 [(k : Int)] rfl rfl (ns_one .i64 _ _ 3) (by intro h; cases h) (by omega) ?_
                   intro ao' cap' w5 ho' hk' hg'
                   have I5 := Lib.hid (I2.out.next hp.out 3 (n := n) HN.out ho' hk' hg')
                   clear ho' hk' hg')
      exact ⟨⟨k + 1, by go_num, by omega, I5⟩, by simp [intOf]; omega⟩
    · obtain rfl : k = 8 := by omega
      go_wp2_with fail
      go_ret
      exact I.out.done H2.out.1

set_option maxHeartbeats 3200000 in
theorem refUnlike_both (w : World) (ao bo : Option Addr) (ca cb : Nat) (a b : List Int) (ha : Qs w ao a) (hb : Qs w bo b) (hna : a.length = 8) (hnb : b.length = 8)
    (hp : ∀ k : Nat, k < 8 → unlP a b k = (a.getD k 0 != b.getD k 0)) : Calls Try.prog 27 #[.slice ao 8 ca, .slice bo 8 cb] w fun e w' => UD w a b e w' := by
  have HP := Lib.hid hp
  have HU : Hid (UI w.heap.size a b w w (.slice none 0 0) 0) := Lib.hid ⟨none, 0, rfl, ⟨rowK_nil _ _ _, fun g e => by simp [Value.ownBlock] at e⟩, Below.refl _ _, Nat.le_refl _⟩
  have HA := Lib.hid (And.intro ha (And.intro hb (And.intro hna hnb)))
  clear ha hb hna hnb
  clear hp
  go_enter Try.func27, Try.ntmps27
  go_wp2_with fail
  go_loopw [5, 6] (fun v5 v6 wr => ∃ k : Nat, v6 = .int .i64 k ∧ k ≤ 8 ∧ Hid (UI w.heap.size a b w wr v5 k)) (fun _ v6 _ => 8 - (intOf v6).toNat)
  case atStart => exact ⟨0, rfl, by omega, HU⟩
  case round =>
    obtain ⟨k, rfl, hk, I⟩ := hrel
    by_cases hlt : k < 8
    · have hlt' : (k : Int) < 8 := by omega
      have hbw := Kept.ofBelow (S := fun _ => False) I.out.bel
      obtain ⟨o1, n, d1, rfl, hn⟩ := I.out.form
      have HN := Lib.hid hn
      have HI := I
      have hnk : n ≤ 8 := by have := unl_len a b k; omega
      clear hn
      obtain ⟨p1, f1, e1, c1⟩ := qs_kept HA.out.1 hbw (fun _ _ _ h => h) k (by have := HA.out.2.2.1; omega)
      obtain ⟨p2, f2, e2, c2⟩ := qs_kept HA.out.2.1 hbw (fun _ _ _ h => h) k (by have := HA.out.2.2.2; omega)
      subst e1 e2
      have hq := HP.out k hlt
      generalize a.getD k 0 = x at c1 hq
      generalize b.getD k 0 = y at c2 hq
      clear hbw I
      cases hxy : (x != y) with
      | true =>
        rw [hxy] at hq
        have hp := Lib.hid hq
        clear hq
        go_wp2_with fail
        go_quiet (fail)
        have I2 := Lib.hid (HI.out.drewN nq)
        have HO := Lib.hid (rowK_kept (e := 3) (v := .slice o1 n d1) (n := n) (xs := kv .i64 (unlTo a b k)) (HN.out ▸ I2.out.row) ((Kept.refl (fun _ => False) (wr.drewN nq)).alloc (.cells #[.int .i64 k] 3)) (fun _ _ h => h))
        go_wp2_with (at_builtin
                     refine wpList_appK .i64 47 3 _ Try.underlying47 info3 rfl (.tmp 30) (.tmp 32) rfl (.slice o1 n d1) n _ rfl HO.out (some ⟨(wr.drewN nq).heap.size, 0, none⟩) 1 1 [(k : Int)] rfl rfl (ns_one .i64 _ _ 3) (by intro h; cases h) (by omega) ?_
                     intro ao' cap' w5 ho' hk' hg'
                     have I5 := Lib.hid (I2.out.next hp.out 3 (n := n) HN.out ho' hk' hg')
                     clear ho' hk' hg')
        exact ⟨⟨k + 1, by go_num, by omega, I5⟩, by simp [intOf]; omega⟩
      | false =>
        rw [hxy] at hq
        have hp := Lib.hid hq
        clear hq
        go_wp2_with fail
        go_quiet (fail)
        have I2 := Lib.hid ((HI.out.drewN nq).stay hp.out)
        go_wp2_with fail
        exact ⟨⟨k + 1, by go_num, by omega, I2⟩, by simp [intOf]; omega⟩
    · obtain rfl : k = 8 := by omega
      go_wp2_with fail
      go_ret
      exact I.out.done (Below.refl _ _)

set_option maxHeartbeats 3200000 in
theorem refUnlike_a (w : World) (ao bo : Option Addr) (na nb ca cb : Nat) (a b : List Int) (h8 : ((na : Int) != 8) = true)
    (hp : ∀ k : Nat, k < 8 → unlP a b k = true) : Calls Try.prog 27 #[.slice ao na ca, .slice bo nb cb] w fun e w' => UD w a b e w' := by
  have HP := Lib.hid hp
  have HU : Hid (UI w.heap.size a b w w (.slice none 0 0) 0) := Lib.hid ⟨none, 0, rfl, ⟨rowK_nil _ _ _, fun g e => by simp [Value.ownBlock] at e⟩, Below.refl _ _, Nat.le_refl _⟩
  clear hp
  go_enter Try.func27, Try.ntmps27
  go_wp2_with fail
  go_loopw [5, 6] (fun v5 v6 wr => ∃ k : Nat, v6 = .int .i64 k ∧ k ≤ 8 ∧ Hid (UI w.heap.size a b w wr v5 k)) (fun _ v6 _ => 8 - (intOf v6).toNat)
  case atStart => exact ⟨0, rfl, by omega, HU⟩
  case round =>
    obtain ⟨k, rfl, hk, I⟩ := hrel
    by_cases hlt : k < 8
    · have hlt' : (k : Int) < 8 := by omega
      have hbw := Kept.ofBelow (S := fun _ => False) I.out.bel
      obtain ⟨o1, n, d1, rfl, hn⟩ := I.out.form
      have HN := Lib.hid hn
      have HI := I
      have hnk : n ≤ 8 := by have := unl_len a b k; omega
      clear hn
      have hp := Lib.hid (HP.out k hlt)
      clear hbw I
      go_wp2_with fail
      go_quiet (fail)
      have I2 := Lib.hid (HI.out.drewN nq)
      have HO := Lib.hid (rowK_kept (e := 3) (v := .slice o1 n d1) (n := n) (xs := kv .i64 (unlTo a b k)) (HN.out ▸ I2.out.row) ((Kept.refl (fun _ => False) (wr.drewN nq)).alloc (.cells #[.int .i64 k] 3)) (fun _ _ h => h))
      go_wp2_with (at_builtin
                   refine wpList_appK .i64 47 3 _ Try.underlying47 info3 rfl (.tmp 30) (.tmp 32) rfl (.slice o1 n d1) n _ rfl HO.out (some ⟨(wr.drewN nq).heap.size, 0, none⟩) 1 1 [(k : Int)] rfl rfl (ns_one .i64 _ _ 3) (by intro h; cases h) (by omega) ?_
                   intro ao' cap' w5 ho' hk' hg'
                   have I5 := Lib.hid (I2.out.next hp.out 3 (n := n) HN.out ho' hk' hg')
                   clear ho' hk' hg')
      exact ⟨⟨k + 1, by go_num, by omega, I5⟩, by simp [intOf]; omega⟩
    · obtain rfl : k = 8 := by omega
      go_wp2_with fail
      go_ret
      exact I.out.done (Below.refl _ _)

set_option maxHeartbeats 3200000 in
theorem refUnlike_b (w : World) (ao bo : Option Addr) (nb ca cb : Nat) (a b : List Int) (h8 : ((nb : Int) != 8) = true)
    (hp : ∀ k : Nat, k < 8 → unlP a b k = true) : Calls Try.prog 27 #[.slice ao 8 ca, .slice bo nb cb] w fun e w' => UD w a b e w' := by
  have HP := Lib.hid hp
  have HU : Hid (UI w.heap.size a b w w (.slice none 0 0) 0) := Lib.hid ⟨none, 0, rfl, ⟨rowK_nil _ _ _, fun g e => by simp [Value.ownBlock] at e⟩, Below.refl _ _, Nat.le_refl _⟩
  clear hp
  go_enter Try.func27, Try.ntmps27
  go_wp2_with fail
  go_loopw [5, 6] (fun v5 v6 wr => ∃ k : Nat, v6 = .int .i64 k ∧ k ≤ 8 ∧ Hid (UI w.heap.size a b w wr v5 k)) (fun _ v6 _ => 8 - (intOf v6).toNat)
  case atStart => exact ⟨0, rfl, by omega, HU⟩
  case round =>
    obtain ⟨k, rfl, hk, I⟩ := hrel
    by_cases hlt : k < 8
    · have hlt' : (k : Int) < 8 := by omega
      have hbw := Kept.ofBelow (S := fun _ => False) I.out.bel
      obtain ⟨o1, n, d1, rfl, hn⟩ := I.out.form
      have HN := Lib.hid hn
      have HI := I
      have hnk : n ≤ 8 := by have := unl_len a b k; omega
      clear hn
      have hp := Lib.hid (HP.out k hlt)
      clear hbw I
      go_wp2_with fail
      go_quiet (fail)
      have I2 := Lib.hid (HI.out.drewN nq)
      have HO := Lib.hid (rowK_kept (e := 3) (v := .slice o1 n d1) (n := n) (xs := kv .i64 (unlTo a b k)) (HN.out ▸ I2.out.row) ((Kept.refl (fun _ => False) (wr.drewN nq)).alloc (.cells #[.int .i64 k] 3)) (fun _ _ h => h))
      go_wp2_with (at_builtin
                   refine wpList_appK .i64 47 3 _ Try.underlying47 info3 rfl (.tmp 30) (.tmp 32) rfl (.slice o1 n d1) n _ rfl HO.out (some ⟨(wr.drewN nq).heap.size, 0, none⟩) 1 1 [(k : Int)] rfl rfl (ns_one .i64 _ _ 3) (by intro h; cases h) (by omega) ?_
                   intro ao' cap' w5 ho' hk' hg'
                   have I5 := Lib.hid (I2.out.next hp.out 3 (n := n) HN.out ho' hk' hg')
                   clear ho' hk' hg')
      exact ⟨⟨k + 1, by go_num, by omega, I5⟩, by simp [intOf]; omega⟩
    · obtain rfl : k = 8 := by omega
      go_wp2_with fail
      go_ret
      exact I.out.done (Below.refl _ _)

theorem unlP_in {a b : List Int} {k : Nat} (h : a.length = 8) (h' : b.length = 8) : unlP a b k = (a.getD k 0 != b.getD k 0) := by
  unfold unlP
  by_cases e : a.getD k 0 = b.getD k 0
  · rw [e]; simp [h, h']
  · simp only [List.getD_eq_getElem?_getD] at e ⊢
    simp [h, h', e]
theorem unlP_out {a b : List Int} {k : Nat} (h : a.length ≠ 8 ∨ b.length ≠ 8) : unlP a b k = true := by
  unfold unlP
  rw [decide_eq_true_iff]
  rcases h with h | h
  · exact .inl h
  · exact .inr (.inl h)
theorem whole_lit (w : World) (ao : Option Addr) (n cap : Nat) (l : List Int) (h : Qs w ao l) (hn : l.length = n) : ∃ x0 x1 x2 x3 x4 x5 x6 x7 : Int, (l.length = 8 → l = [x0, x1, x2, x3, x4, x5, x6, x7]) ∧
    ∀ w', Below w.heap.size w w' → Calls Try.prog 37 #[.slice ao n cap] w' fun e w'' => e = .returned (.tuple #[.agg #[.int .u64 x0, .int .u64 x1, .int .u64 x2, .int .u64 x3, .int .u64 x4, .int .u64 x5, .int .u64 x6, .int .u64 x7], .bool (decide (l.length = 8))]) ∧ Below w'.heap.size w' w'' := by
  have h2 : (wl l).length = 8 := by
    unfold wl
    split
    · assumption
    · rfl
  obtain ⟨x0, x1, x2, x3, x4, x5, x6, x7, e⟩ := len8 h2
  refine ⟨x0, x1, x2, x3, x4, x5, x6, x7, fun h8 => ?_, fun w' k => ?_⟩
  · rw [← e]; exact (if_pos h8).symm
  · have := whole_any w' ao n cap l (qs_below h k) hn
    rw [e] at this
    exact this
theorem unlike_any (w : World) (ao bo : Option Addr) (na nb ca cb : Nat) (a b : List Int) (ha : Qs w ao a) (hb : Qs w bo b) (hna : a.length = na) (hnb : b.length = nb) :
    Calls Try.prog 26 #[.slice ao na ca, .slice bo nb cb] w fun e w' => UD w a b e w' := by
  obtain ⟨a0, a1, a2, a3, a4, a5, a6, a7, ea, WA⟩ := whole_lit w ao na ca a ha hna
  obtain ⟨b0, b1, b2, b3, b4, b5, b6, b7, eb, WB⟩ := whole_lit w bo nb cb b hb hnb
  have WA := WA w (Below.refl _ _)
  by_cases h8 : a.length = 8
  · rw [decide_eq_true h8] at WA
    by_cases h8' : b.length = 8
    · rw [decide_eq_true h8'] at WB
      refine unlike_tt w ao bo na nb ca cb a b a0 a1 a2 a3 a4 a5 a6 a7 b0 b1 b2 b3 b4 b5 b6 b7 WA WB (fun k _ => ?_)
      rw [unlP_in h8 h8', ← ea h8, ← eb h8']
    · rw [decide_eq_false h8'] at WB
      exact unlike_tf w ao bo na nb ca cb a b a0 a1 a2 a3 a4 a5 a6 a7 b0 b1 b2 b3 b4 b5 b6 b7 WA WB (fun k _ => unlP_out (.inr h8'))
  · rw [decide_eq_false h8] at WA
    by_cases h8' : b.length = 8
    · rw [decide_eq_true h8'] at WB
      exact unlike_ft w ao bo na nb ca cb a b a0 a1 a2 a3 a4 a5 a6 a7 b0 b1 b2 b3 b4 b5 b6 b7 WA WB (fun k _ => unlP_out (.inl h8))
    · rw [decide_eq_false h8'] at WB
      exact unlike_ff w ao bo na nb ca cb a b a0 a1 a2 a3 a4 a5 a6 a7 b0 b1 b2 b3 b4 b5 b6 b7 WA WB (fun k _ => unlP_out (.inl h8))
theorem refUnlike_any (w : World) (ao bo : Option Addr) (na nb ca cb : Nat) (a b : List Int) (ha : Qs w ao a) (hb : Qs w bo b) (hna : a.length = na) (hnb : b.length = nb) :
    Calls Try.prog 27 #[.slice ao na ca, .slice bo nb cb] w fun e w' => UD w a b e w' := by
  by_cases h8 : a.length = 8
  · obtain rfl : na = 8 := by omega
    by_cases h8' : b.length = 8
    · obtain rfl : nb = 8 := by omega
      exact refUnlike_both w ao bo ca cb a b ha hb h8 h8' (fun k _ => unlP_in h8 h8')
    · exact refUnlike_b w ao bo nb ca cb a b (by simp; omega) (fun k _ => unlP_out (.inr h8'))
  · exact refUnlike_a w ao bo na nb ca cb a b (by simp; omega) (fun k _ => unlP_out (.inl h8))
end Go.Proofs.Ytfbcjigekmgbnaa
