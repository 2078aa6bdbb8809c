/- The document's own Frame and Parse: they answer the same. -/
import Derived.Test.YtibbomeeoobgkaaSave
import Derived.BigQuiet
namespace Go.Proofs.Ytibbomeeoobgkaa
open Go.RowKit
set_option maxRecDepth 100000

/-- a row of bytes that a call made since H -/
structure Mine (H : Nat) (w0 w : World) (ao : Option Addr) (n c : Nat) (l : List Int) : Prop where
  own : w.ownsRow 0 5 1 (.slice ao n c) n (vals l)
  since : ∀ g, (Value.slice ao n c).ownBlock = some g → H ≤ g
  below : Below H w0 w
  size : H ≤ w.heap.size

theorem Mine.nil (w : World) : Mine w.heap.size w w none 0 0 [] :=
  ⟨⟨rfl, .inl ⟨rfl, rfl⟩⟩, fun g h => by simp [Value.ownBlock] at h, Below.refl _ _, Nat.le_refl _⟩

theorem Mine.step {H : Nat} {w0 w w' : World} {ao ao' : Option Addr} {n c n' c' : Nat} {l l' : List Int} (h : Mine H w0 w ao n c l) (ho : w'.ownsRow 0 5 1 (.slice ao' n' c') n' (vals l')) (hk : Kept (fun k => some k = (Value.slice ao n c).ownBlock) w w') (hg : Grew w (.slice ao n c) (.slice ao' n' c')) : Mine H w0 w' ao' n' c' l' := by
  refine ⟨ho, ?_, h.below.trans (hk.below h.size (fun k e => h.since k e.symm)), Nat.le_trans h.size hk.size⟩
  intro g e
  rcases hg with hg | ⟨k, hg, hk⟩
  · exact h.since g (hg ▸ e)
  · rw [hg] at e
    injection e with e
    exact Nat.le_trans h.size (e ▸ hk)

theorem put_mine (H : Nat) (w0 : World) (ao : Option Addr) (n c : Nat) (l : List Int) (x : Int) (m k : Nat) (w : World) (h : Mine H w0 w ao n c l) (hm : m ≤ 8) (hn : n ≤ 900000) (hk : n + m = k) :
    Calls Try.prog 31 #[.slice ao n c, .int .u64 x, .int .i64 m] w fun e w' => ∃ ao' c', e = .returned (.slice ao' k c') ∧ Mine H w0 w' ao' k c' (l ++ be x m) := by
  subst hk
  refine (put_any ao n c l x m w h.own hm hn).mono ?_
  rintro e w' ⟨ao', c', rfl, ho, hk, hg⟩
  exact ⟨ao', c', rfl, h.step ho hk hg⟩

set_option maxHeartbeats 4000000 in
theorem refFrame_any (w : World) (t : Int) (ao : Option Addr) (c : Nat) (l : List Int) (hb : Bytes w ao l) (hn : ao = none → l = [] ∧ c = 0) (hl : l.length ≤ 100000) (ht : 0 ≤ t ∧ t ≤ 4294967295) :
    Calls Try.prog 12 #[.int .u32 t, .slice ao l.length c] w fun e w' => ∃ ao' c', e = .returned (.slice ao' (16 + l.length) c') ∧ Mine w.heap.size w w' ao' (16 + l.length) c' (frameI t l) := by
  have HB := Lib.hid hb
  have HN := Lib.hid hn
  generalize hm : l.length = m at *
  have HM := Lib.hid hm
  have e1 : IntKind.u64.wrap (m : Int) = (m : Int) := by rw [IntKind.wrap_u64]; omega
  have NN := Lib.hid (show ao = none → m = 0 ∧ c = 0 from fun h => ⟨by rw [← HM.out, (HN.out h).1]; rfl, (HN.out h).2⟩)
  have e0 : IntKind.u64.wrap t = t := by rw [IntKind.wrap_u64]; omega
  clear hb hn hm ht
  go_enter Try.func12, Try.ntmps12
  go_wp2_with fail
  refine (put_mine w.heap.size w none 0 0 [] t 4 4 w (Mine.nil w) (by decide) (by decide) rfl).mono ?_
  rintro e w1 ⟨a1, c1, rfl, m1⟩
  rw [List.nil_append] at m1
  have M1 := Lib.hid m1
  clear m1 e0
  go_wp2_with fail
  refine (put_mine w.heap.size w a1 4 c1 (be t 4) (m : Int) 4 8 w1 M1.out (by decide) (by decide) rfl).mono ?_
  rintro e w2 ⟨a2, c2, rfl, m2⟩
  have M2 := Lib.hid m2
  clear m2 M1
  go_wp2_with (at_builtin
               refine wpList_app _ rfl (.tmp 12) (.tmp 13) rfl (.slice a2 8 c2) 8 _ rfl M2.out.own ao m c l rfl HM.out (bytes_below HB.out M2.out.below (Nat.le_refl _)) NN.out (by omega) ?_
               intro a3 c3 w3 ho hk hg
               have hg2 : Grew w2 (.slice a2 8 c2) (.slice a3 (8 + m) c3) := (by rcases hg with hg | hg; exact .inl hg; exact .inr ⟨_, hg, Nat.le_refl _⟩)
               have M3 := Lib.hid (M2.out.step ho hk hg2)
               clear ho hk hg hg2 M2)
  have hh : be t 4 ++ be (m : Int) 4 ++ l = headI t l := by unfold headI; rw [HM.out]
  have m3 := M3.out
  rw [hh] at m3
  have S := Lib.hid (refSum_any a3 (headI t l) c3 w3 (own_bytes m3.own) (by rw [headI_len, HM.out]; simp only [maxLen]; omega))
  rw [headI_len, HM.out] at S
  have M4 := Lib.hid m3
  clear m3 M3 hh e1
  refine S.out.mono ?_
  rintro e w' ⟨rfl, rfl⟩
  clear S
  go_wp2_with fail
  refine (put_mine w.heap.size w a3 (8 + m) c3 (headI t l) _ 8 (16 + m) w3 M4.out (by decide) (by omega) (by omega)).mono ?_
  rintro e w5 ⟨a5, c5, rfl, m5⟩
  have M5 := Lib.hid m5
  clear m5 M4
  go_wp2_with fail
  go_ret
  exact ⟨a5, c5, rfl, M5.out⟩

set_option maxHeartbeats 4000000 in
/-- the document's reader goes on -/
theorem get2_any (w : World) (X : Nat) (b off : Nat) (l : List Int) (lc m : Nat) (hb : w.heap[X]? = some (.cells #[.slice (some ⟨b, off, none⟩) l.length lc, .bool false] 54 (0, 0))) (hB : Bytes w (some ⟨b, off, none⟩) l) (hby : ∀ x ∈ l, isByte x) (hm : m ≤ l.length) (hm8 : m ≤ 8) (_hlc : l.length ≤ lc) (hl : l.length ≤ 1000000) (hmc : m < lc) :
    Calls Try.prog 24 #[.pointer (some ⟨X, 0, none⟩), .int .i64 m] w fun e w' => e = .returned (.int .u64 (num l m)) ∧ w'.heap[X]? = some (.cells #[.slice (some ⟨b, off + m, none⟩) (l.length - m) (lc - m), .bool false] 54 (0, 0)) ∧ Kept (fun k => k = X) w w' := by
  have hc0 : w.cell? ⟨X, 0, none⟩ = some (.slice (some ⟨b, off, none⟩) l.length lc) := by rw [cell_of_row w X 0 _ _ _ hb]; rfl
  have hc1 : w.cell? ⟨X, 1, none⟩ = some (.bool false) := by rw [cell_of_row w X 1 _ _ _ hb]; rfl
  have hf0 : w.frozen? ⟨X, 0, none⟩ = false := frozen_of_row w X 0 _ _ hb
  have HB := Lib.hid hB
  have HY := Lib.hid hby
  have HX := Lib.hid hb
  clear hb hB hby
  generalize hn : l.length = n at *
  have HN := Lib.hid hn
  clear hn
  have hne : lc ≠ m := by omega
  go_enter Try.func24, Try.ntmps24
  go_wp2_with fail
  go_loop [5, 6] (fun s i => ∃ k : Nat, k ≤ m ∧ i = .int .i64 k ∧ s = .int .u64 (num l k)) (fun _ i => m - (intOf i).toNat)
  case atStart => exact ⟨0, Nat.zero_le _, rfl, rfl⟩
  case round =>
    obtain ⟨k, hk, rfl, rfl⟩ := hrel
    by_cases hlt : k < m
    · have hs := num_step l HY.out k (by rw [HN.out]; omega) (by omega)
      obtain ⟨g', off', e, hcell⟩ := bytes_at HB.out (by rw [HN.out]; omega)
      injection e with e
      injection e with e1 e2 e3
      subst e1 e2
      have hc := hcell k (by rw [HN.out]; omega)
      obtain ⟨y, hy⟩ : ∃ y, y = l.getD k 0 := ⟨_, rfl⟩
      rw [← hy] at hc hs
      have HS := Lib.hid hs
      clear hcell hs hy
      go_wp2
      go_round
      case rel => exact ⟨k + 1, by omega, by go_num, by rw [HS.out]⟩
      case measure => simp [intOf]; omega
    · obtain rfl : k = m := by omega
      go_wp2
      all_goals
        go_ret
        exact ⟨rfl, heap_setCell_same _ _ _ _ _ _ HX.out, (Kept.refl _ w).setCell _ _ (fun _ => rfl)⟩
end Go.Proofs.Ytibbomeeoobgkaa
