/- What Write on a disk answers and leaves. -/
import Derived.Test.YtibbomeeoobgkaaDisk
import Derived.Deep.Cut
namespace Go.Proofs.Ytibbomeeoobgkaa
open Go.RowKit
set_option maxRecDepth 100000

def Dk.put (d : Dk) (x : Int) (l : List Int) : Dk := if x = 0 then { d with a0 := l, armed := false } else { d with a1 := l, armed := false }
def Dk.err (d : Dk) (x : Int) (l : List Int) : Int := if hasB x then (if l.length > 40040 then 21 else if d.armed then 70 else 0) else 61
def Dk.write (d : Dk) (x : Int) (l : List Int) : Dk := if hasB x then (if l.length > 40040 then d else d.put x (if d.armed then l.take d.n.toNat else l)) else d

theorem put_at {w w1 : World} {B : Nat} {d : Dk} {x : Int} {l : List Int} {p0 p1 : Option Addr} {c0 c1 : Nat} {b : Bool} (hx : x = 0 ∨ x = 1) (hb : w.heap[B]? = some (.cells #[.slice p0 d.a0.length c0, .slice p1 d.a1.length c1, .bool b, .int .i64 d.n] 66 (0, 0)))
    (l0 : Lies w B p0 c0 d.a0) (l1 : Lies w B p1 c1 d.a1) (ok : d.Ok) (hl : l.length ≤ 40040) (hr : w1.heap[w.heap.size]? = some (.cells (vals l).toArray 5 (0, 0))) (hk : Below w.heap.size w w1) (hf : b = false) :
    At (w1.setCell ⟨B, x.toNat, none⟩ (.slice (some ⟨w.heap.size, 0, none⟩) l.length l.length)) B (d.put x l) ∧ Kept (fun k => k = B) w (w1.setCell ⟨B, x.toNat, none⟩ (.slice (some ⟨w.heap.size, 0, none⟩) l.length l.length)) := by
  subst hf
  have hB := lt_of_block hb
  have hK : Kept (fun k => k = B) w (w1.setCell ⟨B, x.toNat, none⟩ (.slice (some ⟨w.heap.size, 0, none⟩) l.length l.length)) := (Kept.ofBelow hk).setCell _ _ (fun _ => rfl)
  have hb1 : w1.heap[B]? = some (.cells #[.slice p0 d.a0.length c0, .slice p1 d.a1.length c1, .bool false, .int .i64 d.n] 66 (0, 0)) := (hk.block B hB).trans hb
  have hL : Lies (w1.setCell ⟨B, x.toNat, none⟩ (.slice (some ⟨w.heap.size, 0, none⟩) l.length l.length)) B (some ⟨w.heap.size, 0, none⟩) l.length l := by
    refine ⟨bytes_kept (bytes_row hr) ((Kept.refl (fun k => k = B) w1).setCell _ _ (fun _ => rfl)) ?_, fun h => (by cases h), Nat.le_refl _, ?_⟩
    · intro ad e _ h
      injection e with e; subst e
      simp only [] at h; omega
    · intro ad e h
      injection e with e; subst e
      simp only [] at h; omega
  refine ⟨?_, hK⟩
  unfold Dk.put
  rcases hx with rfl | rfl
  · rw [if_pos rfl]
    exact ⟨_, _, p1, c1, heap_setCell_same _ _ _ _ _ _ hb1, hL, l1.kept hK (fun _ h => h), ⟨hl, ok.a1, ok.n⟩⟩
  · rw [if_neg (by decide)]
    exact ⟨p0, c0, _, _, heap_setCell_same _ _ _ _ _ _ hb1, l0.kept hK (fun _ h => h), hL, ⟨ok.a0, hl, ok.n⟩⟩








set_option maxHeartbeats 4000000 in
theorem write_plain0 (w : World) (B : Nat) (d : Dk) (ao : Option Addr) (c : Nat) (l : List Int) (h : At w B d) (hb : Bytes w ao l) (hl : l.length ≤ 40040) (ha : d.armed = false) :
    Calls Try.prog 17 #[.pointer (some ⟨B, 0, none⟩), .int .i64 0, .slice ao l.length c] w fun e w' => e = .returned (.int .i64 0) ∧ At w' B (d.put 0 l) ∧ Kept (fun k => k = B) w w' := by
  obtain ⟨p0, c0, p1, c1, hB, l0, l1, ok⟩ := h
  rw [ha] at hB
  have h2 : w.cell? ⟨B, 2, none⟩ = some (.bool false) := by simp [World.cell?, hB]
  have C := Lib.hid (copy_any w.drew ao c l hb (by omega))
  have P := Lib.hid (fun w1 (hr : w1.heap[w.drew.heap.size]? = some (.cells (vals l).toArray 5 (0, 0))) (hk : Below w.drew.heap.size w.drew w1) => put_at (w := w.drew) (x := 0) (w1 := w1) (l := l) (by decide) hB (l0.kept (Kept.refl (fun _ => False) w).drew (fun _ h => h.elim)) (l1.kept (Kept.refl (fun _ => False) w).drew (fun _ h => h.elim)) ok hl hr hk rfl)
  have HB := Lib.hid hB
  have e1 : hasB 0 = true := by decide
  have hm' : decide (40040 < (l.length : Int)) = false := by rw [decide_eq_false_iff_not]; omega
  generalize hm : l.length = m at *
  have HM := Lib.hid hm
  clear hb l0 l1 ok hB hl ha hm
  go_enter Try.func17, Try.ntmps17
  go_wp2_with fail
  refine (has_any w _ 0).mono ?_
  rintro e w' ⟨rfl, rfl⟩
  rw [e1]
  clear e1
  go_upto_region 9 with fail
  go_region_with (go_at_call 34; refine C.out.mono ?_; rintro e w1 ⟨rfl, hr, hk⟩; have HQ := Lib.hid (P.out w1 hr hk); have hb1 := (hk.block B (lt_of_block HB.out)).trans HB.out; have y0 : w1.cell? ⟨B, 0, none⟩ = some (.slice p0 d.a0.length c0) := (by simp [World.cell?, hb1]); have y1 : w1.frozen? ⟨B, 0, none⟩ = false := (by simp [World.frozen?, hb1]); clear hr hk hb1)
  all_goals
    go_wp2_with fail
    go_ret
    exact ⟨rfl, HQ.out.1, ⟨HQ.out.2.os, HQ.out.2.tape, HQ.out.2.output, HQ.out.2.size, HQ.out.2.block⟩⟩

set_option maxHeartbeats 4000000 in
theorem write_plain1 (w : World) (B : Nat) (d : Dk) (ao : Option Addr) (c : Nat) (l : List Int) (h : At w B d) (hb : Bytes w ao l) (hl : l.length ≤ 40040) (ha : d.armed = false) :
    Calls Try.prog 17 #[.pointer (some ⟨B, 0, none⟩), .int .i64 1, .slice ao l.length c] w fun e w' => e = .returned (.int .i64 0) ∧ At w' B (d.put 1 l) ∧ Kept (fun k => k = B) w w' := by
  obtain ⟨p0, c0, p1, c1, hB, l0, l1, ok⟩ := h
  rw [ha] at hB
  have h2 : w.cell? ⟨B, 2, none⟩ = some (.bool false) := by simp [World.cell?, hB]
  have C := Lib.hid (copy_any w.drew ao c l hb (by omega))
  have P := Lib.hid (fun w1 (hr : w1.heap[w.drew.heap.size]? = some (.cells (vals l).toArray 5 (0, 0))) (hk : Below w.drew.heap.size w.drew w1) => put_at (w := w.drew) (x := 1) (w1 := w1) (l := l) (by decide) hB (l0.kept (Kept.refl (fun _ => False) w).drew (fun _ h => h.elim)) (l1.kept (Kept.refl (fun _ => False) w).drew (fun _ h => h.elim)) ok hl hr hk rfl)
  have HB := Lib.hid hB
  have e1 : hasB 1 = true := by decide
  have hm' : decide (40040 < (l.length : Int)) = false := by rw [decide_eq_false_iff_not]; omega
  generalize hm : l.length = m at *
  have HM := Lib.hid hm
  clear hb l0 l1 ok hB hl ha hm
  go_enter Try.func17, Try.ntmps17
  go_wp2_with fail
  refine (has_any w _ 1).mono ?_
  rintro e w' ⟨rfl, rfl⟩
  rw [e1]
  clear e1
  go_upto_region 9 with fail
  go_region_with (go_at_call 34; refine C.out.mono ?_; rintro e w1 ⟨rfl, hr, hk⟩; have HQ := Lib.hid (P.out w1 hr hk); have hb1 := (hk.block B (lt_of_block HB.out)).trans HB.out; have y0 : w1.cell? ⟨B, 1, none⟩ = some (.slice p1 d.a1.length c1) := (by simp [World.cell?, hb1]); have y1 : w1.frozen? ⟨B, 1, none⟩ = false := (by simp [World.frozen?, hb1]); clear hr hk hb1)
  all_goals
    go_wp2_with fail
    go_ret
    exact ⟨rfl, HQ.out.1, ⟨HQ.out.2.os, HQ.out.2.tape, HQ.out.2.output, HQ.out.2.size, HQ.out.2.block⟩⟩

set_option maxHeartbeats 4000000 in
theorem write_armed0b (w : World) (B : Nat) (d : Dk) (ao : Option Addr) (c : Nat) (l : List Int) (h : At w B d) (hb : Bytes w ao l) (hf : l.length ≤ c) (hl : l.length ≤ 40040) (ha : d.armed = true) (hc0 : ¬ (l.length : Int) < d.n) :
    Calls Try.prog 17 #[.pointer (some ⟨B, 0, none⟩), .int .i64 0, .slice ao l.length c] w fun e w' => e = .returned (.int .i64 70) ∧ At w' B (d.put 0 (l.take d.n.toNat)) ∧ Kept (fun k => k = B) w w' := by
  obtain ⟨p0, c0, p1, c1, hB, l0, l1, ok⟩ := h
  rw [ha] at hB
  have h2 : w.cell? ⟨B, 2, none⟩ = some (.bool true) := by simp [World.cell?, hB]
  have f2 : w.frozen? ⟨B, 2, none⟩ = false := by simp [World.frozen?, hB]
  obtain ⟨wA, hwA⟩ : ∃ wA, wA = w.setCell ⟨B, 2, none⟩ (.bool false) := ⟨_, rfl⟩
  have kA : Kept (fun k => k = B) w wA := by rw [hwA]; exact (Kept.refl _ w).setCell _ _ (fun _ => rfl)
  have hA : wA.heap[B]? = some (.cells #[.slice p0 d.a0.length c0, .slice p1 d.a1.length c1, .bool false, .int .i64 d.n] 66 (0, 0)) := by rw [hwA]; exact heap_setCell_same _ _ _ _ _ _ hB
  have h3 : wA.cell? ⟨B, 3, none⟩ = some (.int .i64 d.n) := by simp [World.cell?, hA]
  have kd : Kept (fun k => k = B) w wA.drew := kA.drew
  obtain ⟨k, hk1, hk2, hk3⟩ : ∃ k : Nat, k = d.n.toNat ∧ k ≤ l.length ∧ l.take d.n.toNat = l.take k := ⟨_, rfl, by omega, rfl⟩
  have hn := ok.n
  rw [hk3]
  have hlt : (l.take k).length = k := by simp; omega
  have hbt : Bytes wA.drew ao (l.take k) := by
    intro i hi
    rw [hlt] at hi
    have hbA : ∀ ad, ao = some ad → ad.block ≠ B := by
      intro ad e hbb
      obtain ⟨ad', e', hc⟩ := hb i (by omega)
      rw [e] at e'; injection e' with e'; subst e'
      have hab := add_block ad i
      unfold World.cell? at hc
      rw [hab, hbb, hB] at hc
      simp only [] at hc
      split at hc
      · cases hc
      · rcases hq : (ad.add i).off with _ | _ | _ | _ | j
        all_goals (rw [hq] at hc; simp at hc)
    obtain ⟨ad, e, hc⟩ := bytes_kept hb kd (fun ad e _ => hbA ad e) i (by omega)
    refine ⟨ad, e, hc.trans ?_⟩
    simp [hi]
  have C := Lib.hid (copy_any wA.drew ao c (l.take k) hbt (by omega))
  rw [hlt] at C
  have P := Lib.hid (fun w1 (hr : w1.heap[wA.drew.heap.size]? = some (.cells (vals (l.take k)).toArray 5 (0, 0))) (hk : Below wA.drew.heap.size wA.drew w1) => put_at (w := wA.drew) (x := 0) (w1 := w1) (l := l.take k) (by decide) hA (l0.kept kd (fun _ h => h)) (l1.kept kd (fun _ h => h)) ok (by omega) hr hk rfl)
  rw [hlt] at P
  rw [show d.n = (k : Int) by omega] at h3 hc0
  have HB := Lib.hid hA
  have KD := Lib.hid kd
  have e1 : hasB 0 = true := by decide
  have hm' : decide (40040 < (l.length : Int)) = false := by rw [decide_eq_false_iff_not]; omega
  have hkc : k ≤ c := by omega
  generalize hm : l.length = m at *
  have HM := Lib.hid hm
  clear hb l0 l1 ok hB hl ha hm hlt hbt kd kA hA hk3 hf
  clear hk1
  go_enter Try.func17, Try.ntmps17
  go_wp2_with fail
  refine (has_any w _ 0).mono ?_
  rintro e w' ⟨rfl, rfl⟩
  rw [e1]
  clear e1
  go_upto_region 7 with fail
  rw [← hwA]
  clear hwA h2 f2
  go_region_with (go_at_call 34; refine C.out.mono ?_; rintro e w1 ⟨rfl, hr, hk⟩; have HQ := Lib.hid (P.out w1 hr hk); have hb1 := (hk.block B (lt_of_block HB.out)).trans HB.out; have y0 : w1.cell? ⟨B, 0, none⟩ = some (.slice p0 d.a0.length c0) := (by simp [World.cell?, hb1]); have y1 : w1.frozen? ⟨B, 0, none⟩ = false := (by simp [World.frozen?, hb1]); clear hr hk hb1)
  all_goals
    go_wp2_with fail
    go_ret
    exact ⟨rfl, HQ.out.1, KD.out.trans HQ.out.2 (fun _ _ h => h)⟩

set_option maxHeartbeats 4000000 in
theorem write_armed0g (w : World) (B : Nat) (d : Dk) (ao : Option Addr) (c : Nat) (l : List Int) (h : At w B d) (hb : Bytes w ao l) (hf : l.length ≤ c) (hl : l.length ≤ 40040) (ha : d.armed = true) (hc0 : (l.length : Int) < d.n) :
    Calls Try.prog 17 #[.pointer (some ⟨B, 0, none⟩), .int .i64 0, .slice ao l.length c] w fun e w' => e = .returned (.int .i64 70) ∧ At w' B (d.put 0 (l.take d.n.toNat)) ∧ Kept (fun k => k = B) w w' := by
  obtain ⟨p0, c0, p1, c1, hB, l0, l1, ok⟩ := h
  rw [ha] at hB
  have h2 : w.cell? ⟨B, 2, none⟩ = some (.bool true) := by simp [World.cell?, hB]
  have f2 : w.frozen? ⟨B, 2, none⟩ = false := by simp [World.frozen?, hB]
  obtain ⟨wA, hwA⟩ : ∃ wA, wA = w.setCell ⟨B, 2, none⟩ (.bool false) := ⟨_, rfl⟩
  have kA : Kept (fun k => k = B) w wA := by rw [hwA]; exact (Kept.refl _ w).setCell _ _ (fun _ => rfl)
  have hA : wA.heap[B]? = some (.cells #[.slice p0 d.a0.length c0, .slice p1 d.a1.length c1, .bool false, .int .i64 d.n] 66 (0, 0)) := by rw [hwA]; exact heap_setCell_same _ _ _ _ _ _ hB
  have h3 : wA.cell? ⟨B, 3, none⟩ = some (.int .i64 d.n) := by simp [World.cell?, hA]
  have kd : Kept (fun k => k = B) w wA.drew := kA.drew
  obtain ⟨k, hk1, hk2, hk3⟩ : ∃ k : Nat, k = l.length ∧ k ≤ l.length ∧ l.take d.n.toNat = l.take k := ⟨_, rfl, by omega, by rw [List.take_of_length_le (by omega), List.take_of_length_le (Nat.le_refl _)]⟩
  have hn := ok.n
  rw [hk3]
  have hlt : (l.take k).length = k := by simp; omega
  have hbt : Bytes wA.drew ao (l.take k) := by
    intro i hi
    rw [hlt] at hi
    have hbA : ∀ ad, ao = some ad → ad.block ≠ B := by
      intro ad e hbb
      obtain ⟨ad', e', hc⟩ := hb i (by omega)
      rw [e] at e'; injection e' with e'; subst e'
      have hab := add_block ad i
      unfold World.cell? at hc
      rw [hab, hbb, hB] at hc
      simp only [] at hc
      split at hc
      · cases hc
      · rcases hq : (ad.add i).off with _ | _ | _ | _ | j
        all_goals (rw [hq] at hc; simp at hc)
    obtain ⟨ad, e, hc⟩ := bytes_kept hb kd (fun ad e _ => hbA ad e) i (by omega)
    refine ⟨ad, e, hc.trans ?_⟩
    simp [hi]
  have C := Lib.hid (copy_any wA.drew ao c (l.take k) hbt (by omega))
  rw [hlt] at C
  have P := Lib.hid (fun w1 (hr : w1.heap[wA.drew.heap.size]? = some (.cells (vals (l.take k)).toArray 5 (0, 0))) (hk : Below wA.drew.heap.size wA.drew w1) => put_at (w := wA.drew) (x := 0) (w1 := w1) (l := l.take k) (by decide) hA (l0.kept kd (fun _ h => h)) (l1.kept kd (fun _ h => h)) ok (by omega) hr hk rfl)
  rw [hlt] at P
  have hkm : k = l.length := by omega
  subst hkm
  have HB := Lib.hid hA
  have KD := Lib.hid kd
  have e1 : hasB 0 = true := by decide
  have hm' : decide (40040 < (l.length : Int)) = false := by rw [decide_eq_false_iff_not]; omega
  have hkc : l.length ≤ c := by omega
  generalize hm : l.length = m at *
  have HM := Lib.hid hm
  clear hb l0 l1 ok hB hl ha hm hlt hbt kd kA hA hk3 hf
  clear hk1
  go_enter Try.func17, Try.ntmps17
  go_wp2_with fail
  refine (has_any w _ 0).mono ?_
  rintro e w' ⟨rfl, rfl⟩
  rw [e1]
  clear e1
  go_upto_region 7 with fail
  rw [← hwA]
  clear hwA h2 f2
  go_region_with (go_at_call 34; refine C.out.mono ?_; rintro e w1 ⟨rfl, hr, hk⟩; have HQ := Lib.hid (P.out w1 hr hk); have hb1 := (hk.block B (lt_of_block HB.out)).trans HB.out; have y0 : w1.cell? ⟨B, 0, none⟩ = some (.slice p0 d.a0.length c0) := (by simp [World.cell?, hb1]); have y1 : w1.frozen? ⟨B, 0, none⟩ = false := (by simp [World.frozen?, hb1]); clear hr hk hb1)
  all_goals
    go_wp2_with fail
    go_ret
    exact ⟨rfl, HQ.out.1, KD.out.trans HQ.out.2 (fun _ _ h => h)⟩

set_option maxHeartbeats 4000000 in
theorem write_armed1b (w : World) (B : Nat) (d : Dk) (ao : Option Addr) (c : Nat) (l : List Int) (h : At w B d) (hb : Bytes w ao l) (hf : l.length ≤ c) (hl : l.length ≤ 40040) (ha : d.armed = true) (hc0 : ¬ (l.length : Int) < d.n) :
    Calls Try.prog 17 #[.pointer (some ⟨B, 0, none⟩), .int .i64 1, .slice ao l.length c] w fun e w' => e = .returned (.int .i64 70) ∧ At w' B (d.put 1 (l.take d.n.toNat)) ∧ Kept (fun k => k = B) w w' := by
  obtain ⟨p0, c0, p1, c1, hB, l0, l1, ok⟩ := h
  rw [ha] at hB
  have h2 : w.cell? ⟨B, 2, none⟩ = some (.bool true) := by simp [World.cell?, hB]
  have f2 : w.frozen? ⟨B, 2, none⟩ = false := by simp [World.frozen?, hB]
  obtain ⟨wA, hwA⟩ : ∃ wA, wA = w.setCell ⟨B, 2, none⟩ (.bool false) := ⟨_, rfl⟩
  have kA : Kept (fun k => k = B) w wA := by rw [hwA]; exact (Kept.refl _ w).setCell _ _ (fun _ => rfl)
  have hA : wA.heap[B]? = some (.cells #[.slice p0 d.a0.length c0, .slice p1 d.a1.length c1, .bool false, .int .i64 d.n] 66 (0, 0)) := by rw [hwA]; exact heap_setCell_same _ _ _ _ _ _ hB
  have h3 : wA.cell? ⟨B, 3, none⟩ = some (.int .i64 d.n) := by simp [World.cell?, hA]
  have kd : Kept (fun k => k = B) w wA.drew := kA.drew
  obtain ⟨k, hk1, hk2, hk3⟩ : ∃ k : Nat, k = d.n.toNat ∧ k ≤ l.length ∧ l.take d.n.toNat = l.take k := ⟨_, rfl, by omega, rfl⟩
  have hn := ok.n
  rw [hk3]
  have hlt : (l.take k).length = k := by simp; omega
  have hbt : Bytes wA.drew ao (l.take k) := by
    intro i hi
    rw [hlt] at hi
    have hbA : ∀ ad, ao = some ad → ad.block ≠ B := by
      intro ad e hbb
      obtain ⟨ad', e', hc⟩ := hb i (by omega)
      rw [e] at e'; injection e' with e'; subst e'
      have hab := add_block ad i
      unfold World.cell? at hc
      rw [hab, hbb, hB] at hc
      simp only [] at hc
      split at hc
      · cases hc
      · rcases hq : (ad.add i).off with _ | _ | _ | _ | j
        all_goals (rw [hq] at hc; simp at hc)
    obtain ⟨ad, e, hc⟩ := bytes_kept hb kd (fun ad e _ => hbA ad e) i (by omega)
    refine ⟨ad, e, hc.trans ?_⟩
    simp [hi]
  have C := Lib.hid (copy_any wA.drew ao c (l.take k) hbt (by omega))
  rw [hlt] at C
  have P := Lib.hid (fun w1 (hr : w1.heap[wA.drew.heap.size]? = some (.cells (vals (l.take k)).toArray 5 (0, 0))) (hk : Below wA.drew.heap.size wA.drew w1) => put_at (w := wA.drew) (x := 1) (w1 := w1) (l := l.take k) (by decide) hA (l0.kept kd (fun _ h => h)) (l1.kept kd (fun _ h => h)) ok (by omega) hr hk rfl)
  rw [hlt] at P
  rw [show d.n = (k : Int) by omega] at h3 hc0
  have HB := Lib.hid hA
  have KD := Lib.hid kd
  have e1 : hasB 1 = true := by decide
  have hm' : decide (40040 < (l.length : Int)) = false := by rw [decide_eq_false_iff_not]; omega
  have hkc : k ≤ c := by omega
  generalize hm : l.length = m at *
  have HM := Lib.hid hm
  clear hb l0 l1 ok hB hl ha hm hlt hbt kd kA hA hk3 hf
  clear hk1
  go_enter Try.func17, Try.ntmps17
  go_wp2_with fail
  refine (has_any w _ 1).mono ?_
  rintro e w' ⟨rfl, rfl⟩
  rw [e1]
  clear e1
  go_upto_region 7 with fail
  rw [← hwA]
  clear hwA h2 f2
  go_region_with (go_at_call 34; refine C.out.mono ?_; rintro e w1 ⟨rfl, hr, hk⟩; have HQ := Lib.hid (P.out w1 hr hk); have hb1 := (hk.block B (lt_of_block HB.out)).trans HB.out; have y0 : w1.cell? ⟨B, 1, none⟩ = some (.slice p1 d.a1.length c1) := (by simp [World.cell?, hb1]); have y1 : w1.frozen? ⟨B, 1, none⟩ = false := (by simp [World.frozen?, hb1]); clear hr hk hb1)
  all_goals
    go_wp2_with fail
    go_ret
    exact ⟨rfl, HQ.out.1, KD.out.trans HQ.out.2 (fun _ _ h => h)⟩

set_option maxHeartbeats 4000000 in
theorem write_armed1g (w : World) (B : Nat) (d : Dk) (ao : Option Addr) (c : Nat) (l : List Int) (h : At w B d) (hb : Bytes w ao l) (hf : l.length ≤ c) (hl : l.length ≤ 40040) (ha : d.armed = true) (hc0 : (l.length : Int) < d.n) :
    Calls Try.prog 17 #[.pointer (some ⟨B, 0, none⟩), .int .i64 1, .slice ao l.length c] w fun e w' => e = .returned (.int .i64 70) ∧ At w' B (d.put 1 (l.take d.n.toNat)) ∧ Kept (fun k => k = B) w w' := by
  obtain ⟨p0, c0, p1, c1, hB, l0, l1, ok⟩ := h
  rw [ha] at hB
  have h2 : w.cell? ⟨B, 2, none⟩ = some (.bool true) := by simp [World.cell?, hB]
  have f2 : w.frozen? ⟨B, 2, none⟩ = false := by simp [World.frozen?, hB]
  obtain ⟨wA, hwA⟩ : ∃ wA, wA = w.setCell ⟨B, 2, none⟩ (.bool false) := ⟨_, rfl⟩
  have kA : Kept (fun k => k = B) w wA := by rw [hwA]; exact (Kept.refl _ w).setCell _ _ (fun _ => rfl)
  have hA : wA.heap[B]? = some (.cells #[.slice p0 d.a0.length c0, .slice p1 d.a1.length c1, .bool false, .int .i64 d.n] 66 (0, 0)) := by rw [hwA]; exact heap_setCell_same _ _ _ _ _ _ hB
  have h3 : wA.cell? ⟨B, 3, none⟩ = some (.int .i64 d.n) := by simp [World.cell?, hA]
  have kd : Kept (fun k => k = B) w wA.drew := kA.drew
  obtain ⟨k, hk1, hk2, hk3⟩ : ∃ k : Nat, k = l.length ∧ k ≤ l.length ∧ l.take d.n.toNat = l.take k := ⟨_, rfl, by omega, by rw [List.take_of_length_le (by omega), List.take_of_length_le (Nat.le_refl _)]⟩
  have hn := ok.n
  rw [hk3]
  have hlt : (l.take k).length = k := by simp; omega
  have hbt : Bytes wA.drew ao (l.take k) := by
    intro i hi
    rw [hlt] at hi
    have hbA : ∀ ad, ao = some ad → ad.block ≠ B := by
      intro ad e hbb
      obtain ⟨ad', e', hc⟩ := hb i (by omega)
      rw [e] at e'; injection e' with e'; subst e'
      have hab := add_block ad i
      unfold World.cell? at hc
      rw [hab, hbb, hB] at hc
      simp only [] at hc
      split at hc
      · cases hc
      · rcases hq : (ad.add i).off with _ | _ | _ | _ | j
        all_goals (rw [hq] at hc; simp at hc)
    obtain ⟨ad, e, hc⟩ := bytes_kept hb kd (fun ad e _ => hbA ad e) i (by omega)
    refine ⟨ad, e, hc.trans ?_⟩
    simp [hi]
  have C := Lib.hid (copy_any wA.drew ao c (l.take k) hbt (by omega))
  rw [hlt] at C
  have P := Lib.hid (fun w1 (hr : w1.heap[wA.drew.heap.size]? = some (.cells (vals (l.take k)).toArray 5 (0, 0))) (hk : Below wA.drew.heap.size wA.drew w1) => put_at (w := wA.drew) (x := 1) (w1 := w1) (l := l.take k) (by decide) hA (l0.kept kd (fun _ h => h)) (l1.kept kd (fun _ h => h)) ok (by omega) hr hk rfl)
  rw [hlt] at P
  have hkm : k = l.length := by omega
  subst hkm
  have HB := Lib.hid hA
  have KD := Lib.hid kd
  have e1 : hasB 1 = true := by decide
  have hm' : decide (40040 < (l.length : Int)) = false := by rw [decide_eq_false_iff_not]; omega
  have hkc : l.length ≤ c := by omega
  generalize hm : l.length = m at *
  have HM := Lib.hid hm
  clear hb l0 l1 ok hB hl ha hm hlt hbt kd kA hA hk3 hf
  clear hk1
  go_enter Try.func17, Try.ntmps17
  go_wp2_with fail
  refine (has_any w _ 1).mono ?_
  rintro e w' ⟨rfl, rfl⟩
  rw [e1]
  clear e1
  go_upto_region 7 with fail
  rw [← hwA]
  clear hwA h2 f2
  go_region_with (go_at_call 34; refine C.out.mono ?_; rintro e w1 ⟨rfl, hr, hk⟩; have HQ := Lib.hid (P.out w1 hr hk); have hb1 := (hk.block B (lt_of_block HB.out)).trans HB.out; have y0 : w1.cell? ⟨B, 1, none⟩ = some (.slice p1 d.a1.length c1) := (by simp [World.cell?, hb1]); have y1 : w1.frozen? ⟨B, 1, none⟩ = false := (by simp [World.frozen?, hb1]); clear hr hk hb1)
  all_goals
    go_wp2_with fail
    go_ret
    exact ⟨rfl, HQ.out.1, KD.out.trans HQ.out.2 (fun _ _ h => h)⟩

set_option maxHeartbeats 1000000 in
theorem write_none (w : World) (B : Nat) (d : Dk) (x : Int) (ao : Option Addr) (m c : Nat) (h : At w B d) (hx : hasB x = false) :
    Calls Try.prog 17 #[.pointer (some ⟨B, 0, none⟩), .int .i64 x, .slice ao m c] w fun e w' => e = .returned (.int .i64 61) ∧ At w' B d ∧ Kept (fun k => k = B) w w' := by
  have HA := Lib.hid h
  clear h
  go_enter Try.func17, Try.ntmps17
  go_wp2_with fail
  refine (has_any w _ x).mono ?_
  rintro e w' ⟨rfl, rfl⟩
  rw [hx]
  clear hx
  go_wp2_with fail
  go_ret
  exact ⟨rfl, HA.out, Kept.refl _ w⟩

set_option maxHeartbeats 1000000 in
theorem write_long (w : World) (B : Nat) (d : Dk) (x : Int) (ao : Option Addr) (m c : Nat) (h : At w B d) (hx : hasB x = true) (hm : 40040 < m) :
    Calls Try.prog 17 #[.pointer (some ⟨B, 0, none⟩), .int .i64 x, .slice ao m c] w fun e w' => e = .returned (.int .i64 21) ∧ At w' B d ∧ Kept (fun k => k = B) w w' := by
  have HA := Lib.hid h
  have hm' : decide (40040 < (m : Int)) = true := by rw [decide_eq_true_eq]; omega
  clear h hm
  go_enter Try.func17, Try.ntmps17
  go_wp2_with fail
  refine (has_any w _ x).mono ?_
  rintro e w' ⟨rfl, rfl⟩
  rw [hx]
  clear hx
  go_wp2_with fail
  go_ret
  exact ⟨rfl, HA.out, Kept.refl _ w⟩

theorem write_any (w : World) (B : Nat) (d : Dk) (x : Int) (ao : Option Addr) (c : Nat) (l : List Int) (h : At w B d) (hb : Bytes w ao l) (hf : l.length ≤ c) :
    Calls Try.prog 17 #[.pointer (some ⟨B, 0, none⟩), .int .i64 x, .slice ao l.length c] w fun e w' => e = .returned (.int .i64 (d.err x l)) ∧ At w' B (d.write x l) ∧ Kept (fun k => k = B) w w' := by
  unfold Dk.err Dk.write
  cases hx : hasB x with
  | false => exact write_none w B d x ao _ c h hx
  | true =>
    rw [if_pos rfl, if_pos rfl]
    by_cases hl : l.length > 40040
    · rw [if_pos hl, if_pos hl]
      exact write_long w B d x ao _ c h hx hl
    · rw [if_neg hl, if_neg hl]
      have hx' : x = 0 ∨ x = 1 := by unfold hasB at hx; exact of_decide_eq_true hx
      cases ha : d.armed with
      | false =>
        rcases hx' with rfl | rfl
        · exact write_plain0 w B d ao c l h hb (by omega) ha
        · exact write_plain1 w B d ao c l h hb (by omega) ha
      | true =>
        rw [if_pos rfl, if_pos rfl]
        by_cases hq : (l.length : Int) < d.n
        · rcases hx' with rfl | rfl
          · exact write_armed0g w B d ao c l h hb hf (by omega) ha hq
          · exact write_armed1g w B d ao c l h hb hf (by omega) ha hq
        · rcases hx' with rfl | rfl
          · exact write_armed0b w B d ao c l h hb hf (by omega) ha hq
          · exact write_armed1b w B d ao c l h hb hf (by omega) ha hq
end Go.Proofs.Ytibbomeeoobgkaa
