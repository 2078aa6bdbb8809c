/- A disk in memory: what each call on it tells and leaves, Write aside. -/
import Derived.Test.YtibbomeeoobgkaaCopies
namespace Go.Proofs.Ytibbomeeoobgkaa
open Go.RowKit
set_option maxRecDepth 100000

/-- what a disk holds -/
structure Dk where
  a0 : List Int
  a1 : List Int
  armed : Bool
  n : Int

structure Dk.Ok (d : Dk) : Prop where
  a0 : d.a0.length ≤ 40040
  a1 : d.a1.length ≤ 40040
  n : 0 ≤ d.n ∧ d.n ≤ 9223372036854775807

/-- at block B lies a disk -/
def At (w : World) (B : Nat) (d : Dk) : Prop :=
  ∃ p0 c0 p1 c1, w.heap[B]? = some (.cells #[.slice p0 d.a0.length c0, .slice p1 d.a1.length c1, .bool d.armed, .int .i64 d.n] 66 (0, 0)) ∧ Lies w B p0 c0 d.a0 ∧ Lies w B p1 c1 d.a1 ∧ d.Ok

theorem At.lt {w : World} {B : Nat} {d : Dk} (h : At w B d) : B < w.heap.size := by
  obtain ⟨p0, c0, p1, c1, hb, _⟩ := h
  exact lt_of_block hb

theorem At.kept {S : Nat → Prop} {w w' : World} {B : Nat} {d : Dk} (h : At w B d) (k : Kept S w w') (hS : ∀ i, i < w.heap.size → ¬ S i) : At w' B d := by
  obtain ⟨p0, c0, p1, c1, hb, l0, l1, ok⟩ := h
  have k' : Kept (fun _ => False) w w' := k.mono (fun i hi hs => hS i hi hs)
  exact ⟨p0, c0, p1, c1, (k'.block B (lt_of_block hb) (fun h => h)).trans hb, l0.kept k' (fun _ h => h.elim), l1.kept k' (fun _ h => h.elim), ok⟩

theorem At.below {w w' : World} {B : Nat} {d : Dk} (h : At w B d) (k : Below w.heap.size w w') : At w' B d :=
  h.kept (S := fun _ => False) (Kept.ofBelow k) (fun _ _ h => h)

def Dk.new : Dk := ⟨[], [], false, 0⟩
theorem lies_nil (w : World) (B : Nat) : Lies w B none 0 [] := ⟨fun i hi => absurd hi (Nat.not_lt_zero _), fun _ => ⟨rfl, rfl⟩, Nat.le_refl _, fun _ h => by cases h⟩

set_option maxHeartbeats 1000000 in
theorem dnew_any (w : World) : Calls Try.prog 13 #[] w fun e w' => e = .returned (.pointer (some ⟨w.heap.size, 0, none⟩)) ∧ At w' w.heap.size Dk.new ∧ Kept (fun _ => False) w w' := by
  go_enter Try.func13, Try.ntmps13
  go_wp2_with fail
  go_ret
  exact ⟨rfl, ⟨none, 0, none, 0, heap_alloc_new _ _, lies_nil _ _, lies_nil _ _, ⟨by decide, by decide, by decide⟩⟩, (Kept.refl _ w).alloc _⟩

theorem at_set {w : World} {B : Nat} {cs : Array Value} (i : Nat) (u : Value) (hb : w.heap[B]? = some (.cells cs 66 (0, 0))) : (w.setCell ⟨B, i, none⟩ u).heap[B]? = some (.cells (cs.setIfInBounds i u) 66 (0, 0)) ∧ Kept (fun k => k = B) w (w.setCell ⟨B, i, none⟩ u) :=
  ⟨heap_setCell_same _ _ _ _ _ _ hb, (Kept.refl _ w).setCell _ _ (fun _ => rfl)⟩

def Dk.arm (d : Dk) (x : Int) : Dk := { d with armed := true, n := max x 0 }

theorem max_pos (x : Int) (h : 0 ≤ x) : max x 0 = x := by omega
theorem max_neg (x : Int) (h : x < 0) : max x 0 = 0 := by omega

set_option maxHeartbeats 1000000 in
theorem arm_any (w : World) (B : Nat) (d : Dk) (x : Int) (h : At w B d) (hx : x ≤ 9223372036854775807) : Calls Try.prog 14 #[.pointer (some ⟨B, 0, none⟩), .int .i64 x] w fun e w' => e = .returned (.tuple #[]) ∧ At w' B (d.arm x) ∧ Kept (fun k => k = B) w w' := by
  obtain ⟨p0, c0, p1, c1, hb, l0, l1, ok⟩ := h
  have h2 : w.cell? ⟨B, 2, none⟩ = some (.bool d.armed) := by simp [World.cell?, hb]
  have h3 : w.cell? ⟨B, 3, none⟩ = some (.int .i64 d.n) := by simp [World.cell?, hb]
  have f2 : w.frozen? ⟨B, 2, none⟩ = false := by simp [World.frozen?, hb]
  have f3 : w.frozen? ⟨B, 3, none⟩ = false := by simp [World.frozen?, hb]
  have HX := Lib.hid hx
  have HB := Lib.hid hb
  have L0 := Lib.hid l0
  have L1 := Lib.hid l1
  have OK := Lib.hid ok
  clear hb l0 l1 ok hx
  unfold Dk.arm
  have hk : ∀ y, Kept (fun k => k = B) w ((w.setCell ⟨B, 2, none⟩ (.bool true)).setCell ⟨B, 3, none⟩ (.int .i64 y)) := fun y => ((Kept.refl (fun k => k = B) w).setCell ⟨B, 2, none⟩ (.bool true) (fun _ => rfl)).setCell ⟨B, 3, none⟩ (.int .i64 y) (fun _ => rfl)
  have hat : ∀ y, 0 ≤ y → y ≤ 9223372036854775807 → At ((w.setCell ⟨B, 2, none⟩ (.bool true)).setCell ⟨B, 3, none⟩ (.int .i64 y)) B { d with armed := true, n := y } := by
    intro y hy hy'
    refine ⟨p0, c0, p1, c1, ?_, L0.out.kept (hk y) (fun _ h => h), L1.out.kept (hk y) (fun _ h => h), ⟨OK.out.a0, OK.out.a1, ⟨hy, hy'⟩⟩⟩
    exact heap_setCell_same _ _ _ _ _ _ (heap_setCell_same _ _ _ _ _ _ HB.out)
  have HK := Lib.hid hk
  have HA := Lib.hid hat
  clear hk hat
  by_cases hp : 0 ≤ x
  · rw [max_pos x hp]
    have e1 : max x 0 = x := max_pos x hp
    have HP := Lib.hid hp
    go_enter Try.func14, Try.ntmps14
    go_wp2_with fail
    go_end0
    exact ⟨rfl, HA.out x HP.out HX.out, HK.out x⟩
  · rw [max_neg x (by omega)]
    have e1 : max x 0 = 0 := max_neg x (by omega)
    go_enter Try.func14, Try.ntmps14
    go_wp2_with fail
    go_end0
    exact ⟨rfl, HA.out 0 (by decide) (by decide), HK.out 0⟩

def hasB (x : Int) : Bool := decide (x = 0 ∨ x = 1)

set_option maxHeartbeats 1000000 in
theorem has_any (w : World) (p : Value) (x : Int) : Calls Try.prog 33 #[p, .int .i64 x] w fun e w' => e = .returned (.bool (hasB x)) ∧ w = w' := by
  by_cases h0 : 0 ≤ x
  · by_cases h1 : x < 2
    · have e : hasB x = true := by unfold hasB; rw [decide_eq_true_eq]; omega
      rw [e]
      clear e
      go_enter Try.func33, Try.ntmps33
      go_wp2
      go_ret
      exact ⟨rfl, rfl⟩
    · have e : hasB x = false := by unfold hasB; rw [decide_eq_false_iff_not]; omega
      rw [e]
      clear e
      go_enter Try.func33, Try.ntmps33
      go_wp2
      go_ret
      exact ⟨rfl, rfl⟩
  · have e : hasB x = false := by unfold hasB; rw [decide_eq_false_iff_not]; omega
    rw [e]
    clear e
    go_enter Try.func33, Try.ntmps33
    go_wp2
    go_ret
    exact ⟨rfl, rfl⟩

def Dk.area (d : Dk) (x : Int) : List Int := if x = 0 then d.a0 else if x = 1 then d.a1 else []

/-- the bytes l as a call answers them -/
structure Told (H : Nat) (w : World) (ao : Option Addr) (c : Nat) (l : List Int) : Prop where
  bytes : Bytes w ao l
  none : ao = none → l = [] ∧ c = 0
  fits : l.length ≤ c
  since : ∀ ad, ao = some ad → H ≤ ad.block

theorem told_row {w : World} {H g : Nat} {l : List Int} {T : TypeId} (h : w.heap[g]? = some (.cells (vals l).toArray T (0, 0))) (hg : H ≤ g) : Told H w (some ⟨g, 0, none⟩) l.length l :=
  ⟨bytes_row h, fun h => (by cases h), Nat.le_refl _, fun ad h => by injection h with h; subst h; exact hg⟩

theorem told_nil (H : Nat) (w : World) : Told H w none 0 [] := ⟨fun i hi => absurd hi (Nat.not_lt_zero _), fun _ => ⟨rfl, rfl⟩, Nat.le_refl _, fun _ h => by cases h⟩

set_option maxHeartbeats 1000000 in
theorem read_any (w : World) (B : Nat) (d : Dk) (x : Int) (h : At w B d) : Calls Try.prog 19 #[.pointer (some ⟨B, 0, none⟩), .int .i64 x] w fun e w' => ∃ ao c, e = .returned (.slice ao (d.area x).length c) ∧ Told w.heap.size w' ao c (d.area x) ∧ Below w.heap.size w w' := by
  obtain ⟨p0, c0, p1, c1, hb, l0, l1, ok⟩ := h
  have h0 : w.cell? ⟨B, 0, none⟩ = some (.slice p0 d.a0.length c0) := by simp [World.cell?, hb]
  have h1 : w.cell? ⟨B, 1, none⟩ = some (.slice p1 d.a1.length c1) := by simp [World.cell?, hb]
  have C0 := Lib.hid (copy_any w p0 c0 d.a0 l0.bytes (by have := ok.a0; omega))
  have C1 := Lib.hid (copy_any w p1 c1 d.a1 l1.bytes (by have := ok.a1; omega))
  clear hb l0 l1 ok
  by_cases hx : x = 0
  · subst hx
    have e : d.area 0 = d.a0 := rfl
    rw [e]
    clear e
    go_enter Try.func19, Try.ntmps19
    go_wp2_with fail
    refine (has_any w _ 0).mono ?_
    rintro e w' ⟨rfl, rfl⟩
    have e : hasB 0 = true := by decide
    rw [e]
    clear e
    go_wp2_with fail
    refine C0.out.mono ?_
    rintro e w' ⟨rfl, hr, hk⟩
    have HR := Lib.hid hr
    have HK := Lib.hid hk
    clear hr hk
    go_wp2_with fail
    go_ret
    exact ⟨_, _, rfl, told_row HR.out (Nat.le_refl _), HK.out⟩
  · by_cases hx1 : x = 1
    · subst hx1
      have e : d.area 1 = d.a1 := rfl
      rw [e]
      clear e
      go_enter Try.func19, Try.ntmps19
      go_wp2_with fail
      refine (has_any w _ 1).mono ?_
      rintro e w' ⟨rfl, rfl⟩
      have e : hasB 1 = true := by decide
      rw [e]
      clear e
      go_wp2_with fail
      refine C1.out.mono ?_
      rintro e w' ⟨rfl, hr, hk⟩
      have HR := Lib.hid hr
      have HK := Lib.hid hk
      clear hr hk
      go_wp2_with fail
      go_ret
      exact ⟨_, _, rfl, told_row HR.out (Nat.le_refl _), HK.out⟩
    · have e : d.area x = [] := by unfold Dk.area; rw [if_neg hx, if_neg hx1]
      rw [e]
      have e2 : hasB x = false := by unfold hasB; rw [decide_eq_false_iff_not]; omega
      clear e hx hx1
      go_enter Try.func19, Try.ntmps19
      go_wp2_with fail
      refine (has_any w _ x).mono ?_
      rintro e w' ⟨rfl, rfl⟩
      rw [e2]
      clear e2
      go_wp2_with fail
      go_ret
      exact ⟨none, 0, rfl, told_nil _ _, Below.refl _ _⟩
end Go.Proofs.Ytibbomeeoobgkaa
