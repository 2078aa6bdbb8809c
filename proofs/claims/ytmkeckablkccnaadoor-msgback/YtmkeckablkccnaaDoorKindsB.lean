/- Messages of each kind: that they are, and with a word too much or from whom they cannot be, that they are not. -/
import Derived.Test.YtmkeckablkccnaaDoorEncV
import Derived.Test.YtmkeckablkccnaaDoorKnown
namespace Go.Proofs.YtmkeckablkccnaaDoor
open Go.RowKit
set_option maxRecDepth 100000

theorem put_gen (a b c d : Int) (w : World) : Calls Tryd.prog 28 #[.int .u8 a, .int .u32 b, .int .u8 c, .int .u16 d] w fun e w' => e = .returned (.agg (Rq.mk a b 1 c d).cells.toArray) ∧ Below w.heap.size w w' := by
  simp only [Rq.cells]
  go_enter Tryd.func28, Tryd.ntmps28
  go_wp2_with fail
  (try simp only [Exit.inBlock, Exit.then])
  refine bodyPost_ret (results_cell_row (P := Tryd.prog) rfl _ _ w.heap.size 27 _ (0, 0) _ rfl (heap_alloc_new _ _) Tryd.underlying27 rfl size27) rfl ?_
  exact ⟨rfl, (Below.refl _ _).alloc (Nat.le_refl _) _⟩

def hm (k f t e : Int) : Mg := { k := k, f := f, t := t, e := e, vw := 0, sq := 0, rq := Rq.zero, ro := 0, ct := 0, pg := 0, rs := 0, vt := Vt.zero, vs := ⟨none, 0, 0⟩, sm := ⟨none, 0, 0⟩, dt := ⟨none, 0, 0⟩ }

/-- a message's block is laid -/
theorem msg_new (V : World) (m : Mg) {U : World} (hU : U = (V.alloc (.cells Vz.toArray 37)).setCells V.heap.size 0 m.cells) :
    U.heap[V.heap.size]? = some (.cells m.cells.toArray 37 (0, 0)) ∧ Below V.heap.size V U ∧ (V.alloc (.cells Vz.toArray 37)).there V.heap.size 0 25 := by
  have hVn : (V.alloc (.cells Vz.toArray 37)).heap[V.heap.size]? = some (.cells Vz.toArray 37 (0, 0)) := heap_alloc_new _ _
  have hkk := fun k (h : k ≠ V.heap.size) => setCells_kept V.heap.size m.cells 0 (V.alloc (.cells Vz.toArray 37)) k h
  refine ⟨?_, ?_, ?_⟩
  · rw [hU, setCells_block _ 37 _ _ _ _ hVn, over_zero]
  · refine ⟨?_, ?_, ?_, ?_, fun k hk => ?_⟩
    · rw [hU, (hkk (V.heap.size + 1) (by omega)).2.2.1]; rfl
    · rw [hU, (hkk (V.heap.size + 1) (by omega)).2.2.2.1]; rfl
    · rw [hU, (hkk (V.heap.size + 1) (by omega)).2.2.2.2]; rfl
    · rw [hU, (hkk (V.heap.size + 1) (by omega)).2.1]; simp
    · rw [hU, (hkk k (by omega)).1]; exact heap_alloc_old _ _ hk
  · intro i hi
    refine ⟨?_, frozen_of_row _ _ _ _ _ hVn⟩
    rw [cell_of_row _ _ _ _ _ _ hVn]; simp [Vz]; omega

def qr : Rq := ⟨2, 3, 1, 4, 5⟩
/-- a message of each kind, with what it must have -/
def kg (k f t e s : Int) (sm : Sl) : Mg :=
  if k = 1 then { hm 1 12 t 0 with rq := qr } else if k = 14 then { hm 14 f 12 e with rq := qr } else if k = 2 then { hm 2 f t e with sq := s, rq := qr } else if k = 3 then { hm 3 f t e with sq := s, rq := qr } else if k = 4 then { hm 4 f t e with sq := s, rq := qr }
  else if k = 6 then { hm 6 f t e with vt := ⟨f, e, 1, 0, ⟨none, 0, 0⟩, ⟨none, 0, 0⟩, ⟨none, 0, 0⟩⟩ } else if k = 7 then { hm 7 f t e with vw := 3 } else if k = 8 then { hm 8 f t e with ct := e } else if k = 9 then { hm 9 f t e with ct := e } else if k = 12 then { hm 12 f t e with sq := s, sm := sm } else { hm k f t e with sq := s }
def kc (k : Int) : Mc := if k = 12 then { Mc.nil with sm := List.replicate 8 0 } else Mc.nil
theorem box_set {w : World} {M : Nat} {A : Array Value} (h : w.heap[M]? = some (.cells A 37 (0, 0))) (i : Nat) (v : Value) : (w.setCell ⟨M, i, none⟩ v).heap[M]? = some (.cells (A.setIfInBounds i v) 37 (0, 0)) := heap_setCell_same _ _ _ _ _ _ h
theorem box_drew {w : World} {M : Nat} {x : Option Obj} (h : w.heap[M]? = x) : w.drew.heap[M]? = x := h
theorem mk8 (w : World) : (Instr.makeSlice 34 (.int .i64 8) (.int .i64 8)).run Tryd.prog w = .ok (.slice (some ⟨w.heap.size, 0, none⟩) 8 8) (w.alloc (.cells #[.int .u64 0, .int .u64 0, .int .u64 0, .int .u64 0, .int .u64 0, .int .u64 0, .int .u64 0, .int .u64 0] 28)) := by kernel_rfl
theorem mk1 (w : World) : (Instr.makeSlice 33 (.int .i64 1) (.int .i64 1)).run Tryd.prog w = .ok (.slice (some ⟨w.heap.size, 0, none⟩) 1 1) (w.alloc (.cells #[.int .u8 0, .int .u8 0, .int .u32 0, .int .u32 0, .slice none 0 0, .slice none 0 0, .slice none 0 0] 32)) := by kernel_rfl
theorem nil_at (w : World) (m : Mg) (hv : m.vt.ms = ⟨none, 0, 0⟩ ∧ m.vt.p = ⟨none, 0, 0⟩ ∧ m.vt.q = ⟨none, 0, 0⟩) (h1 : m.vs = ⟨none, 0, 0⟩) (h2 : m.sm = ⟨none, 0, 0⟩) (h3 : m.dt = ⟨none, 0, 0⟩) : MgAt w m Mc.nil := by
  refine ⟨⟨?_, ?_, ?_⟩, ⟨?_, fun x hx => by cases hx⟩, ?_, ?_⟩
  · rw [hv.1]; exact Row.nil _ _ _
  · rw [hv.2.1]; exact Row.nil _ _ _
  · rw [hv.2.2]; exact Row.nil _ _ _
  · rw [h1]; exact Row.nil _ _ _
  · rw [h2]; exact Row.nil _ _ _
  · rw [h3]; exact ⟨rfl, (fun i hi => by simp [Mc.nil] at hi), fun _ => rfl, Nat.le_refl _, by simp [Mc.nil], fun x hx => by simp [Mc.nil] at hx⟩
theorem kg_at (w : World) (k f t e s : Int) (sm : Sl) (_h : sm = ⟨none, 0, 0⟩) (h12 : k ≠ 12) : MgAt w (kg k f t e s sm) (kc k) := by
  have e1 : kc k = Mc.nil := by simp [kc, h12]
  rw [e1]
  unfold kg
  rw [if_neg h12]
  repeat' split
  all_goals exact nil_at w _ ⟨rfl, rfl, rfl⟩ rfl rfl rfl
theorem kgset1 (f t e s : Int) (sm : Sl) : ((((((((hm 1 f t e).cells.toArray).setIfInBounds 1 (.int .u8 12)).setIfInBounds 3 (.int .u8 0)).setIfInBounds 6 (.int .u8 2)).setIfInBounds 7 (.int .u32 3)).setIfInBounds 8 (.int .u8 1)).setIfInBounds 9 (.int .u8 4)).setIfInBounds 10 (.int .u16 5) = (kg 1 f t e s sm).cells.toArray := by simp [hm, kg, Mg.cells, qr, Rq.zero, Vt.zero]
theorem kgset2 (f t e s : Int) (sm : Sl) : (((((((hm 2 f t e).cells.toArray).setIfInBounds 5 (.int .u32 s)).setIfInBounds 6 (.int .u8 2)).setIfInBounds 7 (.int .u32 3)).setIfInBounds 8 (.int .u8 1)).setIfInBounds 9 (.int .u8 4)).setIfInBounds 10 (.int .u16 5) = (kg 2 f t e s sm).cells.toArray := by simp [hm, kg, Mg.cells, qr, Rq.zero, Vt.zero]
theorem kgset3 (f t e s : Int) (sm : Sl) : (((((((hm 3 f t e).cells.toArray).setIfInBounds 5 (.int .u32 s)).setIfInBounds 6 (.int .u8 2)).setIfInBounds 7 (.int .u32 3)).setIfInBounds 8 (.int .u8 1)).setIfInBounds 9 (.int .u8 4)).setIfInBounds 10 (.int .u16 5) = (kg 3 f t e s sm).cells.toArray := by simp [hm, kg, Mg.cells, qr, Rq.zero, Vt.zero]
theorem kgset4 (f t e s : Int) (sm : Sl) : (((((((hm 4 f t e).cells.toArray).setIfInBounds 5 (.int .u32 s)).setIfInBounds 6 (.int .u8 2)).setIfInBounds 7 (.int .u32 3)).setIfInBounds 8 (.int .u8 1)).setIfInBounds 9 (.int .u8 4)).setIfInBounds 10 (.int .u16 5) = (kg 4 f t e s sm).cells.toArray := by simp [hm, kg, Mg.cells, qr, Rq.zero, Vt.zero]
theorem kgset5 (f t e s : Int) (sm : Sl) : ((hm 5 f t e).cells.toArray).setIfInBounds 5 (.int .u32 s) = (kg 5 f t e s sm).cells.toArray := by simp [hm, kg, Mg.cells, Rq.zero, Vt.zero]
theorem kgset6 (f t e s : Int) (sm : Sl) : ((((((((hm 6 f t e).cells.toArray).setIfInBounds 15 (.int .u8 f)).setIfInBounds 16 (.int .u8 e)).setIfInBounds 17 (.int .u32 1)).setIfInBounds 18 (.int .u32 0)).setIfInBounds 19 (.slice none 0 0)).setIfInBounds 20 (.slice none 0 0)).setIfInBounds 21 (.slice none 0 0) = (kg 6 f t e s sm).cells.toArray := by simp [hm, kg, Mg.cells, Rq.zero, Vt.zero]
theorem kgset7 (f t e s : Int) (sm : Sl) : ((hm 7 f t e).cells.toArray).setIfInBounds 4 (.int .u32 3) = (kg 7 f t e s sm).cells.toArray := by simp [hm, kg, Mg.cells, Rq.zero, Vt.zero]
theorem kgset8 (f t e s : Int) (sm : Sl) : ((hm 8 f t e).cells.toArray).setIfInBounds 12 (.int .u8 e) = (kg 8 f t e s sm).cells.toArray := by simp [hm, kg, Mg.cells, Rq.zero, Vt.zero]
theorem kgset9 (f t e s : Int) (sm : Sl) : ((hm 9 f t e).cells.toArray).setIfInBounds 12 (.int .u8 e) = (kg 9 f t e s sm).cells.toArray := by simp [hm, kg, Mg.cells, Rq.zero, Vt.zero]
theorem kgset10 (f t e s : Int) (sm : Sl) : ((hm 10 f t e).cells.toArray).setIfInBounds 5 (.int .u32 s) = (kg 10 f t e s sm).cells.toArray := by simp [hm, kg, Mg.cells, Rq.zero, Vt.zero]
theorem kgset11 (f t e s : Int) (sm : Sl) : ((hm 11 f t e).cells.toArray).setIfInBounds 5 (.int .u32 s) = (kg 11 f t e s sm).cells.toArray := by simp [hm, kg, Mg.cells, Rq.zero, Vt.zero]
theorem kgset12 (f t e s : Int) (sm : Sl) : (((hm 12 f t e).cells.toArray).setIfInBounds 5 (.int .u32 s)).setIfInBounds 23 (.slice sm.a sm.n sm.c) = (kg 12 f t e s sm).cells.toArray := by simp [hm, kg, Mg.cells, Rq.zero, Vt.zero]
theorem kgset13 (f t e s : Int) (sm : Sl) : ((hm 13 f t e).cells.toArray).setIfInBounds 5 (.int .u32 s) = (kg 13 f t e s sm).cells.toArray := by simp [hm, kg, Mg.cells, Rq.zero, Vt.zero]
theorem kgset14 (f t e s : Int) (sm : Sl) : (((((((hm 14 f t e).cells.toArray).setIfInBounds 2 (.int .u8 12)).setIfInBounds 6 (.int .u8 2)).setIfInBounds 7 (.int .u32 3)).setIfInBounds 8 (.int .u8 1)).setIfInBounds 9 (.int .u8 4)).setIfInBounds 10 (.int .u16 5) = (kg 14 f t e s sm).cells.toArray := by simp [hm, kg, Mg.cells, qr, Rq.zero, Vt.zero]


theorem row8 (X : World) : Row (X.alloc (.cells #[.int .u64 0, .int .u64 0, .int .u64 0, .int .u64 0, .int .u64 0, .int .u64 0, .int .u64 0, .int .u64 0] 28)).drew 1 (fun x => [Value.int .u64 x]) (.slice (some ⟨X.heap.size, 0, none⟩) 8 8) (List.replicate 8 (0 : Int)) := by
  refine ⟨some ⟨X.heap.size, 0, none⟩, 8, rfl, (fun h => by cases h), by simp, by simp, fun j x hj => ⟨X.heap.size, 0, rfl, fun i u hu => ?_⟩⟩
  have hj8 : j < 8 := by have := (List.getElem?_eq_some_iff.1 hj).1; simpa using this
  have hx : x = 0 := by have := List.mem_of_getElem? hj; simp at this; exact this
  subst hx
  obtain rfl : i = 0 := by
    have := (List.getElem?_eq_some_iff.1 hu).1; simp at this; exact this
  simp at hu
  subst hu
  show (X.alloc _).cell? _ = _
  rw [cell_of_row _ _ _ _ _ _ (heap_alloc_new _ _)]
  have : j = 0 ∨ j = 1 ∨ j = 2 ∨ j = 3 ∨ j = 4 ∨ j = 5 ∨ j = 6 ∨ j = 7 := by omega
  rcases this with rfl | rfl | rfl | rfl | rfl | rfl | rfl | rfl <;> rfl
theorem kg12_at (X : World) (f t e s : Int) : MgAt (X.alloc (.cells #[.int .u64 0, .int .u64 0, .int .u64 0, .int .u64 0, .int .u64 0, .int .u64 0, .int .u64 0, .int .u64 0] 28)).drew (kg 12 f t e s ⟨some ⟨X.heap.size, 0, none⟩, 8, 8⟩) (kc 12) :=
  ⟨⟨Row.nil _ _ _, Row.nil _ _ _, Row.nil _ _ _⟩, ⟨Row.nil _ _ _, fun x hx => by cases hx⟩, row8 X, ⟨rfl, (fun i hi => by simp [kc, Mc.nil] at hi), fun _ => rfl, Nat.le_refl _, by simp [kc, Mc.nil], fun x hx => by simp [kc, Mc.nil] at hx⟩⟩


def vc0 : Vc := ⟨[], [], []⟩
/-- a word too much, or from or to whom it can't be -/
def spM (m : Mg) (vs : Sl) (j : Int) : Mg := if j = 0 then { m with e := 201 } else if j = 1 then { m with t := 9 } else if j = 2 then { m with f := 20 } else if j = 3 then { m with k := 15 } else if j = 4 then { m with vs := vs } else { m with sq := 1073741825 }
def spC (c : Mc) (j : Int) : Mc := if j = 4 then { c with vs := [(Vt.zero, vc0)] } else c

theorem no_head {m : Mg} {c : Mc} (h : headB m = false) : isM m c = false := by simp [isM, isB, h]
theorem no_fit {m : Mg} {c : Mc} {p : Int} (hp : p ∈ partsOf m.k) (h : fitB m (voteB m.vt c.vt) (fitVsB c.vs m.vw) p = false) : isM m c = false := by
  cases hi : isM m c with
  | false => rfl
  | true => have := isM_fit hi hp; rw [h] at this; cases this
theorem no_same {m : Mg} {c : Mc} (h : sameM m c (m.bare (partsOf m.k)) (c.bare (partsOf m.k)) = false) : isM m c = false := by simp [isM, isB, h]
theorem no_parts {m : Mg} {c : Mc} (h : partsOf m.k = []) : isM m c = false := by simp [isM, isB, h]
theorem yes_all {m : Mg} {c : Mc} {ps : List Int} (hp : partsOf m.k = ps) (h0 : ps ≠ []) (h1 : headB m = true) (h2 : sameM m c (m.bare ps) (c.bare ps) = true) (h3 : ∀ p ∈ ps, fitB m (voteB m.vt c.vt) (fitVsB c.vs m.vw) p = true) : isM m c = true := by
  simp only [isM, isB, hp, h1, h2, List.all_eq_true, Bool.true_and, decide_eq_false h0, Bool.not_false]
  exact h3

theorem kgis1 (f t e s : Int) (sm : Sl) (_f0 : 0 ≤ f) (_f1 : f < 4) (_t0 : 0 ≤ t) (t1 : t < 4) (_e0 : 1 ≤ e) (_e1 : e ≤ 200) (_s0 : 1 ≤ s) (_s1 : s ≤ 1000) : isM (kg 1 f t e s sm) (kc 1) = true := by
  refine yes_all (ps := [2]) rfl (by simp) ?_ ?_ ?_
  · simp [headB, isRp, hm, kg, qr, Rq.zero, Vt.zero]; try omega
  · simp [sameM, sameV, sameVs, Mg.bare, Mc.bare, Mg.step, Mc.step, Mg.head, hm, kg, kc, Mc.nil, qr, Rq.zero, Vt.zero]
  · intro p hp
    simp at hp
    rcases hp with rfl
    all_goals (simp [fitB, reqB, realB, Rq.is, Rq.isOp, hm, kg, qr, Rq.zero, Vt.zero]; try omega)

theorem kgis2 (f t e s : Int) (sm : Sl) (f0 : 0 ≤ f) (f1 : f < 4) (t0 : 0 ≤ t) (t1 : t < 4) (e0 : 1 ≤ e) (e1 : e ≤ 200) (s0 : 1 ≤ s) (s1 : s ≤ 1000) : isM (kg 2 f t e s sm) (kc 2) = true := by
  refine yes_all (ps := [0, 1, 2]) rfl (by simp) ?_ ?_ ?_
  · simp [headB, isRp, isEp, hm, kg, qr, Rq.zero, Vt.zero]; try omega
  · simp [sameM, sameV, sameVs, Mg.bare, Mc.bare, Mg.step, Mc.step, Mg.head, hm, kg, kc, Mc.nil, qr, Rq.zero, Vt.zero]
  · intro p hp
    simp at hp
    rcases hp with rfl | rfl | rfl
    all_goals (simp [fitB, isVw, isNv, isSq, isPh, isPl, reqB, Rq.is, Rq.isOp, hm, kg, qr, Rq.zero, Vt.zero]; try omega)

theorem kgis3 (f t e s : Int) (sm : Sl) (f0 : 0 ≤ f) (f1 : f < 4) (t0 : 0 ≤ t) (t1 : t < 4) (e0 : 1 ≤ e) (e1 : e ≤ 200) (s0 : 1 ≤ s) (s1 : s ≤ 1000) : isM (kg 3 f t e s sm) (kc 3) = true := by
  refine yes_all (ps := [0, 1, 2]) rfl (by simp) ?_ ?_ ?_
  · simp [headB, isRp, isEp, hm, kg, qr, Rq.zero, Vt.zero]; try omega
  · simp [sameM, sameV, sameVs, Mg.bare, Mc.bare, Mg.step, Mc.step, Mg.head, hm, kg, kc, Mc.nil, qr, Rq.zero, Vt.zero]
  · intro p hp
    simp at hp
    rcases hp with rfl | rfl | rfl
    all_goals (simp [fitB, isVw, isNv, isSq, isPh, isPl, reqB, Rq.is, Rq.isOp, hm, kg, qr, Rq.zero, Vt.zero]; try omega)

theorem kgis4 (f t e s : Int) (sm : Sl) (f0 : 0 ≤ f) (f1 : f < 4) (t0 : 0 ≤ t) (t1 : t < 4) (e0 : 1 ≤ e) (e1 : e ≤ 200) (s0 : 1 ≤ s) (s1 : s ≤ 1000) : isM (kg 4 f t e s sm) (kc 4) = true := by
  refine yes_all (ps := [0, 1, 2]) rfl (by simp) ?_ ?_ ?_
  · simp [headB, isRp, isEp, hm, kg, qr, Rq.zero, Vt.zero]; try omega
  · simp [sameM, sameV, sameVs, Mg.bare, Mc.bare, Mg.step, Mc.step, Mg.head, hm, kg, kc, Mc.nil, qr, Rq.zero, Vt.zero]
  · intro p hp
    simp at hp
    rcases hp with rfl | rfl | rfl
    all_goals (simp [fitB, isVw, isNv, isSq, isPh, isPl, reqB, Rq.is, Rq.isOp, hm, kg, qr, Rq.zero, Vt.zero]; try omega)

theorem kgis5 (f t e s : Int) (sm : Sl) (f0 : 0 ≤ f) (f1 : f < 4) (t0 : 0 ≤ t) (t1 : t < 4) (e0 : 1 ≤ e) (e1 : e ≤ 200) (s0 : 1 ≤ s) (s1 : s ≤ 1000) : isM (kg 5 f t e s sm) (kc 5) = true := by
  refine yes_all (ps := [1, 3]) rfl (by simp) ?_ ?_ ?_
  · simp [headB, isRp, isEp, hm, kg, Rq.zero, Vt.zero]; try omega
  · simp [sameM, sameV, sameVs, Mg.bare, Mc.bare, Mg.step, Mc.step, Mg.head, hm, kg, kc, Mc.nil, Rq.zero, Vt.zero]
  · intro p hp
    simp at hp
    rcases hp with rfl | rfl
    all_goals (simp [fitB, isSq, isPh, isPl, hm, kg, Rq.zero, Vt.zero]; try omega)

theorem kgis6 (f t e s : Int) (sm : Sl) (f0 : 0 ≤ f) (f1 : f < 4) (t0 : 0 ≤ t) (t1 : t < 4) (e0 : 1 ≤ e) (e1 : e ≤ 200) (_s0 : 1 ≤ s) (_s1 : s ≤ 1000) : isM (kg 6 f t e s sm) (kc 6) = true := by
  refine yes_all (ps := [7]) rfl (by simp) ?_ ?_ ?_
  · simp [headB, isRp, isEp, hm, kg, Rq.zero, Vt.zero]; try omega
  · simp [sameM, sameV, sameVs, Mg.bare, Mc.bare, Mg.step, Mc.step, Mg.head, hm, kg, kc, Mc.nil, Rq.zero, Vt.zero]
  · intro p hp
    simp at hp
    rcases hp with rfl
    all_goals (simp [fitB, isNv, isSq, voteB, upB, isRp, isEp, hm, kg, kc, Mc.nil, Rq.zero, Vt.zero]; try omega)

theorem kgis7 (f t e s : Int) (sm : Sl) (f0 : 0 ≤ f) (f1 : f < 4) (t0 : 0 ≤ t) (t1 : t < 4) (e0 : 1 ≤ e) (e1 : e ≤ 200) (_s0 : 1 ≤ s) (_s1 : s ≤ 1000) : isM (kg 7 f t e s sm) (kc 7) = true := by
  refine yes_all (ps := [0, 8]) rfl (by simp) ?_ ?_ ?_
  · simp [headB, isRp, isEp, hm, kg, Rq.zero, Vt.zero]; try omega
  · simp [sameM, sameV, sameVs, Mg.bare, Mc.bare, Mg.step, Mc.step, Mg.head, hm, kg, kc, Mc.nil, Rq.zero, Vt.zero]
  · intro p hp
    simp at hp
    rcases hp with rfl | rfl
    all_goals (simp [fitB, isVw, isNv, fitVsB, hm, kg, kc, Mc.nil, Rq.zero, Vt.zero]; try omega)

theorem kgis8 (f t e s : Int) (sm : Sl) (f0 : 0 ≤ f) (f1 : f < 4) (t0 : 0 ≤ t) (t1 : t < 4) (e0 : 1 ≤ e) (e1 : e ≤ 200) (_s0 : 1 ≤ s) (_s1 : s ≤ 1000) : isM (kg 8 f t e s sm) (kc 8) = true := by
  refine yes_all (ps := [4]) rfl (by simp) ?_ ?_ ?_
  · simp [headB, isRp, isEp, hm, kg, Rq.zero, Vt.zero]; try omega
  · simp [sameM, sameV, sameVs, Mg.bare, Mc.bare, Mg.step, Mc.step, Mg.head, hm, kg, kc, Mc.nil, Rq.zero, Vt.zero]
  · intro p hp
    simp at hp
    rcases hp with rfl
    all_goals (simp [fitB, hm, kg, Rq.zero, Vt.zero]; try omega)

theorem kgis9 (f t e s : Int) (sm : Sl) (f0 : 0 ≤ f) (f1 : f < 4) (t0 : 0 ≤ t) (t1 : t < 4) (e0 : 1 ≤ e) (e1 : e ≤ 200) (_s0 : 1 ≤ s) (_s1 : s ≤ 1000) : isM (kg 9 f t e s sm) (kc 9) = true := by
  refine yes_all (ps := [4]) rfl (by simp) ?_ ?_ ?_
  · simp [headB, isRp, isEp, hm, kg, Rq.zero, Vt.zero]; try omega
  · simp [sameM, sameV, sameVs, Mg.bare, Mc.bare, Mg.step, Mc.step, Mg.head, hm, kg, kc, Mc.nil, Rq.zero, Vt.zero]
  · intro p hp
    simp at hp
    rcases hp with rfl
    all_goals (simp [fitB, hm, kg, Rq.zero, Vt.zero]; try omega)

theorem kgis10 (f t e s : Int) (sm : Sl) (f0 : 0 ≤ f) (f1 : f < 4) (t0 : 0 ≤ t) (t1 : t < 4) (e0 : 1 ≤ e) (e1 : e ≤ 200) (s0 : 1 ≤ s) (s1 : s ≤ 1000) : isM (kg 10 f t e s sm) (kc 10) = true := by
  refine yes_all (ps := [4, 1]) rfl (by simp) ?_ ?_ ?_
  · simp [headB, isRp, isEp, hm, kg, Rq.zero, Vt.zero]; try omega
  · simp [sameM, sameV, sameVs, Mg.bare, Mc.bare, Mg.step, Mc.step, Mg.head, hm, kg, kc, Mc.nil, Rq.zero, Vt.zero]
  · intro p hp
    simp at hp
    rcases hp with rfl | rfl
    all_goals (simp [fitB, isSq, isPh, isPl, hm, kg, Rq.zero, Vt.zero]; try omega)

theorem kgis11 (f t e s : Int) (sm : Sl) (f0 : 0 ≤ f) (f1 : f < 4) (t0 : 0 ≤ t) (t1 : t < 4) (e0 : 1 ≤ e) (e1 : e ≤ 200) (s0 : 1 ≤ s) (s1 : s ≤ 1000) : isM (kg 11 f t e s sm) (kc 11) = true := by
  refine yes_all (ps := [1, 5]) rfl (by simp) ?_ ?_ ?_
  · simp [headB, isRp, isEp, hm, kg, Rq.zero, Vt.zero]; try omega
  · simp [sameM, sameV, sameVs, Mg.bare, Mc.bare, Mg.step, Mc.step, Mg.head, hm, kg, kc, Mc.nil, Rq.zero, Vt.zero]
  · intro p hp
    simp at hp
    rcases hp with rfl | rfl
    all_goals (simp [fitB, isSq, isPh, isPl, hm, kg, Rq.zero, Vt.zero]; try omega)

theorem kgis12 (f t e s : Int) (sm : Sl) (f0 : 0 ≤ f) (f1 : f < 4) (t0 : 0 ≤ t) (t1 : t < 4) (e0 : 1 ≤ e) (e1 : e ≤ 200) (s0 : 1 ≤ s) (s1 : s ≤ 1000) (hs : sm.n = 8) : isM (kg 12 f t e s sm) (kc 12) = true := by
  refine yes_all (ps := [1, 9]) rfl (by simp) ?_ ?_ ?_
  · simp [headB, isRp, isEp, hm, kg, Rq.zero, Vt.zero]; try omega
  · simp [sameM, sameV, sameVs, Mg.bare, Mc.bare, Mg.step, Mc.step, Mg.head, hm, kg, kc, Mc.nil, Rq.zero, Vt.zero]
  · intro p hp
    simp at hp
    rcases hp with rfl | rfl
    all_goals (simp [fitB, isSq, isPh, isPl, hm, kg, Rq.zero, Vt.zero]; try omega)

theorem kgis13 (f t e s : Int) (sm : Sl) (f0 : 0 ≤ f) (f1 : f < 4) (t0 : 0 ≤ t) (t1 : t < 4) (e0 : 1 ≤ e) (e1 : e ≤ 200) (s0 : 1 ≤ s) (s1 : s ≤ 1000) : isM (kg 13 f t e s sm) (kc 13) = true := by
  refine yes_all (ps := [1, 5, 10]) rfl (by simp) ?_ ?_ ?_
  · simp [headB, isRp, isEp, hm, kg, Rq.zero, Vt.zero]; try omega
  · simp [sameM, sameV, sameVs, Mg.bare, Mc.bare, Mg.step, Mc.step, Mg.head, hm, kg, kc, Mc.nil, Rq.zero, Vt.zero]
  · intro p hp
    simp at hp
    rcases hp with rfl | rfl | rfl
    all_goals (simp [fitB, isSq, isPh, isPl, hm, kg, Rq.zero, Vt.zero]; try omega)

theorem kgis14 (f t e s : Int) (sm : Sl) (f0 : 0 ≤ f) (f1 : f < 4) (_t0 : 0 ≤ t) (_t1 : t < 4) (e0 : 1 ≤ e) (e1 : e ≤ 200) (_s0 : 1 ≤ s) (_s1 : s ≤ 1000) : isM (kg 14 f t e s sm) (kc 14) = true := by
  refine yes_all (ps := [0, 2, 6]) rfl (by simp) ?_ ?_ ?_
  · simp [headB, isRp, isEp, hm, kg, qr, Rq.zero, Vt.zero]; try omega
  · simp [sameM, sameV, sameVs, Mg.bare, Mc.bare, Mg.step, Mc.step, Mg.head, hm, kg, kc, Mc.nil, qr, Rq.zero, Vt.zero]
  · intro p hp
    simp at hp
    rcases hp with rfl | rfl | rfl
    all_goals (simp [fitB, isVw, isNv, reqB, realB, Rq.is, Rq.isOp, hm, kg, qr, Rq.zero, Vt.zero]; try omega)
theorem kgsp1_0 (f t e s : Int) (sm vs : Sl) : isM (spM (kg 1 f t e s sm) vs 0) (spC (kc 1) 0) = false := no_head (by simp [spM, headB, isRp, hm, kg, qr, Rq.zero, Vt.zero])
theorem kgsp1_1 (f t e s : Int) (sm vs : Sl) : isM (spM (kg 1 f t e s sm) vs 1) (spC (kc 1) 1) = false := no_head (by simp [spM, headB, isRp, hm, kg, qr, Rq.zero, Vt.zero])
theorem kgsp1_2 (f t e s : Int) (sm vs : Sl) : isM (spM (kg 1 f t e s sm) vs 2) (spC (kc 1) 2) = false := no_fit (p := 2) (by simp [spM, partsOf, hm, kg, qr, Rq.zero, Vt.zero]) (by simp [spM, fitB, reqB, realB, Rq.is, Rq.isOp, hm, kg, qr, Rq.zero, Vt.zero])
theorem kgsp1_3 (f t e s : Int) (sm vs : Sl) : isM (spM (kg 1 f t e s sm) vs 3) (spC (kc 1) 3) = false := no_parts (by simp [spM, partsOf])
theorem kgsp1_4 (f t e s : Int) (sm vs : Sl) : isM (spM (kg 1 f t e s sm) vs 4) (spC (kc 1) 4) = false := no_same (by simp [spM, spC, vc0, partsOf, sameM, sameV, sameVs, Mg.bare, Mc.bare, Mg.step, Mc.step, Mg.head, hm, kg, kc, Mc.nil, qr, Rq.zero, Vt.zero])
theorem kgsp1_5 (f t e s : Int) (sm vs : Sl) : isM (spM (kg 1 f t e s sm) vs 5) (spC (kc 1) 5) = false := no_same (by simp [spM, spC, partsOf, sameM, sameV, sameVs, Mg.bare, Mc.bare, Mg.step, Mc.step, Mg.head, hm, kg, kc, Mc.nil, qr, Rq.zero, Vt.zero])
theorem kglen1 (f t e s : Int) (sm : Sl) : 5 ≤ (encM (kg 1 f t e s sm) (kc 1)).length := by simp [encM, encUp, partsOf, partY, wordB, b4, b2, Rq.bytes, hm, kg, kc, Mc.nil, qr, Rq.zero, Vt.zero]
theorem kgsp2_0 (f t e s : Int) (sm vs : Sl) : isM (spM (kg 2 f t e s sm) vs 0) (spC (kc 2) 0) = false := no_head (by simp [spM, headB, isRp, isEp, hm, kg, qr, Rq.zero, Vt.zero])
theorem kgsp2_1 (f t e s : Int) (sm vs : Sl) : isM (spM (kg 2 f t e s sm) vs 1) (spC (kc 2) 1) = false := no_head (by simp [spM, headB, isRp, isEp, hm, kg, qr, Rq.zero, Vt.zero])
theorem kgsp2_2 (f t e s : Int) (sm vs : Sl) : isM (spM (kg 2 f t e s sm) vs 2) (spC (kc 2) 2) = false := no_head (by simp [spM, headB, isRp, isEp, hm, kg, qr, Rq.zero, Vt.zero])
theorem kgsp2_3 (f t e s : Int) (sm vs : Sl) : isM (spM (kg 2 f t e s sm) vs 3) (spC (kc 2) 3) = false := no_parts (by simp [spM, partsOf])
theorem kgsp2_4 (f t e s : Int) (sm vs : Sl) : isM (spM (kg 2 f t e s sm) vs 4) (spC (kc 2) 4) = false := no_same (by simp [spM, spC, vc0, partsOf, sameM, sameV, sameVs, Mg.bare, Mc.bare, Mg.step, Mc.step, Mg.head, hm, kg, kc, Mc.nil, qr, Rq.zero, Vt.zero])
theorem kgsp2_5 (f t e s : Int) (sm vs : Sl) : isM (spM (kg 2 f t e s sm) vs 5) (spC (kc 2) 5) = false := no_fit (p := 1) (by simp [spM, partsOf, hm, kg, qr, Rq.zero, Vt.zero]) (by simp [spM, fitB, isSq, isPh, isPl, hm, kg, qr, Rq.zero, Vt.zero])
theorem kglen2 (f t e s : Int) (sm : Sl) : 5 ≤ (encM (kg 2 f t e s sm) (kc 2)).length := by simp [encM, encUp, partsOf, partY, wordB, b4, b2, Rq.bytes, hm, kg, kc, Mc.nil, qr, Rq.zero, Vt.zero]
theorem kgsp3_0 (f t e s : Int) (sm vs : Sl) : isM (spM (kg 3 f t e s sm) vs 0) (spC (kc 3) 0) = false := no_head (by simp [spM, headB, isRp, isEp, hm, kg, qr, Rq.zero, Vt.zero])
theorem kgsp3_1 (f t e s : Int) (sm vs : Sl) : isM (spM (kg 3 f t e s sm) vs 1) (spC (kc 3) 1) = false := no_head (by simp [spM, headB, isRp, isEp, hm, kg, qr, Rq.zero, Vt.zero])
theorem kgsp3_2 (f t e s : Int) (sm vs : Sl) : isM (spM (kg 3 f t e s sm) vs 2) (spC (kc 3) 2) = false := no_head (by simp [spM, headB, isRp, isEp, hm, kg, qr, Rq.zero, Vt.zero])
theorem kgsp3_3 (f t e s : Int) (sm vs : Sl) : isM (spM (kg 3 f t e s sm) vs 3) (spC (kc 3) 3) = false := no_parts (by simp [spM, partsOf])
theorem kgsp3_4 (f t e s : Int) (sm vs : Sl) : isM (spM (kg 3 f t e s sm) vs 4) (spC (kc 3) 4) = false := no_same (by simp [spM, spC, vc0, partsOf, sameM, sameV, sameVs, Mg.bare, Mc.bare, Mg.step, Mc.step, Mg.head, hm, kg, kc, Mc.nil, qr, Rq.zero, Vt.zero])
theorem kgsp3_5 (f t e s : Int) (sm vs : Sl) : isM (spM (kg 3 f t e s sm) vs 5) (spC (kc 3) 5) = false := no_fit (p := 1) (by simp [spM, partsOf, hm, kg, qr, Rq.zero, Vt.zero]) (by simp [spM, fitB, isSq, isPh, isPl, hm, kg, qr, Rq.zero, Vt.zero])
theorem kglen3 (f t e s : Int) (sm : Sl) : 5 ≤ (encM (kg 3 f t e s sm) (kc 3)).length := by simp [encM, encUp, partsOf, partY, wordB, b4, b2, Rq.bytes, hm, kg, kc, Mc.nil, qr, Rq.zero, Vt.zero]
theorem kgsp4_0 (f t e s : Int) (sm vs : Sl) : isM (spM (kg 4 f t e s sm) vs 0) (spC (kc 4) 0) = false := no_head (by simp [spM, headB, isRp, isEp, hm, kg, qr, Rq.zero, Vt.zero])
theorem kgsp4_1 (f t e s : Int) (sm vs : Sl) : isM (spM (kg 4 f t e s sm) vs 1) (spC (kc 4) 1) = false := no_head (by simp [spM, headB, isRp, isEp, hm, kg, qr, Rq.zero, Vt.zero])
theorem kgsp4_2 (f t e s : Int) (sm vs : Sl) : isM (spM (kg 4 f t e s sm) vs 2) (spC (kc 4) 2) = false := no_head (by simp [spM, headB, isRp, isEp, hm, kg, qr, Rq.zero, Vt.zero])
theorem kgsp4_3 (f t e s : Int) (sm vs : Sl) : isM (spM (kg 4 f t e s sm) vs 3) (spC (kc 4) 3) = false := no_parts (by simp [spM, partsOf])
theorem kgsp4_4 (f t e s : Int) (sm vs : Sl) : isM (spM (kg 4 f t e s sm) vs 4) (spC (kc 4) 4) = false := no_same (by simp [spM, spC, vc0, partsOf, sameM, sameV, sameVs, Mg.bare, Mc.bare, Mg.step, Mc.step, Mg.head, hm, kg, kc, Mc.nil, qr, Rq.zero, Vt.zero])
theorem kgsp4_5 (f t e s : Int) (sm vs : Sl) : isM (spM (kg 4 f t e s sm) vs 5) (spC (kc 4) 5) = false := no_fit (p := 1) (by simp [spM, partsOf, hm, kg, qr, Rq.zero, Vt.zero]) (by simp [spM, fitB, isSq, isPh, isPl, hm, kg, qr, Rq.zero, Vt.zero])
theorem kglen4 (f t e s : Int) (sm : Sl) : 5 ≤ (encM (kg 4 f t e s sm) (kc 4)).length := by simp [encM, encUp, partsOf, partY, wordB, b4, b2, Rq.bytes, hm, kg, kc, Mc.nil, qr, Rq.zero, Vt.zero]
theorem kgsp5_0 (f t e s : Int) (sm vs : Sl) : isM (spM (kg 5 f t e s sm) vs 0) (spC (kc 5) 0) = false := no_head (by simp [spM, headB, isRp, isEp, hm, kg, Rq.zero, Vt.zero])
theorem kgsp5_1 (f t e s : Int) (sm vs : Sl) : isM (spM (kg 5 f t e s sm) vs 1) (spC (kc 5) 1) = false := no_head (by simp [spM, headB, isRp, isEp, hm, kg, Rq.zero, Vt.zero])
theorem kgsp5_2 (f t e s : Int) (sm vs : Sl) : isM (spM (kg 5 f t e s sm) vs 2) (spC (kc 5) 2) = false := no_head (by simp [spM, headB, isRp, isEp, hm, kg, Rq.zero, Vt.zero])
theorem kgsp5_3 (f t e s : Int) (sm vs : Sl) : isM (spM (kg 5 f t e s sm) vs 3) (spC (kc 5) 3) = false := no_parts (by simp [spM, partsOf])
theorem kgsp5_4 (f t e s : Int) (sm vs : Sl) : isM (spM (kg 5 f t e s sm) vs 4) (spC (kc 5) 4) = false := no_same (by simp [spM, spC, vc0, partsOf, sameM, sameV, sameVs, Mg.bare, Mc.bare, Mg.step, Mc.step, Mg.head, hm, kg, kc, Mc.nil, Rq.zero, Vt.zero])
theorem kgsp5_5 (f t e s : Int) (sm vs : Sl) : isM (spM (kg 5 f t e s sm) vs 5) (spC (kc 5) 5) = false := no_fit (p := 1) (by simp [spM, partsOf, hm, kg, Rq.zero, Vt.zero]) (by simp [spM, fitB, isSq, isPh, isPl, hm, kg, Rq.zero, Vt.zero])
theorem kglen5 (f t e s : Int) (sm : Sl) : 5 ≤ (encM (kg 5 f t e s sm) (kc 5)).length := by simp [encM, encUp, partsOf, partY, wordB, b4, be8_len, hm, kg, kc, Mc.nil, Rq.zero, Vt.zero]
theorem kgsp6_0 (f t e s : Int) (sm vs : Sl) : isM (spM (kg 6 f t e s sm) vs 0) (spC (kc 6) 0) = false := no_head (by simp [spM, headB, isRp, isEp, hm, kg, Rq.zero, Vt.zero])
theorem kgsp6_1 (f t e s : Int) (sm vs : Sl) : isM (spM (kg 6 f t e s sm) vs 1) (spC (kc 6) 1) = false := no_head (by simp [spM, headB, isRp, isEp, hm, kg, Rq.zero, Vt.zero])
theorem kgsp6_2 (f t e s : Int) (sm vs : Sl) : isM (spM (kg 6 f t e s sm) vs 2) (spC (kc 6) 2) = false := no_head (by simp [spM, headB, isRp, isEp, hm, kg, Rq.zero, Vt.zero])
theorem kgsp6_3 (f t e s : Int) (sm vs : Sl) : isM (spM (kg 6 f t e s sm) vs 3) (spC (kc 6) 3) = false := no_parts (by simp [spM, partsOf])
theorem kgsp6_4 (f t e s : Int) (sm vs : Sl) : isM (spM (kg 6 f t e s sm) vs 4) (spC (kc 6) 4) = false := no_same (by simp [spM, spC, vc0, partsOf, sameM, sameV, sameVs, Mg.bare, Mc.bare, Mg.step, Mc.step, Mg.head, hm, kg, kc, Mc.nil, Rq.zero, Vt.zero])
theorem kgsp6_5 (f t e s : Int) (sm vs : Sl) : isM (spM (kg 6 f t e s sm) vs 5) (spC (kc 6) 5) = false := no_same (by simp [spM, spC, partsOf, sameM, sameV, sameVs, Mg.bare, Mc.bare, Mg.step, Mc.step, Mg.head, hm, kg, kc, Mc.nil, Rq.zero, Vt.zero])
theorem kglen6 (f t e s : Int) (sm : Sl) : 5 ≤ (encM (kg 6 f t e s sm) (kc 6)).length := by simp [encM, encUp, partsOf, partY, b4, voteY, marksY, entsB, hm, kg, kc, Mc.nil, Rq.zero, Vt.zero]
theorem kgsp7_0 (f t e s : Int) (sm vs : Sl) : isM (spM (kg 7 f t e s sm) vs 0) (spC (kc 7) 0) = false := no_head (by simp [spM, headB, isRp, isEp, hm, kg, Rq.zero, Vt.zero])
theorem kgsp7_1 (f t e s : Int) (sm vs : Sl) : isM (spM (kg 7 f t e s sm) vs 1) (spC (kc 7) 1) = false := no_head (by simp [spM, headB, isRp, isEp, hm, kg, Rq.zero, Vt.zero])
theorem kgsp7_2 (f t e s : Int) (sm vs : Sl) : isM (spM (kg 7 f t e s sm) vs 2) (spC (kc 7) 2) = false := no_head (by simp [spM, headB, isRp, isEp, hm, kg, Rq.zero, Vt.zero])
theorem kgsp7_3 (f t e s : Int) (sm vs : Sl) : isM (spM (kg 7 f t e s sm) vs 3) (spC (kc 7) 3) = false := no_parts (by simp [spM, partsOf])
theorem kgsp7_4 (f t e s : Int) (sm vs : Sl) : isM (spM (kg 7 f t e s sm) vs 4) (spC (kc 7) 4) = false := no_fit (p := 8) (by simp [spM, partsOf, hm, kg, Rq.zero, Vt.zero]) (by simp [spM, spC, vc0, fitB, isNv, isSq, voteB, upB, isRp, isEp, fitVsB, vBad, hm, kg, kc, Mc.nil, Rq.zero, Vt.zero])
theorem kgsp7_5 (f t e s : Int) (sm vs : Sl) : isM (spM (kg 7 f t e s sm) vs 5) (spC (kc 7) 5) = false := no_same (by simp [spM, spC, partsOf, sameM, sameV, sameVs, Mg.bare, Mc.bare, Mg.step, Mc.step, Mg.head, hm, kg, kc, Mc.nil, Rq.zero, Vt.zero])
theorem kglen7 (f t e s : Int) (sm : Sl) : 5 ≤ (encM (kg 7 f t e s sm) (kc 7)).length := by simp [encM, encUp, partsOf, partY, wordB, b4, voteY, marksY, entsB, votesY, hm, kg, kc, Mc.nil, Rq.zero, Vt.zero]
theorem kgsp8_0 (f t e s : Int) (sm vs : Sl) : isM (spM (kg 8 f t e s sm) vs 0) (spC (kc 8) 0) = false := no_head (by simp [spM, headB, isRp, isEp, hm, kg, Rq.zero, Vt.zero])
theorem kgsp8_1 (f t e s : Int) (sm vs : Sl) : isM (spM (kg 8 f t e s sm) vs 1) (spC (kc 8) 1) = false := no_head (by simp [spM, headB, isRp, isEp, hm, kg, Rq.zero, Vt.zero])
theorem kgsp8_2 (f t e s : Int) (sm vs : Sl) : isM (spM (kg 8 f t e s sm) vs 2) (spC (kc 8) 2) = false := no_head (by simp [spM, headB, isRp, isEp, hm, kg, Rq.zero, Vt.zero])
theorem kgsp8_3 (f t e s : Int) (sm vs : Sl) : isM (spM (kg 8 f t e s sm) vs 3) (spC (kc 8) 3) = false := no_parts (by simp [spM, partsOf])
theorem kgsp8_4 (f t e s : Int) (sm vs : Sl) : isM (spM (kg 8 f t e s sm) vs 4) (spC (kc 8) 4) = false := no_same (by simp [spM, spC, vc0, partsOf, sameM, sameV, sameVs, Mg.bare, Mc.bare, Mg.step, Mc.step, Mg.head, hm, kg, kc, Mc.nil, Rq.zero, Vt.zero])
theorem kgsp8_5 (f t e s : Int) (sm vs : Sl) : isM (spM (kg 8 f t e s sm) vs 5) (spC (kc 8) 5) = false := no_same (by simp [spM, spC, partsOf, sameM, sameV, sameVs, Mg.bare, Mc.bare, Mg.step, Mc.step, Mg.head, hm, kg, kc, Mc.nil, Rq.zero, Vt.zero])
theorem kglen8 (f t e s : Int) (sm : Sl) : 5 ≤ (encM (kg 8 f t e s sm) (kc 8)).length := by simp [encM, encUp, partsOf, partY, wordB, hm, kg, kc, Mc.nil, Rq.zero, Vt.zero]
theorem kgsp9_0 (f t e s : Int) (sm vs : Sl) : isM (spM (kg 9 f t e s sm) vs 0) (spC (kc 9) 0) = false := no_head (by simp [spM, headB, isRp, isEp, hm, kg, Rq.zero, Vt.zero])
theorem kgsp9_1 (f t e s : Int) (sm vs : Sl) : isM (spM (kg 9 f t e s sm) vs 1) (spC (kc 9) 1) = false := no_head (by simp [spM, headB, isRp, isEp, hm, kg, Rq.zero, Vt.zero])
theorem kgsp9_2 (f t e s : Int) (sm vs : Sl) : isM (spM (kg 9 f t e s sm) vs 2) (spC (kc 9) 2) = false := no_head (by simp [spM, headB, isRp, isEp, hm, kg, Rq.zero, Vt.zero])
theorem kgsp9_3 (f t e s : Int) (sm vs : Sl) : isM (spM (kg 9 f t e s sm) vs 3) (spC (kc 9) 3) = false := no_parts (by simp [spM, partsOf])
theorem kgsp9_4 (f t e s : Int) (sm vs : Sl) : isM (spM (kg 9 f t e s sm) vs 4) (spC (kc 9) 4) = false := no_same (by simp [spM, spC, vc0, partsOf, sameM, sameV, sameVs, Mg.bare, Mc.bare, Mg.step, Mc.step, Mg.head, hm, kg, kc, Mc.nil, Rq.zero, Vt.zero])
theorem kgsp9_5 (f t e s : Int) (sm vs : Sl) : isM (spM (kg 9 f t e s sm) vs 5) (spC (kc 9) 5) = false := no_same (by simp [spM, spC, partsOf, sameM, sameV, sameVs, Mg.bare, Mc.bare, Mg.step, Mc.step, Mg.head, hm, kg, kc, Mc.nil, Rq.zero, Vt.zero])
theorem kglen9 (f t e s : Int) (sm : Sl) : 5 ≤ (encM (kg 9 f t e s sm) (kc 9)).length := by simp [encM, encUp, partsOf, partY, wordB, hm, kg, kc, Mc.nil, Rq.zero, Vt.zero]
theorem kgsp10_0 (f t e s : Int) (sm vs : Sl) : isM (spM (kg 10 f t e s sm) vs 0) (spC (kc 10) 0) = false := no_head (by simp [spM, headB, isRp, isEp, hm, kg, Rq.zero, Vt.zero])
theorem kgsp10_1 (f t e s : Int) (sm vs : Sl) : isM (spM (kg 10 f t e s sm) vs 1) (spC (kc 10) 1) = false := no_head (by simp [spM, headB, isRp, isEp, hm, kg, Rq.zero, Vt.zero])
theorem kgsp10_2 (f t e s : Int) (sm vs : Sl) : isM (spM (kg 10 f t e s sm) vs 2) (spC (kc 10) 2) = false := no_head (by simp [spM, headB, isRp, isEp, hm, kg, Rq.zero, Vt.zero])
theorem kgsp10_3 (f t e s : Int) (sm vs : Sl) : isM (spM (kg 10 f t e s sm) vs 3) (spC (kc 10) 3) = false := no_parts (by simp [spM, partsOf])
theorem kgsp10_4 (f t e s : Int) (sm vs : Sl) : isM (spM (kg 10 f t e s sm) vs 4) (spC (kc 10) 4) = false := no_same (by simp [spM, spC, vc0, partsOf, sameM, sameV, sameVs, Mg.bare, Mc.bare, Mg.step, Mc.step, Mg.head, hm, kg, kc, Mc.nil, Rq.zero, Vt.zero])
theorem kgsp10_5 (f t e s : Int) (sm vs : Sl) : isM (spM (kg 10 f t e s sm) vs 5) (spC (kc 10) 5) = false := no_fit (p := 1) (by simp [spM, partsOf, hm, kg, Rq.zero, Vt.zero]) (by simp [spM, fitB, isSq, isPh, isPl, hm, kg, Rq.zero, Vt.zero])
theorem kglen10 (f t e s : Int) (sm : Sl) : 5 ≤ (encM (kg 10 f t e s sm) (kc 10)).length := by simp [encM, encUp, partsOf, partY, wordB, b4, hm, kg, kc, Mc.nil, Rq.zero, Vt.zero]
theorem kgsp11_0 (f t e s : Int) (sm vs : Sl) : isM (spM (kg 11 f t e s sm) vs 0) (spC (kc 11) 0) = false := no_head (by simp [spM, headB, isRp, isEp, hm, kg, Rq.zero, Vt.zero])
theorem kgsp11_1 (f t e s : Int) (sm vs : Sl) : isM (spM (kg 11 f t e s sm) vs 1) (spC (kc 11) 1) = false := no_head (by simp [spM, headB, isRp, isEp, hm, kg, Rq.zero, Vt.zero])
theorem kgsp11_2 (f t e s : Int) (sm vs : Sl) : isM (spM (kg 11 f t e s sm) vs 2) (spC (kc 11) 2) = false := no_head (by simp [spM, headB, isRp, isEp, hm, kg, Rq.zero, Vt.zero])
theorem kgsp11_3 (f t e s : Int) (sm vs : Sl) : isM (spM (kg 11 f t e s sm) vs 3) (spC (kc 11) 3) = false := no_parts (by simp [spM, partsOf])
theorem kgsp11_4 (f t e s : Int) (sm vs : Sl) : isM (spM (kg 11 f t e s sm) vs 4) (spC (kc 11) 4) = false := no_same (by simp [spM, spC, vc0, partsOf, sameM, sameV, sameVs, Mg.bare, Mc.bare, Mg.step, Mc.step, Mg.head, hm, kg, kc, Mc.nil, Rq.zero, Vt.zero])
theorem kgsp11_5 (f t e s : Int) (sm vs : Sl) : isM (spM (kg 11 f t e s sm) vs 5) (spC (kc 11) 5) = false := no_fit (p := 1) (by simp [spM, partsOf, hm, kg, Rq.zero, Vt.zero]) (by simp [spM, fitB, isSq, isPh, isPl, hm, kg, Rq.zero, Vt.zero])
theorem kglen11 (f t e s : Int) (sm : Sl) : 5 ≤ (encM (kg 11 f t e s sm) (kc 11)).length := by simp [encM, encUp, partsOf, partY, wordB, b4, hm, kg, kc, Mc.nil, Rq.zero, Vt.zero]
theorem kgsp12_0 (f t e s : Int) (sm vs : Sl) : isM (spM (kg 12 f t e s sm) vs 0) (spC (kc 12) 0) = false := no_head (by simp [spM, headB, isRp, isEp, hm, kg, Rq.zero, Vt.zero])
theorem kgsp12_1 (f t e s : Int) (sm vs : Sl) : isM (spM (kg 12 f t e s sm) vs 1) (spC (kc 12) 1) = false := no_head (by simp [spM, headB, isRp, isEp, hm, kg, Rq.zero, Vt.zero])
theorem kgsp12_2 (f t e s : Int) (sm vs : Sl) : isM (spM (kg 12 f t e s sm) vs 2) (spC (kc 12) 2) = false := no_head (by simp [spM, headB, isRp, isEp, hm, kg, Rq.zero, Vt.zero])
theorem kgsp12_3 (f t e s : Int) (sm vs : Sl) : isM (spM (kg 12 f t e s sm) vs 3) (spC (kc 12) 3) = false := no_parts (by simp [spM, partsOf])
theorem kgsp12_4 (f t e s : Int) (sm vs : Sl) : isM (spM (kg 12 f t e s sm) vs 4) (spC (kc 12) 4) = false := no_same (by simp [spM, spC, vc0, partsOf, sameM, sameV, sameVs, Mg.bare, Mc.bare, Mg.step, Mc.step, Mg.head, hm, kg, kc, Mc.nil, Rq.zero, Vt.zero])
theorem kgsp12_5 (f t e s : Int) (sm vs : Sl) : isM (spM (kg 12 f t e s sm) vs 5) (spC (kc 12) 5) = false := no_fit (p := 1) (by simp [spM, partsOf, hm, kg, Rq.zero, Vt.zero]) (by simp [spM, fitB, isSq, isPh, isPl, hm, kg, Rq.zero, Vt.zero])
theorem kglen12 (f t e s : Int) (sm : Sl) : 5 ≤ (encM (kg 12 f t e s sm) (kc 12)).length := by simp [encM, encUp, partsOf, partY, wordB, b4, be8_len, hm, kg, kc, Mc.nil, Rq.zero, Vt.zero]
theorem kgsp13_0 (f t e s : Int) (sm vs : Sl) : isM (spM (kg 13 f t e s sm) vs 0) (spC (kc 13) 0) = false := no_head (by simp [spM, headB, isRp, isEp, hm, kg, Rq.zero, Vt.zero])
theorem kgsp13_1 (f t e s : Int) (sm vs : Sl) : isM (spM (kg 13 f t e s sm) vs 1) (spC (kc 13) 1) = false := no_head (by simp [spM, headB, isRp, isEp, hm, kg, Rq.zero, Vt.zero])
theorem kgsp13_2 (f t e s : Int) (sm vs : Sl) : isM (spM (kg 13 f t e s sm) vs 2) (spC (kc 13) 2) = false := no_head (by simp [spM, headB, isRp, isEp, hm, kg, Rq.zero, Vt.zero])
theorem kgsp13_3 (f t e s : Int) (sm vs : Sl) : isM (spM (kg 13 f t e s sm) vs 3) (spC (kc 13) 3) = false := no_parts (by simp [spM, partsOf])
theorem kgsp13_4 (f t e s : Int) (sm vs : Sl) : isM (spM (kg 13 f t e s sm) vs 4) (spC (kc 13) 4) = false := no_same (by simp [spM, spC, vc0, partsOf, sameM, sameV, sameVs, Mg.bare, Mc.bare, Mg.step, Mc.step, Mg.head, hm, kg, kc, Mc.nil, Rq.zero, Vt.zero])
theorem kgsp13_5 (f t e s : Int) (sm vs : Sl) : isM (spM (kg 13 f t e s sm) vs 5) (spC (kc 13) 5) = false := no_fit (p := 1) (by simp [spM, partsOf, hm, kg, Rq.zero, Vt.zero]) (by simp [spM, fitB, isSq, isPh, isPl, hm, kg, Rq.zero, Vt.zero])
theorem kglen13 (f t e s : Int) (sm : Sl) : 5 ≤ (encM (kg 13 f t e s sm) (kc 13)).length := by simp [encM, encUp, partsOf, partY, wordB, b4, lenBytes, hm, kg, kc, Mc.nil, Rq.zero, Vt.zero]
theorem kgsp14_0 (f t e s : Int) (sm vs : Sl) : isM (spM (kg 14 f t e s sm) vs 0) (spC (kc 14) 0) = false := no_head (by simp [spM, headB, isRp, isEp, hm, kg, qr, Rq.zero, Vt.zero])
theorem kgsp14_1 (f t e s : Int) (sm vs : Sl) : isM (spM (kg 14 f t e s sm) vs 1) (spC (kc 14) 1) = false := no_fit (p := 2) (by simp [spM, partsOf, hm, kg, qr, Rq.zero, Vt.zero]) (by simp [spM, fitB, reqB, realB, Rq.is, Rq.isOp, hm, kg, qr, Rq.zero, Vt.zero])
theorem kgsp14_2 (f t e s : Int) (sm vs : Sl) : isM (spM (kg 14 f t e s sm) vs 2) (spC (kc 14) 2) = false := no_head (by simp [spM, headB, isRp, isEp, hm, kg, qr, Rq.zero, Vt.zero])
theorem kgsp14_3 (f t e s : Int) (sm vs : Sl) : isM (spM (kg 14 f t e s sm) vs 3) (spC (kc 14) 3) = false := no_parts (by simp [spM, partsOf])
theorem kgsp14_4 (f t e s : Int) (sm vs : Sl) : isM (spM (kg 14 f t e s sm) vs 4) (spC (kc 14) 4) = false := no_same (by simp [spM, spC, vc0, partsOf, sameM, sameV, sameVs, Mg.bare, Mc.bare, Mg.step, Mc.step, Mg.head, hm, kg, kc, Mc.nil, qr, Rq.zero, Vt.zero])
theorem kgsp14_5 (f t e s : Int) (sm vs : Sl) : isM (spM (kg 14 f t e s sm) vs 5) (spC (kc 14) 5) = false := no_same (by simp [spM, spC, partsOf, sameM, sameV, sameVs, Mg.bare, Mc.bare, Mg.step, Mc.step, Mg.head, hm, kg, kc, Mc.nil, qr, Rq.zero, Vt.zero])
theorem kglen14 (f t e s : Int) (sm : Sl) : 5 ≤ (encM (kg 14 f t e s sm) (kc 14)).length := by simp [encM, encUp, partsOf, partY, wordB, b4, b2, Rq.bytes, hm, kg, kc, Mc.nil, qr, Rq.zero, Vt.zero]

theorem kg_is (k : Int) (hk1 : 1 ≤ k) (hk2 : k ≤ 14) (f t e s : Int) (sm : Sl) (f0 : 0 ≤ f) (f1 : f < 4) (t0 : 0 ≤ t) (t1 : t < 4) (e0 : 1 ≤ e) (e1 : e ≤ 200) (s0 : 1 ≤ s) (s1 : s ≤ 1000) (hs : sm.n = if k = 12 then 8 else 0) : isM (kg k f t e s sm) (kc k) = true := by
  have hc : k = 1 ∨ k = 2 ∨ k = 3 ∨ k = 4 ∨ k = 5 ∨ k = 6 ∨ k = 7 ∨ k = 8 ∨ k = 9 ∨ k = 10 ∨ k = 11 ∨ k = 12 ∨ k = 13 ∨ k = 14 := by omega
  rcases hc with rfl | rfl | rfl | rfl | rfl | rfl | rfl | rfl | rfl | rfl | rfl | rfl | rfl | rfl
  · exact kgis1 f t e s sm f0 f1 t0 t1 e0 e1 s0 s1
  · exact kgis2 f t e s sm f0 f1 t0 t1 e0 e1 s0 s1
  · exact kgis3 f t e s sm f0 f1 t0 t1 e0 e1 s0 s1
  · exact kgis4 f t e s sm f0 f1 t0 t1 e0 e1 s0 s1
  · exact kgis5 f t e s sm f0 f1 t0 t1 e0 e1 s0 s1
  · exact kgis6 f t e s sm f0 f1 t0 t1 e0 e1 s0 s1
  · exact kgis7 f t e s sm f0 f1 t0 t1 e0 e1 s0 s1
  · exact kgis8 f t e s sm f0 f1 t0 t1 e0 e1 s0 s1
  · exact kgis9 f t e s sm f0 f1 t0 t1 e0 e1 s0 s1
  · exact kgis10 f t e s sm f0 f1 t0 t1 e0 e1 s0 s1
  · exact kgis11 f t e s sm f0 f1 t0 t1 e0 e1 s0 s1
  · exact kgis12 f t e s sm f0 f1 t0 t1 e0 e1 s0 s1 (by simpa using hs)
  · exact kgis13 f t e s sm f0 f1 t0 t1 e0 e1 s0 s1
  · exact kgis14 f t e s sm f0 f1 t0 t1 e0 e1 s0 s1

theorem kg_sp (k j : Int) (hk1 : 1 ≤ k) (hk2 : k ≤ 14) (hj1 : 0 ≤ j) (hj2 : j ≤ 5) (f t e s : Int) (sm vs : Sl) : isM (spM (kg k f t e s sm) vs j) (spC (kc k) j) = false := by
  have hc : k = 1 ∨ k = 2 ∨ k = 3 ∨ k = 4 ∨ k = 5 ∨ k = 6 ∨ k = 7 ∨ k = 8 ∨ k = 9 ∨ k = 10 ∨ k = 11 ∨ k = 12 ∨ k = 13 ∨ k = 14 := by omega
  have hd : j = 0 ∨ j = 1 ∨ j = 2 ∨ j = 3 ∨ j = 4 ∨ j = 5 := by omega
  rcases hc with rfl | rfl | rfl | rfl | rfl | rfl | rfl | rfl | rfl | rfl | rfl | rfl | rfl | rfl
  · rcases hd with rfl | rfl | rfl | rfl | rfl | rfl
    · exact kgsp1_0 f t e s sm vs
    · exact kgsp1_1 f t e s sm vs
    · exact kgsp1_2 f t e s sm vs
    · exact kgsp1_3 f t e s sm vs
    · exact kgsp1_4 f t e s sm vs
    · exact kgsp1_5 f t e s sm vs
  · rcases hd with rfl | rfl | rfl | rfl | rfl | rfl
    · exact kgsp2_0 f t e s sm vs
    · exact kgsp2_1 f t e s sm vs
    · exact kgsp2_2 f t e s sm vs
    · exact kgsp2_3 f t e s sm vs
    · exact kgsp2_4 f t e s sm vs
    · exact kgsp2_5 f t e s sm vs
  · rcases hd with rfl | rfl | rfl | rfl | rfl | rfl
    · exact kgsp3_0 f t e s sm vs
    · exact kgsp3_1 f t e s sm vs
    · exact kgsp3_2 f t e s sm vs
    · exact kgsp3_3 f t e s sm vs
    · exact kgsp3_4 f t e s sm vs
    · exact kgsp3_5 f t e s sm vs
  · rcases hd with rfl | rfl | rfl | rfl | rfl | rfl
    · exact kgsp4_0 f t e s sm vs
    · exact kgsp4_1 f t e s sm vs
    · exact kgsp4_2 f t e s sm vs
    · exact kgsp4_3 f t e s sm vs
    · exact kgsp4_4 f t e s sm vs
    · exact kgsp4_5 f t e s sm vs
  · rcases hd with rfl | rfl | rfl | rfl | rfl | rfl
    · exact kgsp5_0 f t e s sm vs
    · exact kgsp5_1 f t e s sm vs
    · exact kgsp5_2 f t e s sm vs
    · exact kgsp5_3 f t e s sm vs
    · exact kgsp5_4 f t e s sm vs
    · exact kgsp5_5 f t e s sm vs
  · rcases hd with rfl | rfl | rfl | rfl | rfl | rfl
    · exact kgsp6_0 f t e s sm vs
    · exact kgsp6_1 f t e s sm vs
    · exact kgsp6_2 f t e s sm vs
    · exact kgsp6_3 f t e s sm vs
    · exact kgsp6_4 f t e s sm vs
    · exact kgsp6_5 f t e s sm vs
  · rcases hd with rfl | rfl | rfl | rfl | rfl | rfl
    · exact kgsp7_0 f t e s sm vs
    · exact kgsp7_1 f t e s sm vs
    · exact kgsp7_2 f t e s sm vs
    · exact kgsp7_3 f t e s sm vs
    · exact kgsp7_4 f t e s sm vs
    · exact kgsp7_5 f t e s sm vs
  · rcases hd with rfl | rfl | rfl | rfl | rfl | rfl
    · exact kgsp8_0 f t e s sm vs
    · exact kgsp8_1 f t e s sm vs
    · exact kgsp8_2 f t e s sm vs
    · exact kgsp8_3 f t e s sm vs
    · exact kgsp8_4 f t e s sm vs
    · exact kgsp8_5 f t e s sm vs
  · rcases hd with rfl | rfl | rfl | rfl | rfl | rfl
    · exact kgsp9_0 f t e s sm vs
    · exact kgsp9_1 f t e s sm vs
    · exact kgsp9_2 f t e s sm vs
    · exact kgsp9_3 f t e s sm vs
    · exact kgsp9_4 f t e s sm vs
    · exact kgsp9_5 f t e s sm vs
  · rcases hd with rfl | rfl | rfl | rfl | rfl | rfl
    · exact kgsp10_0 f t e s sm vs
    · exact kgsp10_1 f t e s sm vs
    · exact kgsp10_2 f t e s sm vs
    · exact kgsp10_3 f t e s sm vs
    · exact kgsp10_4 f t e s sm vs
    · exact kgsp10_5 f t e s sm vs
  · rcases hd with rfl | rfl | rfl | rfl | rfl | rfl
    · exact kgsp11_0 f t e s sm vs
    · exact kgsp11_1 f t e s sm vs
    · exact kgsp11_2 f t e s sm vs
    · exact kgsp11_3 f t e s sm vs
    · exact kgsp11_4 f t e s sm vs
    · exact kgsp11_5 f t e s sm vs
  · rcases hd with rfl | rfl | rfl | rfl | rfl | rfl
    · exact kgsp12_0 f t e s sm vs
    · exact kgsp12_1 f t e s sm vs
    · exact kgsp12_2 f t e s sm vs
    · exact kgsp12_3 f t e s sm vs
    · exact kgsp12_4 f t e s sm vs
    · exact kgsp12_5 f t e s sm vs
  · rcases hd with rfl | rfl | rfl | rfl | rfl | rfl
    · exact kgsp13_0 f t e s sm vs
    · exact kgsp13_1 f t e s sm vs
    · exact kgsp13_2 f t e s sm vs
    · exact kgsp13_3 f t e s sm vs
    · exact kgsp13_4 f t e s sm vs
    · exact kgsp13_5 f t e s sm vs
  · rcases hd with rfl | rfl | rfl | rfl | rfl | rfl
    · exact kgsp14_0 f t e s sm vs
    · exact kgsp14_1 f t e s sm vs
    · exact kgsp14_2 f t e s sm vs
    · exact kgsp14_3 f t e s sm vs
    · exact kgsp14_4 f t e s sm vs
    · exact kgsp14_5 f t e s sm vs

theorem kg_len (k : Int) (hk1 : 1 ≤ k) (hk2 : k ≤ 14) (f t e s : Int) (sm : Sl) : 5 ≤ (encM (kg k f t e s sm) (kc k)).length := by
  have hc : k = 1 ∨ k = 2 ∨ k = 3 ∨ k = 4 ∨ k = 5 ∨ k = 6 ∨ k = 7 ∨ k = 8 ∨ k = 9 ∨ k = 10 ∨ k = 11 ∨ k = 12 ∨ k = 13 ∨ k = 14 := by omega
  rcases hc with rfl | rfl | rfl | rfl | rfl | rfl | rfl | rfl | rfl | rfl | rfl | rfl | rfl | rfl
  · exact kglen1 f t e s sm
  · exact kglen2 f t e s sm
  · exact kglen3 f t e s sm
  · exact kglen4 f t e s sm
  · exact kglen5 f t e s sm
  · exact kglen6 f t e s sm
  · exact kglen7 f t e s sm
  · exact kglen8 f t e s sm
  · exact kglen9 f t e s sm
  · exact kglen10 f t e s sm
  · exact kglen11 f t e s sm
  · exact kglen12 f t e s sm
  · exact kglen13 f t e s sm
  · exact kglen14 f t e s sm

theorem kg_k (k : Int) (hk1 : 1 ≤ k) (hk2 : k ≤ 14) (f t e s : Int) (sm : Sl) : (kg k f t e s sm).k = k := by
  have hc : k = 1 ∨ k = 2 ∨ k = 3 ∨ k = 4 ∨ k = 5 ∨ k = 6 ∨ k = 7 ∨ k = 8 ∨ k = 9 ∨ k = 10 ∨ k = 11 ∨ k = 12 ∨ k = 13 ∨ k = 14 := by omega
  rcases hc with rfl | rfl | rfl | rfl | rfl | rfl | rfl | rfl | rfl | rfl | rfl | rfl | rfl | rfl <;> rfl
theorem kg_vs (k : Int) (hk1 : 1 ≤ k) (hk2 : k ≤ 14) (f t e s : Int) (sm : Sl) : (kg k f t e s sm).vs = ⟨none, 0, 0⟩ := by
  have hc : k = 1 ∨ k = 2 ∨ k = 3 ∨ k = 4 ∨ k = 5 ∨ k = 6 ∨ k = 7 ∨ k = 8 ∨ k = 9 ∨ k = 10 ∨ k = 11 ∨ k = 12 ∨ k = 13 ∨ k = 14 := by omega
  rcases hc with rfl | rfl | rfl | rfl | rfl | rfl | rfl | rfl | rfl | rfl | rfl | rfl | rfl | rfl <;> rfl
theorem kc_ok (k : Int) : McOk (kc k) := by
  unfold kc
  split <;> exact ⟨⟨fun x hx => (by cases hx), fun x hx => (by cases hx)⟩, fun x hx => (by cases hx)⟩

theorem Row.kept {α : Type} {S : Nat → Prop} {w w' : World} {k : Nat} {enc : α → List Value} {v : Value} {xs : List α} (h : Row w k enc v xs) (hk : Kept S w w') (hS : ∀ b off n c, v = .slice (some ⟨b, off, none⟩) n c → ¬ S b) : Row w' k enc v xs := by
  obtain ⟨ao, cap, e, h1, h2, h3, h4⟩ := h
  refine ⟨ao, cap, e, h1, h2, h3, fun j x hj => ?_⟩
  obtain ⟨b, off, e2, hc⟩ := h4 j x hj
  refine ⟨b, off, e2, fun i u hu => ?_⟩
  have h5 := hc i u hu
  subst e2
  rw [← h5]
  exact World.cell?_of_block (hk.block b (cell_block h5) (hS b off _ _ e))
theorem kg12_kept {S : Nat → Prop} {w w' : World} {f t e s : Int} {sm : Sl} (h : MgAt w (kg 12 f t e s sm) (kc 12)) (hk : Kept S w w') (hS : ∀ b off, sm.a = some ⟨b, off, none⟩ → ¬ S b) : MgAt w' (kg 12 f t e s sm) (kc 12) :=
  ⟨⟨Row.nil _ _ _, Row.nil _ _ _, Row.nil _ _ _⟩, ⟨Row.nil _ _ _, fun x hx => by cases hx⟩, h.sm.kept hk (fun b off n c e => by injection e with e; exact hS b off e), ⟨rfl, (fun i hi => by simp [kc, Mc.nil] at hi), fun _ => rfl, Nat.le_refl _, by simp [kc, Mc.nil], fun x hx => by simp [kc, Mc.nil] at hx⟩⟩

theorem row1 (X : World) : VsAt (X.alloc (.cells #[.int .u8 0, .int .u8 0, .int .u32 0, .int .u32 0, .slice none 0 0, .slice none 0 0, .slice none 0 0] 32)) ⟨some ⟨X.heap.size, 0, none⟩, 1, 1⟩ [(Vt.zero, vc0)] := by
  refine ⟨⟨some ⟨X.heap.size, 0, none⟩, 1, rfl, (fun h => by cases h), Nat.le_refl _, by simp, fun j x hj => ⟨X.heap.size, 0, rfl, fun i u hu => ?_⟩⟩, fun x hx => ?_⟩
  · obtain rfl : j = 0 := by
      have := (List.getElem?_eq_some_iff.1 hj).1; simpa using this
    simp at hj
    subst hj
    rw [cell_of_row _ _ _ _ _ _ (heap_alloc_new _ _)]
    rw [← hu]
    simp [vcell, Vt.cells, Vt.zero]
  · simp at hx
    subst hx
    exact ⟨Row.nil _ _ _, Row.nil _ _ _, Row.nil _ _ _⟩
theorem vs0_ok {c : Mc} (h : McOk c) : McOk (spC c 4) := ⟨h.1, fun x hx => by
  simp [spC] at hx
  subst hx
  exact ⟨fun y hy => (by cases hy), fun y hy => (by cases hy)⟩⟩
theorem spset0 (m : Mg) (vs : Sl) : (m.cells.toArray).setIfInBounds 3 (.int .u8 201) = (spM m vs 0).cells.toArray := rfl
theorem spset1 (m : Mg) (vs : Sl) : (m.cells.toArray).setIfInBounds 2 (.int .u8 9) = (spM m vs 1).cells.toArray := rfl
theorem spset2 (m : Mg) (vs : Sl) : (m.cells.toArray).setIfInBounds 1 (.int .u8 20) = (spM m vs 2).cells.toArray := rfl
theorem spset3 (m : Mg) (vs : Sl) : (m.cells.toArray).setIfInBounds 0 (.int .u8 15) = (spM m vs 3).cells.toArray := rfl
theorem spset4 (m : Mg) (vs : Sl) : (m.cells.toArray).setIfInBounds 22 (.slice vs.a vs.n vs.c) = (spM m vs 4).cells.toArray := rfl
theorem spset5 (m : Mg) (vs : Sl) : (m.cells.toArray).setIfInBounds 5 (.int .u32 1073741825) = (spM m vs 5).cells.toArray := rfl
end Go.Proofs.YtmkeckablkccnaaDoor
