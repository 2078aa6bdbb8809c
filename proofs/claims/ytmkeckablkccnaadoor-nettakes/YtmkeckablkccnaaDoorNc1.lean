/- Copies of votes and messages that hold no list. -/
import Derived.Test.YtmkeckablkccnaaDoorNb1
namespace Go.Proofs.YtmkeckablkccnaaDoor
open Go.RowKit
set_option maxRecDepth 100000

/-- a vote, a message without lists -/
def Vnil (v : Vt) : Prop := v.ms = ⟨none, 0, 0⟩ ∧ v.p = ⟨none, 0, 0⟩ ∧ v.q = ⟨none, 0, 0⟩
structure Mnil (m : Mg) : Prop where
  vt : Vnil m.vt
  vs : m.vs = ⟨none, 0, 0⟩
  sm : m.sm = ⟨none, 0, 0⟩
  dt : m.dt = ⟨none, 0, 0⟩

def Zw : List Value := [.int .u8 0, .int .u8 0, .int .u32 0, .int .u32 0, .slice none 0 0, .slice none 0 0, .slice none 0 0]
/-- two blocks of a call: what came in, what goes out -/
structure C2 (w wr : World) (g t : Nat) (A Z : Array Value) : Prop where
  box : wr.heap[g]? = some (.cells A t (0, 0))
  res : wr.heap[g + 1]? = some (.cells Z t (0, 0))
  bel : Below g w wr

theorem C2.set {w wr : World} {g t : Nat} {A Z : Array Value} (h : C2 w wr g t A Z) (i : Nat) (u : Value) (e : A.setIfInBounds i u = A) : C2 w (wr.setCell ⟨g, i, none⟩ u) g t A Z := by
  refine ⟨?_, ?_, ?_⟩
  · rw [heap_setCell_same _ _ _ _ _ _ h.box, e]
  · rw [heap_setCell_other _ _ _ _ (by simp)]; exact h.res
  · exact h.bel.trans ⟨rfl, rfl, rfl, by simp, fun k hk => heap_setCell_other _ _ _ _ (by simp; omega)⟩
theorem C2.sets {w wr : World} {g t : Nat} {A Z : Array Value} (h : C2 w wr g t A Z) (o : Nat) (l : List Value) (e : over A o l = A) : C2 w (wr.setCells g o l) g t A Z := by
  have hk := fun k (h : k ≠ g) => setCells_kept g l o wr k h
  refine ⟨?_, ?_, ?_⟩
  · rw [setCells_block _ t _ _ _ _ h.box, e]
  · rw [(hk (g + 1) (by omega)).1]; exact h.res
  · exact h.bel.trans ⟨(hk (g + 1) (by omega)).2.2.1, (hk (g + 1) (by omega)).2.2.2.1, (hk (g + 1) (by omega)).2.2.2.2, by rw [(hk (g + 1) (by omega)).2.1]; exact Nat.le_refl _, fun k hkk => (hk k (by omega)).1⟩
theorem C2.call {w wr w1 : World} {g t : Nat} {A Z : Array Value} (h : C2 w wr g t A Z) (hb : Below wr.heap.size wr w1) : C2 w w1 g t A Z := by
  have h2 := lt_of_block h.res
  refine ⟨by rw [hb.block g (by omega)]; exact h.box, by rw [hb.block (g + 1) h2]; exact h.res, h.bel.trans (hb.mono (by omega))⟩
theorem C2.cell {w wr : World} {g t : Nat} {A Z : Array Value} (h : C2 w wr g t A Z) (i : Nat) : wr.cell? ⟨g, i, none⟩ = A[i]? := cell_of_row _ _ i _ _ _ h.box
theorem C2.free {w wr : World} {g t : Nat} {A Z : Array Value} (h : C2 w wr g t A Z) (i : Nat) : wr.frozen? ⟨g, i, none⟩ = false := frozen_of_row _ _ i _ _ h.box
theorem C2.new {w : World} {t : Nat} {A Z : Array Value} : C2 w ((w.alloc (.cells A t)).alloc (.cells Z t)) w.heap.size t A Z :=
  ⟨heap_alloc2_old _ _ _, heap_alloc2_new _ _ _, ((Below.refl _ _).alloc (Nat.le_refl _) _).alloc (by simp) _⟩

theorem size32d : (Tryd.prog.info? 32).map (·.size) = some 7 := by kernel_rfl
theorem over_vw (x : Vt) : over Zw.toArray 0 x.cells = x.cells.toArray := by
  simp only [over, Zw, Vt.cells, List.setIfInBounds_toArray, List.set_cons_zero, List.set_cons_succ, Nat.zero_add, Nat.reduceAdd]
theorem over_vt (m : Mg) : over m.cells.toArray 15 m.vt.cells = m.cells.toArray := by
  simp only [over, Mg.cells, Vt.cells, List.setIfInBounds_toArray, List.set_cons_zero, List.set_cons_succ, Nat.zero_add, Nat.reduceAdd]

set_option maxHeartbeats 4000000 in
theorem copyVoteNil (w : World) (v : Vt) (hv : Vnil v) :
    Calls Tryd.prog 90 #[.agg v.cells.toArray] w fun e w' => e = .returned (.agg v.cells.toArray) ∧ Below w.heap.size w w' := by
  obtain ⟨f, ep, vw, lo, ms, p, q⟩ := v
  obtain ⟨rfl, rfl, rfl⟩ : ms = ⟨none, 0, 0⟩ ∧ p = ⟨none, 0, 0⟩ ∧ q = ⟨none, 0, 0⟩ := hv
  obtain ⟨v, hvd⟩ : ∃ v : Vt, v = ⟨f, ep, vw, lo, ⟨none, 0, 0⟩, ⟨none, 0, 0⟩, ⟨none, 0, 0⟩⟩ := ⟨_, rfl⟩
  rw [← hvd]
  have ec : v.cells = [.int .u8 f, .int .u8 ep, .int .u32 vw, .int .u32 lo, .slice none 0 0, .slice none 0 0, .slice none 0 0] := by rw [hvd]; rfl
  have M0 : C2 w ((w.alloc (.cells v.cells.toArray 32)).alloc (.cells Zw.toArray 32)) w.heap.size 32 v.cells.toArray Zw.toArray := C2.new
  obtain ⟨W, hW⟩ : ∃ W, W = (w.alloc (.cells v.cells.toArray 32)).alloc (.cells Zw.toArray 32) := ⟨_, rfl⟩
  rw [← hW] at M0
  have s4 : v.cells.toArray.setIfInBounds 4 (.slice none 0 0) = v.cells.toArray := by rw [ec]; rfl
  have s5 : v.cells.toArray.setIfInBounds 5 (.slice none 0 0) = v.cells.toArray := by rw [ec]; rfl
  have s6 : v.cells.toArray.setIfInBounds 6 (.slice none 0 0) = v.cells.toArray := by rw [ec]; rfl
  have a4 : v.cells.toArray[4]? = some (.slice none 0 0) := by rw [ec]; rfl
  have a5 : v.cells.toArray[5]? = some (.slice none 0 0) := by rw [ec]; rfl
  have a6 : v.cells.toArray[6]? = some (.slice none 0 0) := by rw [ec]; rfl
  have HS4 := Lib.hid s4
  have HS5 := Lib.hid s5
  have HS6 := Lib.hid s6
  have HA5 := Lib.hid a5
  have HA6 := Lib.hid a6
  have q4 := (M0.cell 4).trans a4
  have z4 := M0.free 4
  have HM0 := Lib.hid M0
  have HW := Lib.hid hW
  clear s4 s5 s6 a4 a5 a6 M0 hW
  have HC := Lib.hid ec
  have HVD := Lib.hid hvd
  obtain ⟨g, hg⟩ : ∃ g, g = w.heap.size := ⟨_, rfl⟩
  rw [← hg] at HM0 q4 z4 ⊢
  have HG := Lib.hid hg
  clear hg hvd
  rw [ec] at HW ⊢
  simp only [Zw] at HW
  clear ec
  go_enter Tryd.func90, Tryd.ntmps90
  go_upto_region 1 with fail
  rw [← HW.out, ← HG.out]
  clear HW
  go_wp2_with fail
  refine Calls.mono (clone118_none _) ?_
  rintro e w1 ⟨rfl, rfl⟩
  go_upto_region 2 with fail
  have M1 := HM0.out.set 4 (.slice none 0 0) HS4.out
  generalize w1.setCell ⟨g, 4, none⟩ (.slice none 0 0) = W1 at *
  have q5 := (M1.cell 5).trans HA5.out
  have z5 := M1.free 5
  have HM1 := Lib.hid M1
  clear M1 HM0 q4 z4 HS4 HA5
  go_wp2_with fail
  refine Calls.mono (clone119_none _) ?_
  rintro e w2 ⟨rfl, rfl⟩
  go_upto_region 3 with fail
  have M2 := HM1.out.set 5 (.slice none 0 0) HS5.out
  generalize w2.setCell ⟨g, 5, none⟩ (.slice none 0 0) = W2 at *
  have q6 := (M2.cell 6).trans HA6.out
  have z6 := M2.free 6
  have HM2 := Lib.hid M2
  clear M2 HM1 q5 z5 HS5 HA6
  go_wp2_with fail
  refine Calls.mono (clone119_none _) ?_
  rintro e w3 ⟨rfl, rfl⟩
  go_upto_region 4 with fail
  have M3 := HM2.out.set 6 (.slice none 0 0) HS6.out
  generalize w3.setCell ⟨g, 6, none⟩ (.slice none 0 0) = W3 at *
  clear HM2 q6 z6 HS6
  have hth : W3.there (g + 1) 0 7 := there_row M3.res rfl
  obtain ⟨W7, hW7⟩ : ∃ W7, W7 = W3.setCells (g + 1) 0 v.cells := ⟨_, rfl⟩
  have hk7 : Kept (fun k => k = g + 1) W3 W7 := by rw [hW7]; exact kept_setCells
  have hb7 : W7.heap[g + 1]? = some (.cells v.cells.toArray 32 (0, 0)) := by rw [hW7, setCells_block _ 32 _ _ _ _ M3.res, over_vw]
  have hbel : Below g w W7 := M3.bel.trans (hk7.below (by have := lt_of_block M3.res; omega) (fun k e => by omega))
  have HB7 := Lib.hid hb7
  have HBL := Lib.hid hbel
  have HW7 := Lib.hid hW7
  have HTH := Lib.hid hth
  have HBX := Lib.hid M3.box
  clear hk7 hb7 hbel hth M3 hW7
  refine wp_region_lit ?_
  refine wpList_load_row rfl 32 (.tmp 1) rfl g rfl 32 _ (0, 0) _ HBX.out Tryd.underlying32 rfl size32d ?_
  refine wpList_store_mid rfl 32 (.tmp 2) (.tmp 15) rfl (g + 1) 0 v.cells.toArray rfl rfl HTH.out size32d (all_oneCell_toArray (Vt.one v)) ?_
  dsimp only
  rw [← HW7.out]
  go_wp2_with fail
  (try simp only [Exit.inBlock, Exit.then])
  refine bodyPost_ret (results_cell_row (P := Tryd.prog) rfl _ _ (g + 1) 32 _ (0, 0) _ rfl HB7.out Tryd.underlying32 rfl size32d) rfl ?_
  exact ⟨by rw [HC.out], HBL.out⟩
end Go.Proofs.YtmkeckablkccnaaDoor
