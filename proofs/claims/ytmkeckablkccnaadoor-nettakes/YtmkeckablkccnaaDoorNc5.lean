/- The bag in memory; New, Len, has; the steps of a region that draws its order. -/
import Derived.Test.YtmkeckablkccnaaDoorNc4
import Derived.Great.BuildSlice
namespace Go.Proofs.YtmkeckablkccnaaDoor
open Go.RowKit
set_option maxRecDepth 100000

/-- a bag at block B, its row at block g, messages without lists in it -/
structure Bg (w : World) (B : Nat) (g : Option Nat) (l : List Mg) (ao : Option Addr) (cap : Nat) : Prop where
  box : w.heap[B]? = some (.cells #[.slice ao l.length cap] 96 (0, 0))
  own : w.ownsRow 0 37 25 (.slice ao l.length cap) l.length (l.flatMap Mg.cells)
  hg : g = (Value.slice ao l.length cap).ownBlock
  ne : g ≠ some B
  nil : ∀ m ∈ l, Mnil m
  len : l.length ≤ 400
def Bag (w : World) (B : Nat) (g : Option Nat) (l : List Mg) : Prop := ∃ ao cap, Bg w B g l ao cap
/-- what a call on it leaves -/
def Gone (w : World) (B : Nat) (g : Option Nat) (w' : World) (g' : Option Nat) : Prop := Kept (fun k => k = B ∨ some k = g) w w' ∧ (g' = g ∨ g' = some w.heap.size ∨ ∃ x, g' = some x ∧ w.heap.size ≤ x)

theorem Bg.kept {S : Nat → Prop} {w w' : World} {B : Nat} {g : Option Nat} {l : List Mg} {ao : Option Addr} {cap : Nat} (h : Bg w B g l ao cap) (hk : Kept S w w') (hB : ¬ S B) (hg : ∀ x, g = some x → ¬ S x) : Bg w' B g l ao cap :=
  ⟨by rw [hk.block B (lt_of_block h.box) hB]; exact h.box, own_kept' h.own hk (fun x e => hg x (by rw [h.hg, e])), h.hg, h.ne, h.nil, h.len⟩
theorem Bg.below {w w' : World} {B : Nat} {g : Option Nat} {l : List Mg} {ao : Option Addr} {cap : Nat} (h : Bg w B g l ao cap) (hb : Below w.heap.size w w') : Bg w' B g l ao cap :=
  h.kept (Kept.ofBelow (S := fun _ => False) hb) (fun e => e) (fun _ _ e => e)
theorem Bg.cell {w : World} {B : Nat} {g : Option Nat} {l : List Mg} {ao : Option Addr} {cap : Nat} (h : Bg w B g l ao cap) : w.cell? ⟨B, 0, none⟩ = some (.slice ao l.length cap) := by rw [cell_of_row _ _ _ _ _ _ h.box]; rfl
theorem Bg.free {w : World} {B : Nat} {g : Option Nat} {l : List Mg} {ao : Option Addr} {cap : Nat} (h : Bg w B g l ao cap) : w.frozen? ⟨B, 0, none⟩ = false := frozen_of_row _ _ _ _ _ h.box
theorem Bag.kept {S : Nat → Prop} {w w' : World} {B : Nat} {g : Option Nat} {l : List Mg} (h : Bag w B g l) (hk : Kept S w w') (hB : ¬ S B) (hg : ∀ x, g = some x → ¬ S x) : Bag w' B g l := by
  obtain ⟨ao, cap, h⟩ := h; exact ⟨ao, cap, h.kept hk hB hg⟩
theorem Bag.below {w w' : World} {B : Nat} {g : Option Nat} {l : List Mg} (h : Bag w B g l) (hb : Below w.heap.size w w') : Bag w' B g l := by
  obtain ⟨ao, cap, h⟩ := h; exact ⟨ao, cap, h.below hb⟩
theorem Bag.lt {w : World} {B : Nat} {g : Option Nat} {l : List Mg} (h : Bag w B g l) : B < w.heap.size ∧ ∀ x, g = some x → x < w.heap.size := by
  obtain ⟨ao, cap, h⟩ := h; exact ⟨lt_of_block h.box, fun x e => own_lt' h.own (by rw [← h.hg, e])⟩
theorem Gone.below {w w' : World} {B : Nat} {g : Option Nat} (hb : Below w.heap.size w w') : Gone w B g w' g := ⟨Kept.ofBelow hb, .inl rfl⟩
theorem Gone.refl {w : World} {B : Nat} {g : Option Nat} : Gone w B g w g := ⟨Kept.refl _ _, .inl rfl⟩
theorem Gone.trans {w w1 w2 : World} {B : Nat} {g g1 g2 : Option Nat} (h1 : Gone w B g w1 g1) (h2 : Gone w1 B g1 w2 g2) : Gone w B g w2 g2 := by
  have hs := h1.1.size
  refine ⟨h1.1.trans h2.1 (fun i hi e => ?_), ?_⟩
  · rcases e with e | e
    · exact .inl e
    · rcases h1.2 with e1 | e1 | ⟨x, e1, hx⟩
      · exact .inr (by rw [e, e1])
      · rw [e1] at e; injection e with e; omega
      · rw [e1] at e; injection e with e; omega
  · rcases h2.2 with e | e | ⟨x, e, hx⟩
    · rw [e]; exact h1.2
    · exact .inr (.inr ⟨_, e, hs⟩)
    · exact .inr (.inr ⟨x, e, by omega⟩)
/-- a block elsewhere -/
theorem Gone.far {w w' : World} {B : Nat} {g g' : Option Nat} (h : Gone w B g w' g') {k : Nat} (hk : k < w.heap.size) (hB : k ≠ B) (hg : g ≠ some k) : w'.heap[k]? = w.heap[k]? ∧ g' ≠ some k := by
  refine ⟨h.1.block k hk (fun e => ?_), fun e => ?_⟩
  · rcases e with e | e
    · exact hB e
    · exact hg e.symm
  · rcases h.2 with e1 | e1 | ⟨x, e1, hx⟩
    · exact hg (by rw [← e1, e])
    · rw [e1] at e; injection e with e; omega
    · rw [e1] at e; injection e with e; omega

theorem new15 (w : World) : Calls Tryd.prog 15 #[] w fun e w' => e = .returned (.pointer (some ⟨w.heap.size, 0, none⟩)) ∧ Bag w' w.heap.size none [] ∧ Below w.heap.size w w' := by
  go_enter Tryd.func15, Tryd.ntmps15
  go_wp2_with fail
  go_ret
  refine ⟨rfl, ⟨none, 0, ⟨heap_alloc_new _ _, World.ownsRow_nil _ _ _ _, rfl, by simp, by simp, by simp⟩⟩, (Below.refl _ _).alloc (Nat.le_refl _) _⟩

theorem len25 (w : World) (B : Nat) (g : Option Nat) (l : List Mg) (h : Bag w B g l) : Calls Tryd.prog 25 #[.pointer (some ⟨B, 0, none⟩)] w fun e w' => e = .returned (.int .i64 l.length) ∧ w' = w := by
  obtain ⟨ao, cap, h⟩ := h
  have q := h.cell
  clear h
  go_enter Tryd.func25, Tryd.ntmps25
  go_wp2_with fail
  go_ret
  exact ⟨rfl, rfl⟩

def inB (i : Int) (n : Nat) : Bool := decide (0 ≤ i) && decide (i < n)
theorem has54 (w : World) (B : Nat) (g : Option Nat) (l : List Mg) (i : Int) (h : Bag w B g l) : Calls Tryd.prog 54 #[.pointer (some ⟨B, 0, none⟩), .int .i64 i] w fun e w' => e = .returned (.bool (inB i l.length)) ∧ w' = w := by
  obtain ⟨ao, cap, h⟩ := h
  have q := h.cell
  clear h
  unfold inB
  generalize l.length = n at *
  by_cases h0 : 0 ≤ i
  · by_cases h1 : i < n
    · have e : (decide (0 ≤ i) && decide (i < (n : Int))) = true := by simp [h0, h1]
      rw [e]
      clear e
      go_enter Tryd.func54, Tryd.ntmps54
      go_wp2_with fail
      go_ret
      exact ⟨rfl, rfl⟩
    · have e : (decide (0 ≤ i) && decide (i < (n : Int))) = false := by simp [h1]
      rw [e]
      clear e
      go_enter Tryd.func54, Tryd.ntmps54
      go_wp2_with fail
      go_ret
      exact ⟨rfl, rfl⟩
  · have e : (decide (0 ≤ i) && decide (i < (n : Int))) = false := by simp [h0]
    rw [e]
    clear e
    go_enter Tryd.func54, Tryd.ntmps54
    go_wp2_with fail
    go_ret
    exact ⟨rfl, rfl⟩

/-- a load, a store, an append as steps -/
theorem wp_ld {ty : TypeId} {p v : Value} {w : World} {o : Oper} {a : Act} {ox : Operand} {K : Act → World → Prop} {Q : Exit → Act → World → Prop} (h : (Instr.loadAt ty p).run Tryd.prog w = .ok v w) (hop : o.op = Op.load ty ox) (hx : a.eval ox = p) (hk : K (a.put o.dst v) w) : o.wp Tryd.prog a w K Q := by
  have e : (execOp a.eval o).run Tryd.prog w = .ok (.value v) w := by
    unfold execOp
    simp [hop, hx, h, Result.andThen]
  unfold Oper.wp
  rw [e]
  exact hk
theorem wp_sto {ty : TypeId} {p v : Value} {w w1 : World} {o : Oper} {a : Act} {ox oy : Operand} {K : Act → World → Prop} {Q : Exit → Act → World → Prop} (h : (Instr.storeAt ty p v).run Tryd.prog w = .ok () w1) (hop : o.op = Op.store ty ox oy) (hx : a.eval ox = p) (hy : a.eval oy = v) (hd : o.dst = none) (hk : K a w1) : o.wp Tryd.prog a w K Q := by
  have e : (execOp a.eval o).run Tryd.prog w = .ok .skip w1 := by
    unfold execOp
    simp [hop, hx, hy, h, Result.andThen]
  unfold Oper.wp
  rw [e, Oper.upon_skip, hd]
  exact hk
theorem fill1 (m : Mg) : Instr.fill (fun i => some (i * 25, 25)) ((Array.range (1 * 25)).map ((Value.agg Vz.toArray).cells[· % (Value.agg Vz.toArray).cells.size]!)) [(0, .agg m.cells.toArray)] = some m.cells.toArray := by
  kernel_rfl
end Go.Proofs.YtmkeckablkccnaaDoor
