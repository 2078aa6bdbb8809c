/- What the adversary knows, in memory: four sets in one block. -/
import Derived.Test.YtigpfaecbmnklaaDoorAdd
import Derived.Test.YtigpfaecbmnklaaDoorSame
import Derived.Test.YtigpfaecbmnklaaDoorKnown
namespace Go.Proofs.YtigpfaecbmnklaaDoor
open Go.RowKit Go.Maps
set_option maxRecDepth 100000

/-- what was learnt and seen: keys, requests, messages, votes -/
structure Kn where
  k : List Ky
  r : List Rq
  m : List (List UInt8)
  v : List (List UInt8)
def Kn.none : Kn := ⟨[], [], [], []⟩
def knC (o : Nat → Option Nat) : Array Value := #[.map (o 0), .map (o 1), .map (o 2), .map (o 3)]
/-- block B, from H on, holds them -/
structure KwAt (H : Nat) (w : World) (B : Nat) (S : Kn) (o : Nat → Option Nat) : Prop where
  box : w.heap[B]? = some (.cells (knC o) 107 (0, 0))
  k : SetIs kyV w 59 (o 0) S.k
  r : SetIs rqV w 27 (o 1) S.r
  m : SetIs stV w 9 (o 2) S.m
  v : SetIs stV w 9 (o 3) S.v
  hB : H ≤ B
  ne : ∀ i b, i < 4 → o i = some b → b ≠ B ∧ H ≤ b
  sep : ∀ i j b, i < 4 → j < 4 → o i = some b → o j = some b → i = j
def Kw (H : Nat) (w : World) (B : Nat) (S : Kn) : Prop := ∃ o, KwAt H w B S o

theorem KwAt.on {H : Nat} {w w' : World} {B : Nat} {S : Kn} {o : Nat → Option Nat} (h : KwAt H w B S o) (hb : Below w.heap.size w w') : KwAt H w' B S o := by
  have hk : Kept (fun _ => False) w w' := Kept.ofBelow hb
  exact ⟨(hb.block B (lt_of_block h.box)).trans h.box, h.k.kept hk (fun _ _ h => h), h.r.kept hk (fun _ _ h => h), h.m.kept hk (fun _ _ h => h), h.v.kept hk (fun _ _ h => h), h.hB, h.ne, h.sep⟩
theorem Kw.on {H : Nat} {w w' : World} {B : Nat} {S : Kn} (h : Kw H w B S) (hb : Below w.heap.size w w') : Kw H w' B S := let ⟨o, ho⟩ := h; ⟨o, ho.on hb⟩

theorem kw_new (w : World) (H : Nat) (hH : H ≤ w.heap.size) : Kw H (w.alloc (.cells #[.map none, .map none, .map none, .map none] 107)) w.heap.size Kn.none :=
  ⟨fun _ => none, ⟨heap_alloc_new _ _, SetIs.nil _ _ _, SetIs.nil _ _ _, SetIs.nil _ _ _, SetIs.nil _ _ _, hH, (fun i b _ e => by cases e), (fun i j b _ _ e => by cases e)⟩⟩

theorem new18 (w : World) : Calls Tryd.prog 18 #[] w fun e w' => e = .returned (.pointer (some ⟨w.heap.size, 0, none⟩)) ∧ w' = w.alloc (.cells #[.map none, .map none, .map none, .map none] 107) := by
  go_enter Tryd.func18, Tryd.ntmps18
  go_wp2
  go_ret
  exact ⟨rfl, rfl⟩

/-- what one of the sets leaves the others -/
theorem added_kept {α : Type} {enc : α → Value} {K : TypeId} {H : Nat} {w w' : World} {B i : Nat} {S : Kn} {o : Nat → Option Nat} {xs : List α} (h : KwAt H w B S o) (ha : Added enc K w w' B i (knC o) (o i) xs) (hi : i < 4) :
    ∃ b, w'.heap[B]? = some (.cells (knC fun j => if j = i then some b else o j) 107 (0, 0)) ∧ SetIs enc w' K (some b) xs ∧ Below H w w' ∧ (∀ j c, j < 4 → (if j = i then some b else o j) = some c → c ≠ B ∧ H ≤ c) ∧
      (∀ j k c, j < 4 → k < 4 → (if j = i then some b else o j) = some c → (if k = i then some b else o k) = some c → j = k) ∧ Kept (fun k => k = B ∨ some k = o i) w w' ∧ (∀ j, j < 4 → j ≠ i → ∀ c, o j = some c → ¬ (c = B ∨ some c = o i)) := by
  obtain ⟨b, h1, h2, h3, h4⟩ := ha
  have hlt : ∀ j c, j < 4 → o j = some c → c < w.heap.size := fun j c hj e => by
    have : j = 0 ∨ j = 1 ∨ j = 2 ∨ j = 3 := by omega
    rcases this with rfl | rfl | rfl | rfl
    · exact h.k.lt e
    · exact h.r.lt e
    · exact h.m.lt e
    · exact h.v.lt e
  have hb : b ≠ B ∧ H ≤ b := by
    rcases h3 with e | e
    · exact h.ne i b hi e
    · have := lt_of_block h.box; have := h.hB; exact ⟨by omega, by omega⟩
  refine ⟨b, ?_, h2, ?_, ?_, ?_, h4, ?_⟩
  · rw [h1]
    congr 2
    have : i = 0 ∨ i = 1 ∨ i = 2 ∨ i = 3 := by omega
    rcases this with rfl | rfl | rfl | rfl <;> rfl
  · exact h4.below (Nat.le_trans h.hB (Nat.le_of_lt (lt_of_block h.box))) (fun k e => by
      rcases e with e | e
      · rw [e]; exact h.hB
      · exact (h.ne i k hi e.symm).2)
  · intro j c hj e
    by_cases hji : j = i
    · rw [if_pos hji] at e; injection e with e; subst e; exact hb
    · rw [if_neg hji] at e; exact h.ne j c hj e
  · intro j k c hj hk ej ek
    by_cases hji : j = i
    · rw [if_pos hji] at ej
      by_cases hki : k = i
      · rw [hji, hki]
      · rw [if_neg hki] at ek
        injection ej with ej
        subst ej
        exfalso
        rcases h3 with e | e
        · exact hki (h.sep k i b hk hi ek e)
        · have := hlt k b hk ek; omega
    · rw [if_neg hji] at ej
      by_cases hki : k = i
      · rw [if_pos hki] at ek
        injection ek with ek
        subst ek
        exfalso
        rcases h3 with e | e
        · exact hji (h.sep j i b hj hi ej e)
        · have := hlt j b hj ej; omega
      · rw [if_neg hki] at ek; exact h.sep j k c hj hk ej ek
  · intro j hj hji c e hc
    rcases hc with hc | hc
    · exact (h.ne j c hj e).1 hc
    · exact hji (h.sep j i c hj hi e hc.symm)

/-- a block of cells that is none of these stays -/
theorem added_stay {α : Type} {enc : α → Value} {K : TypeId} {w w' : World} {B i : Nat} {C : Array Value} {o : Option Nat} {xs ys : List α} (hs : SetIs enc w K o ys) (ha : Added enc K w w' B i C o xs) {g : Nat} {A : Array Value} {t : TypeId} {fr : Nat × Nat} (hg : w.heap[g]? = some (.cells A t fr)) (hne : g ≠ B) : w'.heap[g]? = some (.cells A t fr) := by
  obtain ⟨b, _, _, _, hk⟩ := ha
  rw [hk.block g (lt_of_block hg) ?_]
  · exact hg
  · rintro (e | e)
    · exact hne e
    · obtain ⟨ls, _, _, h3⟩ := hs
      obtain ⟨es, clock, hb, _⟩ := h3 g e.symm
      rw [hg] at hb; cases hb
end Go.Proofs.YtigpfaecbmnklaaDoor
