/- Memory that a call makes for itself: rows of bytes, writers, readers; what is left as it was; append onto such a row. -/
import Derived.Test.YtphakceboohbhaaRows
import Derived.WalkKit
import Derived.WalkSpells
import Derived.WalkLawsBesides
import Derived.OwnWalk
import Derived.Maps.AppendAt
import Derived.Laws.OwnMore
import Derived.Laws.BytesArg
import Derived.OneCell
import Derived.Below
import Derived.Lib.Hide
namespace Go.Proofs.Ytphakceboohbhaa
open Go.RowKit
set_option maxRecDepth 100000

/-- bytes as values -/
def vals (l : List Int) : List Value := l.map (Value.int .u8)
def isByte (x : Int) : Prop := 0 ≤ x ∧ x ≤ 255

theorem vals_one (l : List Int) : ∀ u ∈ vals l, u.oneCell' = true := by
  intro u hu
  obtain ⟨x, _, rfl⟩ := List.mem_map.1 hu
  rfl

/-- the bytes l lie at A, one behind the other (of no bytes nothing is said) -/
def Bytes (w : World) (A : Option Addr) (l : List Int) : Prop := ∀ i, i < l.length → ∃ ad, A = some ad ∧ w.cell? (ad.add i) = some (.int .u8 (l.getD i 0))

/-- the blocks in S aside, what was there is as it was -/
structure Kept (S : Nat → Prop) (w w' : World) : Prop where
  os : w'.os = w.os
  tape : w'.tape = w.tape
  output : w'.output = w.output
  size : w.heap.size ≤ w'.heap.size
  block : ∀ k, k < w.heap.size → ¬ S k → w'.heap[k]? = w.heap[k]?

theorem Kept.refl (S : Nat → Prop) (w : World) : Kept S w w := ⟨rfl, rfl, rfl, Nat.le_refl _, fun _ _ _ => rfl⟩

theorem Kept.trans {S T : Nat → Prop} {a b c : World} (h : Kept S a b) (k : Kept T b c) (hT : ∀ i, i < a.heap.size → T i → S i) : Kept S a c :=
  ⟨k.os.trans h.os, k.tape.trans h.tape, k.output.trans h.output, Nat.le_trans h.size k.size,
    fun i hi hs => (k.block i (Nat.lt_of_lt_of_le hi h.size) (fun ht => hs (hT i hi ht))).trans (h.block i hi hs)⟩

theorem Kept.mono {S T : Nat → Prop} {a b : World} (h : Kept S a b) (hS : ∀ i, i < a.heap.size → S i → T i) : Kept T a b :=
  ⟨h.os, h.tape, h.output, h.size, fun i hi hs => h.block i hi (fun hS' => hs (hS i hi hS'))⟩

theorem Kept.drew {S : Nat → Prop} {a w : World} (h : Kept S a w) : Kept S a w.drew := ⟨h.os, h.tape, h.output, h.size, h.block⟩

theorem Kept.alloc {S : Nat → Prop} {a w : World} (h : Kept S a w) (o : Obj) : Kept S a (w.alloc o) :=
  h.trans (T := fun _ => False) ⟨rfl, rfl, rfl, by simp, fun k hk _ => Below.heap_alloc _ _ _ hk⟩ (fun _ _ h => h.elim)

theorem Kept.setCell {S : Nat → Prop} {a w : World} (h : Kept S a w) (p : Addr) (u : Value) (hp : p.block < a.heap.size → S p.block) : Kept S a (w.setCell p u) :=
  h.trans (T := fun k => k = p.block) ⟨rfl, rfl, rfl, by simp [World.setCell], fun k _ hk => Below.heap_setCell _ _ _ _ hk⟩ (fun i hi e => by subst e; exact hp hi)

theorem Kept.below {S : Nat → Prop} {a w : World} {B : Nat} (h : Kept S a w) (hB : B ≤ a.heap.size) (hS : ∀ k, S k → B ≤ k) : Below B a w :=
  ⟨h.os, h.tape, h.output, h.size, fun k hk => h.block k (by omega) (fun hs => by have := hS k hs; omega)⟩

theorem Kept.ofBelow {S : Nat → Prop} {a w : World} (h : Below a.heap.size a w) : Kept S a w :=
  ⟨h.os, h.tape, h.output, h.size, fun k hk _ => h.block k hk⟩

theorem Kept.ofGrown {a w : World} {row : Option Nat} (h : a.grownBy w row) : Kept (fun k => some k = row) a w :=
  ⟨h.os, h.tape, h.output, h.size, fun k hk hs => h.block k hk hs⟩

/-- what is owned stays owned where its block is kept -/
theorem own_kept {S : Nat → Prop} {w w' : World} {v : Value} {n : Nat} {xs : List Value} (h : w.ownsRow 0 5 1 v n xs) (hk : Kept S w w') (hS : ∀ g, v.ownBlock = some g → ¬ S g) : w'.ownsRow 0 5 1 v n xs := by
  refine ⟨h.1, ?_⟩
  rcases h.2 with hn | ⟨g, cap, cur, rfl, hb, hgg, rest⟩
  · exact .inl hn
  · refine .inr ⟨g, cap, cur, rfl, hb, ?_, rest⟩
    rw [hk.block g (lt_of_block hgg) (hS g rfl)]
    exact hgg

theorem own_lt {w : World} {v : Value} {n : Nat} {xs : List Value} (h : w.ownsRow 0 5 1 v n xs) {g : Nat} (hg : v.ownBlock = some g) : g < w.heap.size := by
  rcases h.2 with ⟨rfl, _⟩ | ⟨g', cap, cur, rfl, hb, hgg, rest⟩
  · simp [Value.ownBlock] at hg
  · simp [Value.ownBlock] at hg
    subst hg
    exact lt_of_block hgg

theorem own_form {w : World} {v : Value} {n : Nat} {xs : List Value} (h : w.ownsRow 0 5 1 v n xs) : ∃ ao cap, v = .slice ao n cap ∧ (ao = none → n = 0 ∧ cap = 0) := by
  rcases h.2 with ⟨rfl, rfl⟩ | ⟨g', cap, cur, rfl, hb, hgg, rest⟩
  · exact ⟨none, 0, rfl, fun _ => ⟨rfl, rfl⟩⟩
  · exact ⟨_, cap, rfl, fun h => by cases h⟩

theorem own_bytes {w : World} {ao : Option Addr} {n cap : Nat} {l : List Int} (h : w.ownsRow 0 5 1 (.slice ao n cap) n (vals l)) : Bytes w ao l := by
  intro i hi
  rcases h.2 with ⟨hv, hn⟩ | ⟨g', cap, cur, hv, hb, hgg, rest⟩
  · have := h.1; simp [vals] at this; omega
  · injection hv with hv; subst hv
    refine ⟨_, rfl, h.cells (g := g') rfl i _ ?_⟩
    simp [vals, List.getElem?_eq_getElem hi]

theorem cell_block {w : World} {a : Addr} {v : Value} (h : w.cell? a = some v) : a.block < w.heap.size := by
  rcases Nat.lt_or_ge a.block w.heap.size with h' | h'
  · exact h'
  · simp [World.cell?, Array.getElem?_eq_none h'] at h

theorem add_block (ad : Addr) (i : Nat) : (ad.add i).block = ad.block := by unfold Addr.add; split <;> rfl

theorem bytes_lt {w : World} {ad : Addr} {l : List Int} (h : Bytes w (some ad) l) (hl : 0 < l.length) : ad.block < w.heap.size := by
  obtain ⟨ad', e, hc⟩ := h 0 hl
  injection e with e; subst e
  have := cell_block hc
  rwa [add_block] at this

theorem bytes_kept {S : Nat → Prop} {w w' : World} {ao : Option Addr} {l : List Int} (h : Bytes w ao l) (hk : Kept S w w') (hS : ∀ ad, ao = some ad → 0 < l.length → ¬ S ad.block) : Bytes w' ao l := by
  intro i hi
  obtain ⟨ad, e, hc⟩ := h i hi
  refine ⟨ad, e, ?_⟩
  have h2 := hS ad e (by omega)
  have hb := add_block ad i
  have h1 := cell_block hc
  rw [← hc]
  exact World.cell?_of_block (hk.block _ h1 (by rw [hb]; exact h2))

theorem byte_info : (Try.prog.info? 5).map (fun i => (i.zero, i.size, i.bytes)) = some (some (.int .u8 0), 1, 1) := by kernel_rfl

/-- append of bytes onto a row that the call made -/
theorem wpList_app {ops : Array Oper} {rest : List Oper} {o : Oper} {a : Act} {Q : Exit → Act → World → Prop} (w : World) (hgd : o.guard = none) (s x : Operand)
    (ho : o.op = .call { callee := .builtin .append, args := #[s, x], argTypes := #[43, 43] })
    (v : Value) (n : Nat) (xs : List Int) (hs : a.eval s = v) (hown : w.ownsRow 0 5 1 v n (vals xs))
    (ao : Option Addr) (m c : Nat) (news : List Int) (hx : a.eval x = .slice ao m c) (hl : news.length = m) (hb : Bytes w ao news) (hnone : ao = none → m = 0 ∧ c = 0)
    (hbig : n + m ≤ 10000000)
    (hK : ∀ ao' cap' w', w'.ownsRow 0 5 1 (.slice ao' (n + m) cap') (n + m) (vals (xs ++ news)) → Kept (fun k => some k = v.ownBlock) w w' →
      ((Value.slice ao' (n + m) cap').ownBlock = v.ownBlock ∨ (Value.slice ao' (n + m) cap').ownBlock = some w.heap.size) → wpList Try.prog ops Q rest (a.put o.dst (.slice ao' (n + m) cap')) w') :
    wpList Try.prog ops Q (o :: rest) a w := by
  obtain ⟨i0, hi0, hz0, hz1, hz2⟩ := info_parts byte_info
  cases ao with
  | none =>
    obtain ⟨rfl, rfl⟩ := hnone rfl
    obtain rfl : news = [] := List.eq_nil_of_length_eq_zero hl
    refine wpList_plain hgd fun K hK' => ?_
    have hrun := run_append_owned_none (P := Try.prog) (w := w) 0 43 o.type 5 i0 1 Try.underlying43 hi0 v n (vals xs) hown
    obtain ⟨ao', cap', rfl, _⟩ := own_form hown
    unfold Oper.wp
    simp [execOp, ho, resolve, invoke, builtin, hs, hx, hrun, Result.andThen]
    exact hK' _ _ (hK ao' cap' w (by simpa using hown) (Kept.refl _ _) (.inl rfl))
  | some ad =>
    refine wpList_plain hgd fun K hK' => ?_
    obtain ⟨v', w', hrun, h2, h3, _, h5⟩ := run_append_own_at (P := Try.prog) w 0 43 o.type 5 i0 _ 1 1 Try.underlying43 hi0 hz0 hz1 hz2 rfl (by omega) v n (vals xs) hown ad m c (vals news) (by simp [vals, hl]) (by
      intro j u hu
      obtain ⟨hj, rfl⟩ := List.getElem?_eq_some_iff.1 hu
      simp only [vals, List.length_map] at hj
      obtain ⟨ad', e1, e2⟩ := hb j hj
      injection e1 with e1; subst e1
      rw [e2]; simp [vals, List.getElem?_eq_getElem hj]) (vals_one news) (by simp only [maxLen]; omega) (by omega) (Nat.zero_le _)
    have hv : vals xs ++ vals news = vals (xs ++ news) := by simp [vals]
    rw [hv] at h2
    obtain ⟨ao', cap', rfl, _⟩ := own_form h2
    unfold Oper.wp
    simp [execOp, ho, resolve, invoke, builtin, hs, hx, hrun, Result.andThen]
    exact hK' _ _ (hK ao' cap' w' h2 (Kept.ofGrown h3) h5)

/-- at block B lies a writer that has written xs; its row is g -/
def Wr (w : World) (B : Nat) (g : Option Nat) (xs : List Int) : Prop :=
  ∃ ao n cap, w.heap[B]? = some (.cells #[.slice ao n cap] 80 (0, 0)) ∧ w.ownsRow 0 5 1 (.slice ao n cap) n (vals xs) ∧ (Value.slice ao n cap).ownBlock = g ∧ g ≠ some B

/-- what a call on such a writer leaves: xs is written now; nothing but the writer and its row has changed -/
def Wrote (w : World) (B : Nat) (g : Option Nat) (xs : List Int) (w' : World) : Prop :=
  ∃ g', Wr w' B g' xs ∧ Kept (fun k => k = B ∨ some k = g) w w' ∧ (g' = g ∨ ∃ k, g' = some k ∧ w.heap.size ≤ k)

theorem Wr.lt {w : World} {B : Nat} {g : Option Nat} {xs : List Int} (h : Wr w B g xs) : B < w.heap.size := by
  obtain ⟨ao, n, cap, hb, _⟩ := h
  exact lt_of_block hb

theorem Wrote.trans {w w1 w2 : World} {B : Nat} {g : Option Nat} {xs : List Int} {g1 : Option Nat} (hk : Kept (fun k => k = B ∨ some k = g) w w1) (hg : g1 = g ∨ ∃ k, g1 = some k ∧ w.heap.size ≤ k) (h2 : Wrote w1 B g1 xs w2) : Wrote w B g xs w2 := by
  obtain ⟨g2, hw, hk2, hg2⟩ := h2
  refine ⟨g2, hw, hk.trans hk2 ?_, ?_⟩
  · intro i hi hs
    rcases hs with rfl | hs
    · exact .inl rfl
    · rcases hg with rfl | ⟨k, rfl, hk'⟩
      · exact .inr hs
      · injection hs with hs; omega
  · rcases hg2 with rfl | ⟨k, rfl, hk'⟩
    · exact hg
    · exact .inr ⟨k, rfl, Nat.le_trans hk.size hk'⟩

theorem Wr.kept {S : Nat → Prop} {w w' : World} {B : Nat} {g : Option Nat} {xs : List Int} (h : Wr w B g xs) (hk : Kept S w w') (hB : ¬ S B) (hg : ∀ k, g = some k → ¬ S k) : Wr w' B g xs := by
  obtain ⟨ao, n, cap, hb, ho, h1, h2⟩ := h
  refine ⟨ao, n, cap, ?_, own_kept ho hk (fun k e => hg k (h1 ▸ e)), h1, h2⟩
  rw [hk.block B (lt_of_block hb) hB]; exact hb

/-- a writer's value is stored again: what the methods end with -/
theorem wrote_of {w w1 : World} {B n cap : Nat} {ao : Option Addr} {g : Option Nat} {xs : List Int} {u : Value} (hb : w1.heap[B]? = some (.cells #[u] 80 (0, 0)))
    (ho : w1.ownsRow 0 5 1 (.slice ao n cap) n (vals xs)) (hk : Kept (fun k => k = B ∨ some k = g) w w1) (hg : (Value.slice ao n cap).ownBlock = g ∨ ∃ k, (Value.slice ao n cap).ownBlock = some k ∧ w.heap.size ≤ k)
    (hB : B < w.heap.size) (hne : g ≠ some B) : Wrote w B g xs (w1.setCell ⟨B, 0, none⟩ (.slice ao n cap)) := by
  have hne' : (Value.slice ao n cap).ownBlock ≠ some B := by
    rcases hg with e | ⟨k, e, hk'⟩
    · rw [e]; exact hne
    · rw [e]; intro e'; injection e' with e'; omega
  refine ⟨_, ⟨ao, n, cap, one_setCell hb, ownsRow_setCell_other ho hne' _, rfl, hne'⟩, hk.setCell _ _ (fun _ => .inl rfl), hg⟩
end Go.Proofs.Ytphakceboohbhaa
