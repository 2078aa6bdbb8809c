/- Memory that a call makes for itself: rows of bytes, writers, readers; what is left as it was; append onto such a row. What each function of package wire that writes leaves behind: the bytes that it adds, and that nothing else has changed. What is left to a reader; taking bytes off it; the numbers that two and four bytes make. What each function of package wire that reads returns: the numbers of the bytes, or the error, and what is left then. Writers and readers since a world that stays as it was below; the row of known answers holds. The document's own bytes of a number, appended to a row of the call's own.  -/
import Derived.Test.YtbpfkeeikhhlnaaGreatDoorRows
import Derived.WalkKit
import Derived.WalkSpells
import Derived.WalkLawsBesides
import Derived.OwnWalk
import Derived.Maps.AppendAt
import Derived.Laws.OwnMore
import Derived.Laws.BytesArg
import Derived.OneCell
import Derived.Below
import Derived.Lib.Hide
import Derived.Laws.BitsAllLaws
import Derived.Deep.QuietTactic
import Derived.BigQuiet
import Derived.Deep.RegionWith
import Derived.Laws.StructEq
import Derived.Shelf.SlicesQ.Equal
namespace Go.Proofs.YtbpfkeeikhhlnaaGreatDoor
open Go.RowKit
set_option maxRecDepth 100000

/-- bytes as values -/
def vals (l : List Int) : List Value := l.map (Value.int .u8)
def isByte (x : Int) : Prop := 0 ≤ x ∧ x ≤ 255

theorem vals_one (l : List Int) : ∀ u ∈ vals l, u.oneCell' = true := by
  intro u hu
  obtain ⟨x, _, rfl⟩ := List.mem_map.1 hu
  rfl

/-- the bytes l lie at A, one behind the other (of no bytes nothing is said) -/
def Bytes (w : World) (A : Option Addr) (l : List Int) : Prop := ∀ i, i < l.length → ∃ ad, A = some ad ∧ w.cell? (ad.add i) = some (.int .u8 (l.getD i 0))

/-- the blocks in S aside, what was there is as it was -/
structure Kept (S : Nat → Prop) (w w' : World) : Prop where
  os : w'.os = w.os
  tape : w'.tape = w.tape
  output : w'.output = w.output
  size : w.heap.size ≤ w'.heap.size
  block : ∀ k, k < w.heap.size → ¬ S k → w'.heap[k]? = w.heap[k]?

theorem Kept.refl (S : Nat → Prop) (w : World) : Kept S w w := ⟨rfl, rfl, rfl, Nat.le_refl _, fun _ _ _ => rfl⟩

theorem Kept.trans {S T : Nat → Prop} {a b c : World} (h : Kept S a b) (k : Kept T b c) (hT : ∀ i, i < a.heap.size → T i → S i) : Kept S a c :=
  ⟨k.os.trans h.os, k.tape.trans h.tape, k.output.trans h.output, Nat.le_trans h.size k.size,
    fun i hi hs => (k.block i (Nat.lt_of_lt_of_le hi h.size) (fun ht => hs (hT i hi ht))).trans (h.block i hi hs)⟩

theorem Kept.mono {S T : Nat → Prop} {a b : World} (h : Kept S a b) (hS : ∀ i, i < a.heap.size → S i → T i) : Kept T a b :=
  ⟨h.os, h.tape, h.output, h.size, fun i hi hs => h.block i hi (fun hS' => hs (hS i hi hS'))⟩

theorem Kept.drew {S : Nat → Prop} {a w : World} (h : Kept S a w) : Kept S a w.drew := ⟨h.os, h.tape, h.output, h.size, h.block⟩

theorem Kept.alloc {S : Nat → Prop} {a w : World} (h : Kept S a w) (o : Obj) : Kept S a (w.alloc o) :=
  h.trans (T := fun _ => False) ⟨rfl, rfl, rfl, by simp, fun k hk _ => Below.heap_alloc _ _ _ hk⟩ (fun _ _ h => h.elim)

theorem Kept.setCell {S : Nat → Prop} {a w : World} (h : Kept S a w) (p : Addr) (u : Value) (hp : p.block < a.heap.size → S p.block) : Kept S a (w.setCell p u) :=
  h.trans (T := fun k => k = p.block) ⟨rfl, rfl, rfl, by simp [World.setCell], fun k _ hk => Below.heap_setCell _ _ _ _ hk⟩ (fun i hi e => by subst e; exact hp hi)

theorem Kept.below {S : Nat → Prop} {a w : World} {B : Nat} (h : Kept S a w) (hB : B ≤ a.heap.size) (hS : ∀ k, S k → B ≤ k) : Below B a w :=
  ⟨h.os, h.tape, h.output, h.size, fun k hk => h.block k (by omega) (fun hs => by have := hS k hs; omega)⟩

theorem Kept.ofBelow {S : Nat → Prop} {a w : World} (h : Below a.heap.size a w) : Kept S a w :=
  ⟨h.os, h.tape, h.output, h.size, fun k hk _ => h.block k hk⟩

theorem Kept.ofGrown {a w : World} {row : Option Nat} (h : a.grownBy w row) : Kept (fun k => some k = row) a w :=
  ⟨h.os, h.tape, h.output, h.size, fun k hk hs => h.block k hk hs⟩

/-- what is owned stays owned where its block is kept -/
theorem own_kept {S : Nat → Prop} {w w' : World} {v : Value} {n : Nat} {xs : List Value} (h : w.ownsRow 0 5 1 v n xs) (hk : Kept S w w') (hS : ∀ g, v.ownBlock = some g → ¬ S g) : w'.ownsRow 0 5 1 v n xs := by
  refine ⟨h.1, ?_⟩
  rcases h.2 with hn | ⟨g, cap, cur, rfl, hb, hgg, rest⟩
  · exact .inl hn
  · refine .inr ⟨g, cap, cur, rfl, hb, ?_, rest⟩
    rw [hk.block g (lt_of_block hgg) (hS g rfl)]
    exact hgg

theorem own_lt {w : World} {v : Value} {n : Nat} {xs : List Value} (h : w.ownsRow 0 5 1 v n xs) {g : Nat} (hg : v.ownBlock = some g) : g < w.heap.size := by
  rcases h.2 with ⟨rfl, _⟩ | ⟨g', cap, cur, rfl, hb, hgg, rest⟩
  · simp [Value.ownBlock] at hg
  · simp [Value.ownBlock] at hg
    subst hg
    exact lt_of_block hgg

theorem own_form {w : World} {v : Value} {n : Nat} {xs : List Value} (h : w.ownsRow 0 5 1 v n xs) : ∃ ao cap, v = .slice ao n cap ∧ (ao = none → n = 0 ∧ cap = 0) := by
  rcases h.2 with ⟨rfl, rfl⟩ | ⟨g', cap, cur, rfl, hb, hgg, rest⟩
  · exact ⟨none, 0, rfl, fun _ => ⟨rfl, rfl⟩⟩
  · exact ⟨_, cap, rfl, fun h => by cases h⟩

theorem own_bytes {w : World} {ao : Option Addr} {n cap : Nat} {l : List Int} (h : w.ownsRow 0 5 1 (.slice ao n cap) n (vals l)) : Bytes w ao l := by
  intro i hi
  rcases h.2 with ⟨hv, hn⟩ | ⟨g', cap, cur, hv, hb, hgg, rest⟩
  · have := h.1; simp [vals] at this; omega
  · injection hv with hv; subst hv
    refine ⟨_, rfl, h.cells (g := g') rfl i _ ?_⟩
    simp [vals, List.getElem?_eq_getElem hi]

theorem cell_block {w : World} {a : Addr} {v : Value} (h : w.cell? a = some v) : a.block < w.heap.size := by
  rcases Nat.lt_or_ge a.block w.heap.size with h' | h'
  · exact h'
  · simp [World.cell?, Array.getElem?_eq_none h'] at h

theorem add_block (ad : Addr) (i : Nat) : (ad.add i).block = ad.block := by unfold Addr.add; split <;> rfl

theorem bytes_lt {w : World} {ad : Addr} {l : List Int} (h : Bytes w (some ad) l) (hl : 0 < l.length) : ad.block < w.heap.size := by
  obtain ⟨ad', e, hc⟩ := h 0 hl
  injection e with e; subst e
  have := cell_block hc
  rwa [add_block] at this

theorem bytes_kept {S : Nat → Prop} {w w' : World} {ao : Option Addr} {l : List Int} (h : Bytes w ao l) (hk : Kept S w w') (hS : ∀ ad, ao = some ad → 0 < l.length → ¬ S ad.block) : Bytes w' ao l := by
  intro i hi
  obtain ⟨ad, e, hc⟩ := h i hi
  refine ⟨ad, e, ?_⟩
  have h2 := hS ad e (by omega)
  have hb := add_block ad i
  have h1 := cell_block hc
  rw [← hc]
  exact World.cell?_of_block (hk.block _ h1 (by rw [hb]; exact h2))

theorem byte_info : (Tryz.prog.info? 5).map (fun i => (i.zero, i.size, i.bytes)) = some (some (.int .u8 0), 1, 1) := by kernel_rfl

/-- append of bytes onto a row that the call made -/
theorem wpList_app {ops : Array Oper} {rest : List Oper} {o : Oper} {a : Act} {Q : Exit → Act → World → Prop} (w : World) (hgd : o.guard = none) (s x : Operand)
    (ho : o.op = .call { callee := .builtin .append, args := #[s, x], argTypes := #[35, 35] })
    (v : Value) (n : Nat) (xs : List Int) (hs : a.eval s = v) (hown : w.ownsRow 0 5 1 v n (vals xs))
    (ao : Option Addr) (m c : Nat) (news : List Int) (hx : a.eval x = .slice ao m c) (hl : news.length = m) (hb : Bytes w ao news) (hnone : ao = none → m = 0 ∧ c = 0)
    (hbig : n + m ≤ 10000000)
    (hK : ∀ ao' cap' w', w'.ownsRow 0 5 1 (.slice ao' (n + m) cap') (n + m) (vals (xs ++ news)) → Kept (fun k => some k = v.ownBlock) w w' →
      ((Value.slice ao' (n + m) cap').ownBlock = v.ownBlock ∨ (Value.slice ao' (n + m) cap').ownBlock = some w.heap.size) → wpList Tryz.prog ops Q rest (a.put o.dst (.slice ao' (n + m) cap')) w') :
    wpList Tryz.prog ops Q (o :: rest) a w := by
  obtain ⟨i0, hi0, hz0, hz1, hz2⟩ := info_parts byte_info
  cases ao with
  | none =>
    obtain ⟨rfl, rfl⟩ := hnone rfl
    obtain rfl : news = [] := List.eq_nil_of_length_eq_zero hl
    refine wpList_plain hgd fun K hK' => ?_
    have hrun := run_append_owned_none (P := Tryz.prog) (w := w) 0 35 o.type 5 i0 1 Tryz.underlying35 hi0 v n (vals xs) hown
    obtain ⟨ao', cap', rfl, _⟩ := own_form hown
    unfold Oper.wp
    simp [execOp, ho, resolve, invoke, builtin, hs, hx, hrun, Result.andThen]
    exact hK' _ _ (hK ao' cap' w (by simpa using hown) (Kept.refl _ _) (.inl rfl))
  | some ad =>
    refine wpList_plain hgd fun K hK' => ?_
    obtain ⟨v', w', hrun, h2, h3, _, h5⟩ := run_append_own_at (P := Tryz.prog) w 0 35 o.type 5 i0 _ 1 1 Tryz.underlying35 hi0 hz0 hz1 hz2 rfl (by omega) v n (vals xs) hown ad m c (vals news) (by simp [vals, hl]) (by
      intro j u hu
      obtain ⟨hj, rfl⟩ := List.getElem?_eq_some_iff.1 hu
      simp only [vals, List.length_map] at hj
      obtain ⟨ad', e1, e2⟩ := hb j hj
      injection e1 with e1; subst e1
      rw [e2]; simp [vals, List.getElem?_eq_getElem hj]) (vals_one news) (by simp only [maxLen]; omega) (by omega) (Nat.zero_le _)
    have hv : vals xs ++ vals news = vals (xs ++ news) := by simp [vals]
    rw [hv] at h2
    obtain ⟨ao', cap', rfl, _⟩ := own_form h2
    unfold Oper.wp
    simp [execOp, ho, resolve, invoke, builtin, hs, hx, hrun, Result.andThen]
    exact hK' _ _ (hK ao' cap' w' h2 (Kept.ofGrown h3) h5)

/-- at block B lies a writer that has written xs; its row is g -/
def Wr (w : World) (B : Nat) (g : Option Nat) (xs : List Int) : Prop :=
  ∃ ao n cap, w.heap[B]? = some (.cells #[.slice ao n cap] 107 (0, 0)) ∧ w.ownsRow 0 5 1 (.slice ao n cap) n (vals xs) ∧ (Value.slice ao n cap).ownBlock = g ∧ g ≠ some B

/-- what a call on such a writer leaves: xs is written now; nothing but the writer and its row has changed -/
def Wrote (w : World) (B : Nat) (g : Option Nat) (xs : List Int) (w' : World) : Prop :=
  ∃ g', Wr w' B g' xs ∧ Kept (fun k => k = B ∨ some k = g) w w' ∧ (g' = g ∨ ∃ k, g' = some k ∧ w.heap.size ≤ k)

theorem Wr.lt {w : World} {B : Nat} {g : Option Nat} {xs : List Int} (h : Wr w B g xs) : B < w.heap.size := by
  obtain ⟨ao, n, cap, hb, _⟩ := h
  exact lt_of_block hb

theorem Wrote.trans {w w1 w2 : World} {B : Nat} {g : Option Nat} {xs : List Int} {g1 : Option Nat} (hk : Kept (fun k => k = B ∨ some k = g) w w1) (hg : g1 = g ∨ ∃ k, g1 = some k ∧ w.heap.size ≤ k) (h2 : Wrote w1 B g1 xs w2) : Wrote w B g xs w2 := by
  obtain ⟨g2, hw, hk2, hg2⟩ := h2
  refine ⟨g2, hw, hk.trans hk2 ?_, ?_⟩
  · intro i hi hs
    rcases hs with rfl | hs
    · exact .inl rfl
    · rcases hg with rfl | ⟨k, rfl, hk'⟩
      · exact .inr hs
      · injection hs with hs; omega
  · rcases hg2 with rfl | ⟨k, rfl, hk'⟩
    · exact hg
    · exact .inr ⟨k, rfl, Nat.le_trans hk.size hk'⟩

theorem Wr.kept {S : Nat → Prop} {w w' : World} {B : Nat} {g : Option Nat} {xs : List Int} (h : Wr w B g xs) (hk : Kept S w w') (hB : ¬ S B) (hg : ∀ k, g = some k → ¬ S k) : Wr w' B g xs := by
  obtain ⟨ao, n, cap, hb, ho, h1, h2⟩ := h
  refine ⟨ao, n, cap, ?_, own_kept ho hk (fun k e => hg k (h1 ▸ e)), h1, h2⟩
  rw [hk.block B (lt_of_block hb) hB]; exact hb

/-- a writer's value is stored again: what the methods end with -/
theorem wrote_of {w w1 : World} {B n cap : Nat} {ao : Option Addr} {g : Option Nat} {xs : List Int} {u : Value} (hb : w1.heap[B]? = some (.cells #[u] 107 (0, 0)))
    (ho : w1.ownsRow 0 5 1 (.slice ao n cap) n (vals xs)) (hk : Kept (fun k => k = B ∨ some k = g) w w1) (hg : (Value.slice ao n cap).ownBlock = g ∨ ∃ k, (Value.slice ao n cap).ownBlock = some k ∧ w.heap.size ≤ k)
    (hB : B < w.heap.size) (hne : g ≠ some B) : Wrote w B g xs (w1.setCell ⟨B, 0, none⟩ (.slice ao n cap)) := by
  have hne' : (Value.slice ao n cap).ownBlock ≠ some B := by
    rcases hg with e | ⟨k, e, hk'⟩
    · rw [e]; exact hne
    · rw [e]; intro e'; injection e' with e'; omega
  refine ⟨_, ⟨ao, n, cap, one_setCell hb, ownsRow_setCell_other ho hne' _, rfl, hne'⟩, hk.setCell _ _ (fun _ => .inl rfl), hg⟩

theorem bytes_new (w : World) (l : List Int) (t : TypeId) : Bytes (w.alloc (.cells (vals l).toArray t)) (some ⟨w.heap.size, 0, none⟩) l := by
  intro i hi
  refine ⟨_, rfl, ?_⟩
  have hadd : (⟨w.heap.size, 0, none⟩ : Addr).add i = ⟨w.heap.size, i, none⟩ := by unfold Addr.add; split <;> simp_all
  rw [hadd, cell_of_row _ _ i _ _ _ (heap_alloc_new w _)]
  simp [vals, List.getElem?_eq_getElem hi]

/-- a writer's row is appended to and stored again -/
theorem app_done {w w1 w' : World} {B n n' cap cap' : Nat} {ao ao' : Option Addr} {g : Option Nat} {xs' : List Int} (hb1 : w1.heap[B]? = some (.cells #[.slice ao n cap] 107 (0, 0)))
    (hk0 : Kept (fun k => k = B ∨ some k = g) w w1) (hg : (Value.slice ao n cap).ownBlock = g) (hne : g ≠ some B) (hlt : B < w.heap.size)
    (ho' : w'.ownsRow 0 5 1 (.slice ao' n' cap') n' (vals xs')) (hk' : Kept (fun k => some k = (Value.slice ao n cap).ownBlock) w1 w')
    (hg' : (Value.slice ao' n' cap').ownBlock = (Value.slice ao n cap).ownBlock ∨ (Value.slice ao' n' cap').ownBlock = some w1.heap.size) :
    w'.heap[B]? = some (.cells #[.slice ao n cap] 107 (0, 0)) ∧ Wrote w B g xs' (w'.setCell ⟨B, 0, none⟩ (.slice ao' n' cap')) := by
  have hb' : w'.heap[B]? = some (.cells #[.slice ao n cap] 107 (0, 0)) := by
    rw [hk'.block B (lt_of_block hb1) (by rw [hg]; exact fun e => hne e.symm)]; exact hb1
  refine ⟨hb', wrote_of hb' ho' (hk0.trans hk' (fun i _ e => .inr (e.trans hg))) ?_ hlt hne⟩
  rcases hg' with e | e
  · exact .inl (e.trans hg)
  · exact .inr ⟨_, e, hk0.size⟩

/-- the same where a new row holds what is appended -/
theorem app_new {w w' : World} {o : Obj} {B n n' cap cap' : Nat} {ao ao' : Option Addr} {g : Option Nat} {xs' : List Int} (hb : w.heap[B]? = some (.cells #[.slice ao n cap] 107 (0, 0)))
    (hg : (Value.slice ao n cap).ownBlock = g) (hne : g ≠ some B)
    (ho' : w'.ownsRow 0 5 1 (.slice ao' n' cap') n' (vals xs')) (hk' : Kept (fun k => some k = (Value.slice ao n cap).ownBlock) (w.alloc o) w')
    (hg' : (Value.slice ao' n' cap').ownBlock = (Value.slice ao n cap).ownBlock ∨ (Value.slice ao' n' cap').ownBlock = some (w.alloc o).heap.size) :
    w'.heap[B]? = some (.cells #[.slice ao n cap] 107 (0, 0)) ∧ Wrote w B g xs' (w'.setCell ⟨B, 0, none⟩ (.slice ao' n' cap')) :=
  app_done (by rw [Below.heap_alloc _ _ _ (lt_of_block hb)]; exact hb) ((Kept.refl _ w).alloc o) hg hne (lt_of_block hb) ho' hk' hg'

set_option maxHeartbeats 1600000 in
theorem u8_any (w : World) (B : Nat) (g : Option Nat) (xs : List Int) (x : Int) (h : Wr w B g xs) (hl : xs.length ≤ 1000000) :
    Calls Tryz.prog 24 #[.pointer (some ⟨B, 0, none⟩), .int .u8 x] w fun e w' => e = .returned (.tuple #[]) ∧ Wrote w B g (xs ++ [x]) w' := by
  obtain ⟨ao, n, cap, hb, ho, hg, hne⟩ := h
  have hn : n ≤ 1000000 := by have := ho.1; simp [vals] at this; omega
  have HB := Lib.hid hb
  have HO := Lib.hid ho
  have HG := Lib.hid hg
  have HN := Lib.hid hne
  have hc := cell_of_one hb
  clear hb ho hg hne
  go_enter Tryz.func24, Tryz.ntmps24
  go_wp2_with (at_builtin
               refine wpList_app _ rfl (.tmp 8) (.tmp 10) rfl (.slice ao n cap) n xs rfl (HO.out.alloc _) (some ⟨w.heap.size, 0, none⟩) 1 1 [x] rfl rfl (bytes_new w [x] 5) (by intro h; cases h) (by omega) ?_
               intro ao' cap' w' ho' hk' hg'
               obtain ⟨hb', hw'⟩ := app_new HB.out HG.out HN.out ho' hk' hg'
               have hc' := cell_of_one hb'
               have hf' := free_of_one hb'
               have HW' := Lib.hid hw'
               clear ho' hk' hg' hb' hw')
  go_end0
  exact ⟨rfl, HW'.out⟩

set_option maxHeartbeats 1600000 in
theorem u16_any (w : World) (B : Nat) (g : Option Nat) (xs : List Int) (x : Int) (h : Wr w B g xs) (hl : xs.length ≤ 1000000) :
    Calls Tryz.prog 94 #[.pointer (some ⟨B, 0, none⟩), .int .u16 x] w fun e w' => e = .returned (.tuple #[]) ∧ Wrote w B g (xs ++ [x / 256 % 256, x % 256]) w' := by
  obtain ⟨ao, n, cap, hb, ho, hg, hne⟩ := h
  have hn : n ≤ 1000000 := by have := ho.1; simp [vals] at this; omega
  have HB := Lib.hid hb
  have HO := Lib.hid ho
  have HG := Lib.hid hg
  have HN := Lib.hid hne
  have hc := cell_of_one hb
  clear hb ho hg hne
  go_enter Tryz.func94, Tryz.ntmps94
  go_wp2_with (at_builtin
               refine wpList_app _ rfl (.tmp 8) (.tmp 14) rfl (.slice ao n cap) n xs rfl (HO.out.alloc _) (some ⟨w.heap.size, 0, none⟩) 2 2 [x / 256 % 256, x % 256] rfl rfl (bytes_new w [x / 256 % 256, x % 256] 5) (by intro h; cases h) (by omega) ?_
               intro ao' cap' w' ho' hk' hg'
               obtain ⟨hb', hw'⟩ := app_new HB.out HG.out HN.out ho' hk' hg'
               have hc' := cell_of_one hb'
               have hf' := free_of_one hb'
               have HW' := Lib.hid hw'
               clear ho' hk' hg' hb' hw')
  go_end0
  exact ⟨rfl, HW'.out⟩

set_option maxHeartbeats 1600000 in
theorem u32_any (w : World) (B : Nat) (g : Option Nat) (xs : List Int) (x : Int) (h : Wr w B g xs) (hl : xs.length ≤ 1000000) :
    Calls Tryz.prog 66 #[.pointer (some ⟨B, 0, none⟩), .int .u32 x] w fun e w' => e = .returned (.tuple #[]) ∧ Wrote w B g (xs ++ [x / 16777216 % 256, x / 65536 % 256, x / 256 % 256, x % 256]) w' := by
  obtain ⟨ao, n, cap, hb, ho, hg, hne⟩ := h
  have hn : n ≤ 1000000 := by have := ho.1; simp [vals] at this; omega
  have HB := Lib.hid hb
  have HO := Lib.hid ho
  have HG := Lib.hid hg
  have HN := Lib.hid hne
  have hc := cell_of_one hb
  clear hb ho hg hne
  go_enter Tryz.func66, Tryz.ntmps66
  go_wp2_with (at_builtin
               refine wpList_app _ rfl (.tmp 8) (.tmp 20) rfl (.slice ao n cap) n xs rfl (HO.out.alloc _) (some ⟨w.heap.size, 0, none⟩) 4 4 [x / 16777216 % 256, x / 65536 % 256, x / 256 % 256, x % 256] rfl rfl (bytes_new w [x / 16777216 % 256, x / 65536 % 256, x / 256 % 256, x % 256] 5) (by intro h; cases h) (by omega) ?_
               intro ao' cap' w' ho' hk' hg'
               obtain ⟨hb', hw'⟩ := app_new HB.out HG.out HN.out ho' hk' hg'
               have hc' := cell_of_one hb'
               have hf' := free_of_one hb'
               have HW' := Lib.hid hw'
               clear ho' hk' hg' hb' hw')
  go_end0
  exact ⟨rfl, HW'.out⟩

set_option maxHeartbeats 1600000 in
theorem unpack_any (x : Int) (w : World) :
    Calls Tryz.prog 95 #[.int .u64 x] w fun e w' => e = .returned (.tuple #[.int .u8 (x / 72057594037927936 % 256), .int .u8 (x / 281474976710656 % 256), .int .u16 (IntKind.u16.wrap (x / 4294967296)), .int .u32 (x % 4294967296)]) ∧ w = w' := by
  go_enter Tryz.func95, Tryz.ntmps95
  go_wp2
  exact bodyPost_ret (v := .tuple #[.int .u8 (x / 72057594037927936 % 256), .int .u8 (x / 281474976710656 % 256), .int .u16 (IntKind.u16.wrap (x / 4294967296)), .int .u32 (x % 4294967296)]) (by simp [results, Tryz.results95, go_sem]) rfl ⟨rfl, rfl⟩

theorem new_any (w : World) :
    Calls Tryz.prog 23 #[] w fun e w' => e = .returned (.pointer (some ⟨w.heap.size, 0, none⟩)) ∧ w.alloc (.cells #[.slice none 0 0] 107) = w' := by
  go_enter Tryz.func23, Tryz.ntmps23
  go_wp2
  go_ret
  exact ⟨rfl, rfl⟩

/-- the eight bytes of x -/
def be8 (x : Int) : List Int := [x / 72057594037927936 % 256, x / 281474976710656 % 256, x / 1099511627776 % 256, x / 4294967296 % 256, x / 16777216 % 256, x / 65536 % 256, x / 256 % 256, x % 256]

theorem be8_parts (x : Int) (xs : List Int) (c d : Int) (hc : c = IntKind.u16.wrap (x / 4294967296)) (hd : d = x % 4294967296) :
    xs ++ [x / 72057594037927936 % 256] ++ [x / 281474976710656 % 256] ++ [c / 256 % 256, c % 256] ++ [d / 16777216 % 256, d / 65536 % 256, d / 256 % 256, d % 256] = xs ++ be8 x := by
  have hw : IntKind.u16.wrap (x / 4294967296) = x / 4294967296 % 65536 := by
    simp [IntKind.wrap, IntKind.signed, IntKind.bits]
  rw [hw] at hc
  subst hc hd
  simp only [be8, List.append_assoc, List.cons_append, List.nil_append, List.append_cancel_left_eq, List.cons.injEq, and_true, true_and]
  omega

set_option maxHeartbeats 1600000 in
theorem u64_any (w : World) (B : Nat) (g : Option Nat) (xs : List Int) (x : Int) (h : Wr w B g xs) (hl : xs.length ≤ 900000) :
    Calls Tryz.prog 68 #[.pointer (some ⟨B, 0, none⟩), .int .u64 x] w fun e w' => e = .returned (.tuple #[]) ∧ Wrote w B g (xs ++ be8 x) w' := by
  have HH := Lib.hid h
  clear h
  go_enter Tryz.func68, Tryz.ntmps68
  go_wp2_with (go_at_call 95; refine (unpack_any _ _).mono ?_; rintro e w' ⟨rfl, rfl⟩)
  refine (u8_any _ _ _ _ _ HH.out (by omega)).mono ?_
  rintro e w1 ⟨rfl, g1, h1, k1, q1⟩
  have H1 := Lib.hid h1
  have K1 := Lib.hid k1
  have Q1 := Lib.hid q1
  clear h1 k1 q1
  go_wp2_with fail
  refine (u8_any _ _ _ _ _ H1.out (by simp; omega)).mono ?_
  rintro e w2 ⟨rfl, g2, h2, k2, q2⟩
  have H2 := Lib.hid h2
  have K2 := Lib.hid k2
  have Q2 := Lib.hid q2
  clear h2 k2 q2
  go_wp2_with fail
  refine (u16_any _ _ _ _ _ H2.out (by simp; omega)).mono ?_
  rintro e w3 ⟨rfl, g3, h3, k3, q3⟩
  have H3 := Lib.hid h3
  have K3 := Lib.hid k3
  have Q3 := Lib.hid q3
  clear h3 k3 q3
  go_wp2_with fail
  refine (u32_any _ _ _ _ _ H3.out (by simp; omega)).mono ?_
  rintro e w4 ⟨rfl, h4⟩
  have H4 := Lib.hid h4
  clear h4
  go_wp2_with fail
  go_end0
  refine ⟨rfl, ?_⟩
  have h := Wrote.trans K1.out Q1.out (Wrote.trans K2.out Q2.out (Wrote.trans K3.out Q3.out H4.out))
  rw [be8_parts x xs _ _ rfl rfl] at h
  exact h

/-- bytes, behind their length -/
def lenBytes (l : List Int) : List Int := [(l.length : Int) / 256 % 256, (l.length : Int) % 256] ++ l

set_option maxHeartbeats 1600000 in
theorem clone_some (w : World) (ad : Addr) (cap : Nat) (l : List Int) (hb : Bytes w (some ad) l) (hl2 : l.length ≤ 1000000) :
    Calls Tryz.prog 71 #[.slice (some ad) l.length cap] w fun e w' => ∃ g c, e = .returned (.slice (some ⟨g, 0, none⟩) l.length c) ∧ w'.ownsRow 0 5 1 (.slice (some ⟨g, 0, none⟩) l.length c) l.length (vals l) ∧ w.heap.size ≤ g ∧ Below w.heap.size w w' := by
  have HC := Lib.hid hb
  clear hb
  generalize hm : l.length = m at *
  have HM := Lib.hid hm
  clear hm
  have hq : ∀ (w : World) (a : Option Addr) (n c n' c' : Nat), (binOp .eql 35 (.slice a n c) (.slice none n' c')).run Tryz.prog w = .ok (.bool a.isNone) w := fun w a n c n' c' => Lib.run_eql_slice_nil w _ _ a n c n' c' Tryz.underlying35
  have HA := Lib.hid (bytes_kept HC.out ((Kept.refl (fun _ => False) w).alloc (.cells #[] 5)) (fun _ _ _ h => h))
  go_enter Tryz.func71, Tryz.ntmps71
  go_wp2_with (at_builtin
               refine wpList_app _ rfl (.tmp 5) (.tmp 6) rfl (.slice (some ⟨w.heap.size, 0, none⟩) 0 0) 0 [] rfl (World.ownsRow_lit w #[] 0 (Nat.zero_le _) (by unfold maxLen; omega) rfl) (some ad) m cap l rfl HM.out HA.out (by intro h; cases h) (by omega) ?_
               intro ao' cap' w' ho' hk' hg'
               rw [Nat.zero_add] at ho' hg' ⊢
               rw [List.nil_append] at ho'
               have HO' := Lib.hid ho'
               have HK' := Lib.hid hk'
               have HG' := Lib.hid hg'
               clear ho' hk' hg')
  go_ret
  have hnn : ao' ≠ none := by
    intro e; subst e
    rcases HG'.out with e | e <;> simp [Value.ownBlock] at e
  rcases HO'.out.2 with ⟨hv, _⟩ | ⟨g', c', cur, hv, _, hgg, rest⟩
  · injection hv with hv; exact absurd hv hnn
  · injection hv with hv _ _
    subst hv
    refine ⟨g', cap', rfl, HO'.out, ?_, ((Kept.refl (fun k => some k = some w.heap.size) w).alloc (.cells #[] 5) |>.trans HK'.out (fun i _ e => e)).below (Nat.le_refl _) (fun k e => by injection e with e; omega)⟩
    rcases HG'.out with e | e
    · simp [Value.ownBlock] at e; omega
    · simp [Value.ownBlock] at e; omega

theorem clone_none (w : World) :
    Calls Tryz.prog 71 #[.slice none 0 0] w fun e w' => e = .returned (.slice none 0 0) ∧ w = w' := by
  have hq : ∀ (w : World) (a : Option Addr) (n c n' c' : Nat), (binOp .eql 35 (.slice a n c) (.slice none n' c')).run Tryz.prog w = .ok (.bool a.isNone) w := fun w a n c n' c' => Lib.run_eql_slice_nil w _ _ a n c n' c' Tryz.underlying35
  go_enter Tryz.func71, Tryz.ntmps71
  go_wp2
  go_ret
  exact ⟨rfl, rfl⟩

/-- a row of bytes that was made since there were H blocks -/
def New (H : Nat) (w : World) (ao : Option Addr) (c : Nat) (l : List Int) : Prop :=
  w.ownsRow 0 5 1 (.slice ao l.length c) l.length (vals l) ∧ ∀ ad, ao = some ad → H ≤ ad.block

theorem clone_any (w : World) (ao : Option Addr) (cap : Nat) (l : List Int) (hb : Bytes w ao l) (hnone : ao = none → l = [] ∧ cap = 0) (hl : l.length ≤ 1000000) :
    Calls Tryz.prog 71 #[.slice ao l.length cap] w fun e w' => ∃ ao' c', e = .returned (.slice ao' l.length c') ∧ New w.heap.size w' ao' c' l ∧ Below w.heap.size w w' := by
  cases ao with
  | none =>
    obtain ⟨rfl, rfl⟩ := hnone rfl
    refine (clone_none w).mono ?_
    rintro e w' ⟨rfl, rfl⟩
    exact ⟨none, 0, rfl, ⟨⟨rfl, .inl ⟨rfl, rfl⟩⟩, fun _ h => by cases h⟩, Below.refl _ _⟩
  | some ad =>
    refine (clone_some w ad cap l hb hl).mono ?_
    rintro e w' ⟨g, c, rfl, ho, hg, hk⟩
    exact ⟨_, c, rfl, ⟨ho, fun a e => by injection e with e; subst e; exact hg⟩, hk⟩

set_option maxHeartbeats 1600000 in
theorem all_any (w : World) (B : Nat) (g : Option Nat) (xs : List Int) (h : Wr w B g xs) (hl : xs.length ≤ 1000000) :
    Calls Tryz.prog 27 #[.pointer (some ⟨B, 0, none⟩)] w fun e w' => ∃ ao' c', e = .returned (.slice ao' xs.length c') ∧ New w.heap.size w' ao' c' xs ∧ Below w.heap.size w w' := by
  obtain ⟨ao, n, cap, hb, ho, hg, hne⟩ := h
  obtain rfl : n = xs.length := by have := ho.1; simp [vals] at this; omega
  have hnone : ao = none → xs = [] ∧ cap = 0 := by
    intro e; subst e
    obtain ⟨ao', c', e, h⟩ := own_form ho
    injection e with e1 e2 e3
    subst e1 e3
    obtain ⟨h1, h2⟩ := h rfl
    exact ⟨List.eq_nil_of_length_eq_zero h1, h2⟩
  have hc := cell_of_one hb
  have C := Lib.hid (clone_any w ao cap xs (own_bytes ho) hnone hl)
  clear hb ho hg hne hnone
  generalize xs.length = n at *
  go_enter Tryz.func27, Tryz.ntmps27
  go_wp2_with fail
  refine C.out.mono ?_
  rintro e w' ⟨ao', c', rfl, hn, hk⟩
  have HN := Lib.hid hn
  have HK := Lib.hid hk
  clear hn hk
  go_wp2_with fail
  go_ret
  exact ⟨ao', c', rfl, HN.out, HK.out⟩

theorem Wr.below {w w' : World} {B : Nat} {g : Option Nat} {xs : List Int} (h : Wr w B g xs) (hk : Below w.heap.size w w') : Wr w' B g xs :=
  h.kept (Kept.ofBelow (S := fun _ => False) hk) (fun h => h) (fun _ _ h => h)

theorem Wrote.bel {w w' : World} {B : Nat} {g : Option Nat} {xs : List Int} {H : Nat} (h : Wrote w B g xs w') (hH : H ≤ w.heap.size) (hB : H ≤ B) (hg : ∀ k, g = some k → H ≤ k) : Below H w w' := by
  obtain ⟨g', _, hk, _⟩ := h
  exact hk.below hH (fun k e => e.elim (fun e => by omega) (fun e => hg k e.symm))

/-- at block R lies a reader that has the bytes l left -/
def Rd (w : World) (R : Nat) (l : List Int) : Prop :=
  ∃ ao cap, w.heap[R]? = some (.cells #[.slice ao l.length cap] 120 (0, 0)) ∧ Bytes w ao l ∧ l.length ≤ cap ∧ (ao = none → cap = 0) ∧ (∀ ad, ao = some ad → 0 < l.length → ad.block ≠ R) ∧ ∀ x ∈ l, isByte x

theorem add_add (ad : Addr) (i j : Nat) : (ad.add i).add j = ad.add (i + j) := by
  unfold Addr.add
  by_cases hi : i = 0
  · subst hi; simp
  · by_cases hj : j = 0
    · subst hj; simp [hi]
    · simp [hi, hj, Nat.add_assoc]

/-- what is left behind the first n bytes -/
theorem rd_drop {w : World} {R : Nat} {l : List Int} {ad : Addr} {cap n : Nat} (hb : w.heap[R]? = some (.cells #[.slice (some ad) l.length cap] 120 (0, 0))) (hB : Bytes w (some ad) l) (hcap : l.length ≤ cap)
    (hne : 0 < l.length → ad.block ≠ R) (hby : ∀ x ∈ l, isByte x) (hn : n ≤ l.length) :
    Rd (w.setCell ⟨R, 0, none⟩ (.slice (some (if cap = n then ad else ad.add n)) (l.length - n) (cap - n))) R (l.drop n) := by
  refine ⟨some (if cap = n then ad else ad.add n), cap - n, ?_, ?_, by simp; omega, (fun h => by cases h), ?_, fun x hx => hby x (List.mem_of_mem_drop hx)⟩
  · rw [List.length_drop]; exact one_setCell hb
  · intro i hi
    rw [List.length_drop] at hi
    have hc : ¬ cap = n := by omega
    refine ⟨_, rfl, ?_⟩
    rw [if_neg hc, add_add]
    obtain ⟨ad', e, h⟩ := hB (n + i) (by omega)
    injection e with e; subst e
    have hne' := hne (by omega)
    rw [World.cell?_of_block (w := w) (Below.heap_setCell _ _ _ _ (by rw [add_block]; exact hne')), h]
    simp [List.getD_eq_getElem?_getD]
  · intro a e hpos
    rw [List.length_drop] at hpos
    injection e with e
    rw [if_neg (by omega)] at e
    rw [← e, add_block]
    exact hne (by omega)

set_option maxHeartbeats 1600000 in
theorem take_raw (w : World) (R : Nat) (ad : Addr) (m cap n : Nat) (hb : w.heap[R]? = some (.cells #[.slice (some ad) m cap] 120 (0, 0))) (hn : n ≤ m) (hm : m ≤ cap) (_hm2 : m ≤ 1000000) :
    Calls Tryz.prog 104 #[.pointer (some ⟨R, 0, none⟩), .int .i64 n] w fun e w' => e = .returned (.slice (some ad) n cap) ∧ w.setCell ⟨R, 0, none⟩ (.slice (some (if cap = n then ad else ad.add n)) (m - n) (cap - n)) = w' := by
  have hc := cell_of_one hb
  have hf := free_of_one hb
  clear hb
  go_enter Tryz.func104, Tryz.ntmps104
  go_wp2
  · go_ret
    exact ⟨rfl, by simp⟩
  · go_ret
    exact ⟨rfl, rfl⟩

set_option maxHeartbeats 1600000 in
theorem take_none (w : World) (R : Nat) (hb : w.heap[R]? = some (.cells #[.slice none 0 0] 120 (0, 0))) :
    Calls Tryz.prog 104 #[.pointer (some ⟨R, 0, none⟩), .int .i64 0] w fun e w' => e = .returned (.slice none 0 0) ∧ w.setCell ⟨R, 0, none⟩ (.slice none 0 0) = w' := by
  have hc := cell_of_one hb
  have hf := free_of_one hb
  clear hb
  go_enter Tryz.func104, Tryz.ntmps104
  go_wp2
  go_ret
  exact ⟨rfl, rfl⟩

theorem take_any (w : World) (R : Nat) (l : List Int) (n : Nat) (h : Rd w R l) (hn : n ≤ l.length) (hl : l.length ≤ 1000000) :
    Calls Tryz.prog 104 #[.pointer (some ⟨R, 0, none⟩), .int .i64 n] w fun e w' => ∃ ao c, e = .returned (.slice ao n c) ∧ n ≤ c ∧ Bytes w' ao (l.take n) ∧ (ao = none → c = 0) ∧ Rd w' R (l.drop n) ∧ Kept (fun k => k = R) w w' := by
  obtain ⟨ao, cap, hb, hB, hcap, hnone, hne, hby⟩ := h
  cases ao with
  | none =>
    obtain rfl := hnone rfl
    obtain rfl : l = [] := List.eq_nil_of_length_eq_zero (by omega)
    obtain rfl : n = 0 := by simpa using hn
    refine (take_none w R hb).mono ?_
    rintro e w' ⟨rfl, rfl⟩
    exact ⟨none, 0, rfl, Nat.le_refl _, fun i h => by simp at h, fun _ => rfl, ⟨none, 0, one_setCell hb, fun i h => by simp at h, Nat.le_refl _, fun _ => rfl, fun _ _ h => by simp at h, fun x hx => by simp at hx⟩, (Kept.refl _ w).setCell _ _ (fun _ => rfl)⟩
  | some ad =>
    refine (take_raw w R ad l.length cap n hb hn hcap hl).mono ?_
    rintro e w' ⟨rfl, rfl⟩
    refine ⟨some ad, cap, rfl, by omega, ?_, fun h => by (cases h), rd_drop hb hB hcap (hne ad rfl) hby hn, (Kept.refl _ w).setCell _ _ (fun _ => rfl)⟩
    intro i hi
    simp only [List.length_take] at hi
    obtain ⟨ad', e, h⟩ := hB i (by omega)
    injection e with e; subst e
    refine ⟨_, rfl, ?_⟩
    rw [World.cell?_of_block (w := w) (Below.heap_setCell _ _ _ _ (by rw [add_block]; exact hne ad rfl (by omega))), h]
    simp [List.getD_eq_getElem?_getD, show i < n from by omega]

theorem Kept.drewN {S : Nat → Prop} {a w : World} (h : Kept S a w) (n : Nat) : Kept S a (w.drewN n) := ⟨h.os, h.tape, h.output, h.size, h.block⟩

theorem Rd.kept {S : Nat → Prop} {w w' : World} {R : Nat} {l : List Int} (h : Rd w R l) (hk : Kept S w w') (hS : ∀ k, k < w.heap.size → ¬ S k) : Rd w' R l := by
  obtain ⟨ao, cap, hb, hB, hcap, hnone, hne, hby⟩ := h
  refine ⟨ao, cap, ?_, bytes_kept hB hk (fun ad e hpos => hS _ (by subst e; exact bytes_lt hB hpos)), hcap, hnone, hne, hby⟩
  rw [hk.block R (lt_of_block hb) (hS R (lt_of_block hb))]; exact hb

theorem Rd.below {w w' : World} {R : Nat} {l : List Int} (h : Rd w R l) (hk : Below w.heap.size w w') : Rd w' R l :=
  h.kept (Kept.ofBelow (S := fun _ => False) hk) (fun _ _ h => h)

theorem Rd.drewN {w : World} {R : Nat} {l : List Int} (h : Rd w R l) (n : Nat) : Rd (w.drewN n) R l :=
  h.kept ((Kept.refl (fun _ => False) w).drewN n) (fun _ _ h => h)

theorem Rd.lt {w : World} {R : Nat} {l : List Int} (h : Rd w R l) : R < w.heap.size := by
  obtain ⟨ao, cap, hb, _⟩ := h
  exact lt_of_block hb

theorem Rd.byte {w : World} {R : Nat} {l : List Int} (h : Rd w R l) (i : Nat) (hi : i < l.length) : isByte (l.getD i 0) := by
  obtain ⟨ao, cap, _, _, _, _, _, hby⟩ := h
  rw [List.getD_eq_getElem?_getD, List.getElem?_eq_getElem hi]
  exact hby _ (List.getElem_mem hi)

theorem bytes_at {w : World} {ao : Option Addr} {l : List Int} (h : Bytes w ao l) (hl : 0 < l.length) : ∃ g off, ao = some ⟨g, off, none⟩ ∧ ∀ i, i < l.length → w.cell? ⟨g, off + i, none⟩ = some (.int .u8 (l.getD i 0)) := by
  obtain ⟨ad, rfl, hc⟩ := h 0 hl
  obtain ⟨g, off, spot⟩ := ad
  have hs : spot = none := by
    cases spot with
    | none => rfl
    | some s =>
      exfalso
      simp only [Addr.add, if_true, World.cell?] at hc
      split at hc <;> simp at hc
  subst hs
  refine ⟨g, off, rfl, fun i hi => ?_⟩
  obtain ⟨ad', e, hc'⟩ := h i hi
  injection e with e; subst e
  rw [← hc']
  congr 1
  unfold Addr.add
  split
  · subst_vars; simp
  · rfl

def rd16 (l : List Int) : Int := l.getD 0 0 * 256 + l.getD 1 0
set_option maxHeartbeats 1600000 in
theorem open_any (w : World) (ao : Option Addr) (cap : Nat) (l : List Int) (hb : Bytes w ao l) (hnone : ao = none → l = [] ∧ cap = 0) (hl : l.length ≤ 1000000) (hby : ∀ x ∈ l, isByte x) :
    Calls Tryz.prog 58 #[.slice ao l.length cap] w fun e w' => ∃ R, e = .returned (.pointer (some ⟨R, 0, none⟩)) ∧ w.heap.size ≤ R ∧ Rd w' R l ∧ Below w.heap.size w w' := by
  have C := Lib.hid (clone_any w ao cap l hb hnone hl)
  have HY := Lib.hid hby
  clear hb hnone hby
  generalize hm : l.length = m at *
  have HM := Lib.hid hm
  clear hm
  go_enter Tryz.func58, Tryz.ntmps58
  go_wp2_with fail
  refine C.out.mono ?_
  rintro e w' ⟨ao', c', rfl, hn, hk⟩
  have HN := Lib.hid hn
  have HK := Lib.hid hk
  clear hn hk
  go_wp2_with fail
  go_ret
  have hle := HK.out.size
  refine ⟨w'.heap.size, rfl, hle, ?_, HK.out.alloc hle _⟩
  obtain ⟨ho, hfr⟩ := HN.out
  have hM := HM.out
  subst hM
  have ho2 := ho
  obtain ⟨ao2, c2, e2, hno⟩ := own_form ho2
  injection e2 with e3 e4 e5
  subst e3 e5
  refine ⟨ao', c', heap_alloc_new _ _, own_bytes (ho.alloc _), ?_, fun e => (hno e).2, ?_, HY.out⟩
  · rcases ho.2 with ⟨_, h0⟩ | ⟨g, c3, cur, hv, _, _, h1, _⟩
    · omega
    · injection hv with _ _ hv; omega
  · intro ad e _
    subst e
    have := own_lt ho (g := ad.block) rfl
    omega

set_option maxHeartbeats 1600000 in
theorem left_any (w : World) (R : Nat) (l : List Int) (h : Rd w R l) :
    Calls Tryz.prog 61 #[.pointer (some ⟨R, 0, none⟩)] w fun e w' => e = .returned (.int .i64 l.length) ∧ w = w' := by
  obtain ⟨ao, cap, hb, _⟩ := h
  have hc := cell_of_one hb
  clear hb
  generalize l.length = m at *
  go_enter Tryz.func61, Tryz.ntmps61
  go_wp2
  go_ret
  exact ⟨rfl, rfl⟩

theorem getD_take (l : List Int) (n i : Nat) (h : i < n) : (l.take n).getD i 0 = l.getD i 0 := by
  simp [List.getD_eq_getElem?_getD, h]

set_option maxHeartbeats 1600000 in
theorem r8_short (w : World) (R : Nat) (l : List Int) (h : Rd w R l) (hl : l.length < 1) :
    Calls Tryz.prog 83 #[.pointer (some ⟨R, 0, none⟩)] w fun e w' => e = .returned (.tuple #[.int .u8 0, .int .i64 20]) ∧ w = w' := by
  obtain ⟨ao, cap, hb, _⟩ := h
  have hc := cell_of_one hb
  clear hb
  generalize l.length = m at *
  go_enter Tryz.func83, Tryz.ntmps83
  go_wp2
  exact bodyPost_ret (v := .tuple #[.int .u8 0, .int .i64 20]) (by simp [results, Tryz.results83, go_sem]) rfl ⟨rfl, rfl⟩

set_option maxHeartbeats 1600000 in
theorem r8_any (w : World) (R : Nat) (l : List Int) (h : Rd w R l) (h1 : 1 ≤ l.length) (hl : l.length ≤ 1000000) :
    Calls Tryz.prog 83 #[.pointer (some ⟨R, 0, none⟩)] w fun e w' => e = .returned (.tuple #[.int .u8 (l.getD 0 0), .int .i64 0]) ∧ Rd w' R (l.drop 1) ∧ Kept (fun k => k = R) w w' := by
  have T := Lib.hid (take_any w R l 1 h h1 hl)
  obtain ⟨x0, hx0⟩ : ∃ x, x = l.getD 0 0 := ⟨_, rfl⟩
  have y0 : isByte x0 := by rw [hx0]; exact h.byte 0 (by omega)
  have HX0 := Lib.hid hx0
  clear hx0
  obtain ⟨ao, cap, hb, _⟩ := h
  have hc := cell_of_one hb
  clear hb
  generalize hm : l.length = m at *
  have HM := Lib.hid hm
  clear hm
  go_enter Tryz.func83, Tryz.ntmps83
  go_wp2_with fail
  refine T.out.mono ?_
  rintro e w' ⟨ao', c', rfl, hc1, hB, hnn, hR, hK⟩
  obtain ⟨g, off, rfl, hcell⟩ := bytes_at hB (by rw [List.length_take, HM.out]; omega)
  have c0 := hcell 0 (by rw [List.length_take, HM.out]; omega)
  rw [getD_take l 1 0 (by omega), ← HX0.out, Nat.add_zero] at c0
  have HR := Lib.hid hR
  have HK := Lib.hid hK
  clear hB hnn hR hK hcell
  go_wp2_with fail
  exact bodyPost_ret (v := .tuple #[.int .u8 x0, .int .i64 0]) (by simp [results, Tryz.results83, go_sem]) rfl ⟨by rw [HX0.out], HR.out, HK.out⟩

theorem str_bytes {w : World} {ao : Option Addr} {c : Nat} {l : List Int} (h : Bytes w ao l) (hnone : ao = none → l = []) : (convert 35 9 (.slice ao l.length c)).run Tryz.prog w = .ok (.string (strOfNums l)) w := by
  cases ao with
  | none =>
    obtain rfl := hnone rfl
    exact run_convert_bytes_nil w 35 5 Tryz.underlying35 Tryz.underlying5 0 c 9 Tryz.underlying9
  | some ad =>
    have hl : (loadCells ad l.length).run Tryz.prog w = .ok (l.map (Value.int .u8)).toArray w := by
      have := run_loadCells_list (P := Tryz.prog) w ad (vals l) (fun j v hj => by
        obtain ⟨hj', rfl⟩ := List.getElem?_eq_some_iff.1 hj
        simp only [vals, List.length_map] at hj'
        obtain ⟨ad', e, h2⟩ := h j hj'
        injection e with e; subst e
        rw [h2]; simp [vals, List.getElem?_eq_getElem hj'])
      simpa [vals] using this
    rw [run_convert_bytes_string w 35 9 5 _ l.length c Tryz.underlying35 Tryz.underlying5 Tryz.underlying9, run_bytesToString w _ l.length c l hl, foldl_push_bytes]
    simp [strOfNums, ByteArray.empty, ByteArray.emptyWithCapacity]
    rfl

theorem New.none {H : Nat} {w : World} {ao : Option Addr} {c : Nat} {l : List Int} (h : New H w ao c l) : ao = none → l = [] ∧ c = 0 := by
  intro e; subst e
  obtain ⟨ao', c', e, h⟩ := own_form h.1
  injection e with e1 e2 e3
  subst e1 e3
  obtain ⟨h1, h2⟩ := h rfl
  exact ⟨List.eq_nil_of_length_eq_zero h1, h2⟩

theorem wr_new (w : World) : Wr (w.alloc (.cells #[.slice none 0 0] 107)) w.heap.size none [] :=
  ⟨none, 0, 0, heap_alloc_new w _, ⟨rfl, .inl ⟨rfl, rfl⟩⟩, rfl, by simp⟩

/-- since w0, of whose blocks those below H are as they were: a writer at B that has written xs -/
def Own (H : Nat) (w0 w : World) (B : Nat) (xs : List Int) : Prop := ∃ g, Wr w B g xs ∧ Below H w0 w ∧ H ≤ B ∧ ∀ k, g = some k → H ≤ k

theorem Own.lt {H : Nat} {w0 w : World} {B : Nat} {xs : List Int} (h : Own H w0 w B xs) : H ≤ w.heap.size := by
  obtain ⟨g, h1, _, h3, _⟩ := h
  exact Nat.le_of_lt (Nat.lt_of_le_of_lt h3 h1.lt)

theorem Own.step {H : Nat} {w0 w w' : World} {B : Nat} {g : Option Nat} {xs xs' : List Int} (_h : Wr w B g xs) (h2 : Below H w0 w) (h3 : H ≤ B) (h4 : ∀ k, g = some k → H ≤ k) (hH : H ≤ w.heap.size) (hw : Wrote w B g xs' w') : Own H w0 w' B xs' := by
  have hb := hw.bel hH h3 h4
  obtain ⟨g', h1', hk, hg⟩ := hw
  refine ⟨g', h1', h2.trans hb, h3, fun k e => ?_⟩
  rcases hg with rfl | ⟨j, e', hj⟩
  · exact h4 k e
  · rw [e'] at e; injection e with e; omega

theorem Own.below {H : Nat} {w0 w w' : World} {B : Nat} {xs : List Int} (h : Own H w0 w B xs) (hk : Below w.heap.size w w') : Own H w0 w' B xs := by
  have hH := h.lt
  obtain ⟨g, h1, h2, h3, h4⟩ := h
  exact ⟨g, h1.below hk, h2.trans (hk.mono hH), h3, h4⟩

theorem Own.bel {H : Nat} {w0 w : World} {B : Nat} {xs : List Int} (h : Own H w0 w B xs) : Below H w0 w := by
  obtain ⟨g, h1, h2, h3, h4⟩ := h
  exact h2

/-- bytes that were there at w0 are there still -/
theorem bytes_below {H : Nat} {w0 w : World} {ao : Option Addr} {l : List Int} (h : Bytes w0 ao l) (hb : Below H w0 w) (hH : w0.heap.size ≤ H) : Bytes w ao l :=
  bytes_kept h (Kept.ofBelow (S := fun _ => False) (hb.mono hH)) (fun _ _ _ h => h)

/-- since w0: a reader at R that has l left -/
def Lft (H : Nat) (w0 w : World) (R : Nat) (l : List Int) : Prop := Rd w R l ∧ Below H w0 w ∧ H ≤ R

theorem Lft.step {H : Nat} {w0 w w' : World} {R : Nat} {l l' : List Int} (h : Lft H w0 w R l) (h1 : Rd w' R l') (hk : Kept (fun k => k = R) w w') : Lft H w0 w' R l' := by
  obtain ⟨h2, h3, h4⟩ := h
  exact ⟨h1, h3.trans (hk.below (Nat.le_of_lt (Nat.lt_of_le_of_lt h4 h2.lt)) (fun k e => by omega)), h4⟩

theorem Lft.drewN {H : Nat} {w0 w : World} {R : Nat} {l : List Int} (h : Lft H w0 w R l) (n : Nat) : Lft H w0 (w.drewN n) R l :=
  h.step (h.1.drewN n) ((Kept.refl _ w).drewN n)

theorem Lft.below {H : Nat} {w0 w w' : World} {R : Nat} {l : List Int} (h : Lft H w0 w R l) (hk : Below w.heap.size w w') : Lft H w0 w' R l := by
  obtain ⟨h2, h3, h4⟩ := h
  exact ⟨h2.below hk, h3.trans (hk.mono (Nat.le_of_lt (Nat.lt_of_le_of_lt h4 h2.lt))), h4⟩

/-- the byte of x that stands m places from the lowest -/
def byteAt (x : Int) (m : Nat) : Int := x / 2 ^ (8 * m) % 256
/-- the lowest m bytes of x, the highest first -/
def be (x : Int) : Nat → List Int
  | 0 => []
  | m + 1 => byteAt x m :: be x m

theorem be_length (x : Int) (m : Nat) : (be x m).length = m := by
  induction m with
  | zero => rfl
  | succ m ih => simp [be, ih]

theorem be_take (x : Int) : ∀ (m j : Nat), j < m → (be x m).take (j + 1) = (be x m).take j ++ [byteAt x (m - 1 - j)] := by
  intro m
  induction m with
  | zero => intro j h; omega
  | succ m ih =>
    intro j h
    cases j with
    | zero => simp [be]
    | succ j =>
      simp only [be, List.take_succ_cons, List.cons_append]
      rw [ih j (by omega), show m + 1 - 1 - (j + 1) = m - 1 - j from by omega]

/-- a row was grown in its place, or laid anew -/
def Grew (w : World) (v v' : Value) : Prop := v'.ownBlock = v.ownBlock ∨ ∃ k, v'.ownBlock = some k ∧ w.heap.size ≤ k

theorem Grew.step {w w1 : World} {v v1 v2 : Value} (h : Grew w v v1) (hk : w.heap.size ≤ w1.heap.size) (h2 : v2.ownBlock = v1.ownBlock ∨ v2.ownBlock = some w1.heap.size) : Grew w v v2 := by
  rcases h2 with e | e
  · rcases h with e1 | ⟨k, e1, hk1⟩
    · exact .inl (e.trans e1)
    · exact .inr ⟨k, e.trans e1, hk1⟩
  · exact .inr ⟨_, e, hk⟩

theorem grew_kept {w w1 w2 : World} {v v1 : Value} (h : Grew w v v1) (hk : Kept (fun k => some k = v.ownBlock) w w1) (hk2 : Kept (fun k => some k = v1.ownBlock) w1 w2) : Kept (fun k => some k = v.ownBlock) w w2 := by
  refine hk.trans hk2 (fun i hi e => ?_)
  rcases h with e1 | ⟨k, e1, hk1⟩
  · exact e.trans e1
  · rw [e1] at e; injection e with e; omega

set_option maxHeartbeats 1600000 in
theorem put1_any (ao : Option Addr) (n cap : Nat) (xs : List Int) (x : Int) (m : Nat) (w : World) (hown : w.ownsRow 0 5 1 (.slice ao n cap) n (vals xs)) (hm : m ≤ 8) (hn : n ≤ 900000) :
    Calls Tryz.prog 29 #[.slice ao n cap, .int .u64 x, .int .i64 m] w fun e w' => ∃ ao' c', e = .returned (.slice ao' (n + m) c') ∧ w'.ownsRow 0 5 1 (.slice ao' (n + m) c') (n + m) (vals (xs ++ be x m)) ∧ Kept (fun k => some k = (Value.slice ao n cap).ownBlock) w w' ∧ Grew w (.slice ao n cap) (.slice ao' (n + m) c') := by
  have HO := Lib.hid hown
  clear hown
  go_enter Tryz.func29, Tryz.ntmps29
  go_wp2_with fail
  go_loopw [0, 7] (fun u i w' => ∃ (j : Nat) (a : Option Addr) (c : Nat), j ≤ m ∧ i = .int .i64 ((m : Int) - 1 - j) ∧ u = .slice a (n + j) c ∧ w'.ownsRow 0 5 1 (.slice a (n + j) c) (n + j) (vals (xs ++ (be x m).take j)) ∧ Kept (fun k => some k = (Value.slice ao n cap).ownBlock) w w' ∧ Grew w (.slice ao n cap) (.slice a (n + j) c)) (fun _ i _ => (intOf i + 1).toNat)
  case atStart => exact ⟨0, ao, cap, by omega, by simp, rfl, by simpa using HO.out, Kept.refl _ _, .inl rfl⟩
  case round =>
    obtain ⟨j, a, c, hj, rfl, rfl, hown, hk, hg⟩ := hrel
    have HO1 := Lib.hid hown
    have HK := Lib.hid hk
    have HG := Lib.hid hg
    clear hown hk hg
    by_cases hlt : j < m
    · have HV := Lib.hid (be_take x m j hlt)
      go_wp2_with (at_builtin
                   refine wpList_app _ rfl (.tmp 14) (.tmp 21) rfl (.slice a (n + j) c) (n + j) _ rfl (HO1.out.alloc _) (some ⟨wr.heap.size, 0, none⟩) 1 1 [byteAt x (m - 1 - j)] rfl rfl (bytes_new wr [byteAt x (m - 1 - j)] 5) (by intro h; cases h) (by omega) ?_
                   intro ao' cap' w' ho' hk' hg'
                   have hk2 := grew_kept HG.out HK.out ((Kept.refl _ wr |>.alloc (.cells #[.int .u8 (byteAt x (m - 1 - j))] 5)).trans hk' (fun _ _ e => e))
                   have hg2 := HG.out.step (w1 := wr.alloc (.cells #[.int .u8 (byteAt x (m - 1 - j))] 5)) (by have := HK.out.size; simp; omega) hg'
                   rw [List.append_assoc, ← HV.out] at ho'
                   have HO2 := Lib.hid ho'
                   have HK2 := Lib.hid hk2
                   have HG2 := Lib.hid hg2
                   clear ho' hk' hg' hk2 hg2)
      exact ⟨⟨j + 1, ao', cap', by omega, by go_num, rfl, HO2.out, HK2.out, HG2.out⟩, by simp [intOf]; omega⟩
    · obtain rfl : j = m := by omega
      go_wp2_with fail
      go_ret
      refine ⟨a, c, rfl, ?_, HK.out, HG.out⟩
      have h := HO1.out
      rw [List.take_of_length_le (by rw [be_length]; omega)] at h
      exact h

/-- a request -/
structure Rq where
  c : Int
  t : Int
  k : Int
  y : Int
  v : Int
deriving DecidableEq

def Rq.cells (r : Rq) : List Value := [.int .u8 r.c, .int .u32 r.t, .int .u8 r.k, .int .u8 r.y, .int .u16 r.v]
def Rq.zero : Rq := ⟨0, 0, 0, 0, 0⟩
/-- P3.1 -/
def Rq.isOp (r : Rq) : Bool := decide (1 ≤ r.k) && (decide (r.k ≤ 3) && (decide (r.y < 64) && (decide (r.k ≠ 2) || decide (r.v = 0))))
def Rq.is (r : Rq) : Bool := decide (r = Rq.zero) || (decide (1 ≤ r.c) && decide (r.c ≤ 4)) && (decide (r.t ≠ 0) && r.isOp)

theorem eql27 (x y : Rq) (w : World) : (binOp .eql 27 (.agg x.cells.toArray) (.agg y.cells.toArray)).run Tryz.prog w = .ok (.bool (decide (x = y))) w := by
  have u5 := Tryz.underlying5; have a5 := Tryz.isAgg5; have z5 := Tryz.sizeOf5
  have u22 := Tryz.underlying22; have a22 := Tryz.isAgg22; have z22 := Tryz.sizeOf22
  have u23 := Tryz.underlying23; have a23 := Tryz.isAgg23; have z23 := Tryz.sizeOf23
  have u25 := Tryz.underlying25; have a25 := Tryz.isAgg25; have z25 := Tryz.sizeOf25
  have hS : Tryz.prog.underlying 27 = some (.struct (Tryz.prog.fieldsOf 27)) := by kernel_rfl
  have hp : Tryz.prog.stoodInHeld 27 = false := by kernel_rfl
  have hS5 : Tryz.prog.underlying 25 = some (.struct (Tryz.prog.fieldsOf 25)) := by kernel_rfl
  have hp5 : Tryz.prog.stoodInHeld 25 = false := by kernel_rfl
  have h25 : ∀ (xs ys : Array Value) (w : World), (Op.equalIn 9999 25 (.agg xs) (.agg ys)).run Tryz.prog w = (Op.eqFields 9998 xs ys (Tryz.prog.fieldsOf 25).toList).run Tryz.prog w := fun xs ys w => by
    rw [show (9999 : Nat) = 9998 + 1 from rfl, run_equalIn_agg w 9998 25 _ _ hS5 hp5]
  simp only [Rq.cells]
  rw [run_eql_struct, show (10000 : Nat) = 9999 + 1 from rfl, run_equalIn_agg w 9999 27 _ _ hS hp]
  simp only [Program.fieldsOf, Tryz.underlying27]
  simp only [Program.fieldsOf, Tryz.underlying25] at h25
  go_simp
  obtain ⟨x1, x2, x3, x4, x5⟩ := x
  obtain ⟨y1, y2, y3, y4, y5⟩ := y
  simp only [Rq.mk.injEq]
  by_cases h1 : x1 = y1 <;> by_cases h2 : x2 = y2 <;> by_cases h3 : x3 = y3 <;> by_cases h4 : x4 = y4 <;> by_cases h5 : x5 = y5 <;> simp [h1, h2, h3, h4, h5]

theorem guard27 : GuardAt Tryz.prog 27 (fun x : Rq => .agg x.cells.toArray) := GuardAt.agg _ (by kernel_rfl)

theorem neq27 (x y : Rq) (w : World) : (binOp .neq 27 (.agg x.cells.toArray) (.agg y.cells.toArray)).run Tryz.prog w = .ok (.bool (!decide (x = y))) w := by
  have h := eql27 x y w
  simp only [binOp] at h ⊢
  generalize Op.equal 27 (Value.agg x.cells.toArray) (Value.agg y.cells.toArray) = m at h ⊢
  simp only [Sem.run_bind] at h ⊢
  cases hm : m.run Tryz.prog w with
  | ok b w1 => rw [hm] at h; simp at h ⊢; obtain ⟨h1, h2⟩ := h; subst h1; subst h2; simp
  | _ => rw [hm] at h; simp at h

theorem isClient_any (c : Int) (w : World) : Calls Tryz.prog 38 #[.int .u8 c] w fun e w' => e = .returned (.bool (decide (1 ≤ c) && decide (c ≤ 4))) ∧ w' = w := by
  by_cases h1 : 1 ≤ c <;> by_cases h2 : c ≤ 4 <;>
  · go_enter Tryz.func38, Tryz.ntmps38
    go_wp2
    go_ret
    refine ⟨?_, rfl⟩
    simp_all

theorem isOp_any (r : Rq) (w : World) : Calls Tryz.prog 39 #[.agg #[.int .u8 r.k, .int .u8 r.y, .int .u16 r.v]] w fun e w' => e = .returned (.bool r.isOp) ∧ w' = w.alloc (.cells #[.int .u8 r.k, .int .u8 r.y, .int .u16 r.v] 25) := by
  obtain ⟨b, hb⟩ : ∃ b, b = r.isOp := ⟨_, rfl⟩
  rw [← hb]
  unfold Rq.isOp at hb
  have HB := Lib.hid hb
  clear hb
  obtain ⟨c, t, k, y, v⟩ := r
  by_cases h1 : 1 ≤ k <;> by_cases h2 : k ≤ 3 <;> by_cases h3 : y < 64 <;> by_cases h4 : k = 2 <;> by_cases h5 : v = 0 <;> try (exfalso; omega)
  all_goals
    go_enter Tryz.func39, Tryz.ntmps39
    go_wp2
    go_ret
    refine ⟨?_, rfl⟩
    have := HB.out
    simp_all

set_option maxHeartbeats 400000 in
theorem isReq_any (r : Rq) (w : World) : Calls Tryz.prog 12 #[.agg r.cells.toArray] w fun e w' => e = .returned (.bool r.is) ∧ Below w.heap.size w w' := by
  have hq := eql27 r Rq.zero
  have hg := fun op a b w => guard27 op a b r Rq.zero w
  simp only [Rq.cells, Rq.zero] at hq hg
  obtain ⟨b, hb⟩ : ∃ b, b = r.is := ⟨_, rfl⟩
  rw [← hb]
  unfold Rq.is Rq.zero at hb
  have HB := Lib.hid hb
  clear hb
  simp only [Rq.cells]
  by_cases h0 : r = ⟨0, 0, 0, 0, 0⟩
  · simp only [h0, decide_true] at hq
    go_enter Tryz.func12, Tryz.ntmps12
    go_wp2_with fail
    go_ret
    refine ⟨?_, (Below.refl _ _).alloc (Nat.le_refl _) _⟩
    have := HB.out
    rw [this]; simp [h0]
  · simp only [h0, decide_false] at hq
    have H0 := Lib.hid h0
    have hO := isOp_any r
    have hC := isClient_any r.c
    generalize r.isOp = o at hO HB
    generalize hc : (decide (1 ≤ r.c) && decide (r.c ≤ 4)) = cb at hC HB
    have HC := Lib.hid hC
    have HO := Lib.hid hO
    clear h0 hO hC hc
    cases cb
    · go_enter Tryz.func12, Tryz.ntmps12
      go_wp2_with fail
      refine Calls.mono (HC.out _) ?_
      rintro e w' ⟨rfl, rfl⟩
      go_wp2_with fail
      go_ret
      refine ⟨?_, (Below.refl _ _).alloc (Nat.le_refl _) _⟩
      rw [HB.out]; simp [H0.out]
    · by_cases ht : r.t = 0
      · simp only [ht] at hq hg
        go_enter Tryz.func12, Tryz.ntmps12
        go_wp2_with fail
        refine Calls.mono (HC.out _) ?_
        rintro e w' ⟨rfl, rfl⟩
        go_wp2_with fail
        go_ret
        refine ⟨?_, (Below.refl _ _).alloc (Nat.le_refl _) _⟩
        rw [HB.out]; simp [H0.out, ht]
      · go_enter Tryz.func12, Tryz.ntmps12
        go_wp2_with fail
        refine Calls.mono (HC.out _) ?_
        rintro e w' ⟨rfl, rfl⟩
        go_wp2_with fail
        refine Calls.mono (HO.out _) ?_
        rintro e w' ⟨rfl, rfl⟩
        go_wp2_with fail
        go_ret
        refine ⟨?_, ((Below.refl _ _).alloc (Nat.le_refl _) _).alloc (by simp) _⟩
        rw [HB.out]; simp [H0.out, ht]
end Go.Proofs.YtbpfkeeikhhlnaaGreatDoor
