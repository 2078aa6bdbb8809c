/- Memory that a call makes for itself: rows of bytes; what is left as it was; append onto such a row; a copy of bytes; bytes as a string. -/
import Derived.Test.YteognfhlpmpckaaRows
import Derived.WalkKit
import Derived.WalkSpells
import Derived.WalkLawsBesides
import Derived.OwnWalk
import Derived.Maps.AppendAt
import Derived.Laws.OwnMore
import Derived.Laws.BytesArg
import Derived.OneCell
import Derived.Below
import Derived.Laws.CopyOwn
import Derived.Deep.RegionWith
import Derived.Lib.Hide
namespace Go.Proofs.Yteognfhlpmpckaa
open Go.RowKit
set_option maxRecDepth 100000

/-- bytes as values -/
def vals (l : List Int) : List Value := l.map (Value.int .u8)
def isByte (x : Int) : Prop := 0 ≤ x ∧ x ≤ 255

theorem vals_one (l : List Int) : ∀ u ∈ vals l, u.oneCell' = true := by
  intro u hu
  obtain ⟨x, _, rfl⟩ := List.mem_map.1 hu
  rfl

/-- the bytes l lie at A, one behind the other (of no bytes nothing is said) -/
def Bytes (w : World) (A : Option Addr) (l : List Int) : Prop := ∀ i, i < l.length → ∃ ad, A = some ad ∧ w.cell? (ad.add i) = some (.int .u8 (l.getD i 0))

/-- the blocks in S aside, what was there is as it was -/
structure Kept (S : Nat → Prop) (w w' : World) : Prop where
  os : w'.os = w.os
  tape : w'.tape = w.tape
  output : w'.output = w.output
  size : w.heap.size ≤ w'.heap.size
  block : ∀ k, k < w.heap.size → ¬ S k → w'.heap[k]? = w.heap[k]?

theorem Kept.refl (S : Nat → Prop) (w : World) : Kept S w w := ⟨rfl, rfl, rfl, Nat.le_refl _, fun _ _ _ => rfl⟩

theorem Kept.trans {S T : Nat → Prop} {a b c : World} (h : Kept S a b) (k : Kept T b c) (hT : ∀ i, i < a.heap.size → T i → S i) : Kept S a c :=
  ⟨k.os.trans h.os, k.tape.trans h.tape, k.output.trans h.output, Nat.le_trans h.size k.size,
    fun i hi hs => (k.block i (Nat.lt_of_lt_of_le hi h.size) (fun ht => hs (hT i hi ht))).trans (h.block i hi hs)⟩

theorem Kept.mono {S T : Nat → Prop} {a b : World} (h : Kept S a b) (hS : ∀ i, i < a.heap.size → S i → T i) : Kept T a b :=
  ⟨h.os, h.tape, h.output, h.size, fun i hi hs => h.block i hi (fun hS' => hs (hS i hi hS'))⟩

theorem Kept.drew {S : Nat → Prop} {a w : World} (h : Kept S a w) : Kept S a w.drew := ⟨h.os, h.tape, h.output, h.size, h.block⟩

theorem Kept.alloc {S : Nat → Prop} {a w : World} (h : Kept S a w) (o : Obj) : Kept S a (w.alloc o) :=
  h.trans (T := fun _ => False) ⟨rfl, rfl, rfl, by simp, fun k hk _ => Below.heap_alloc _ _ _ hk⟩ (fun _ _ h => h.elim)

theorem Kept.setCell {S : Nat → Prop} {a w : World} (h : Kept S a w) (p : Addr) (u : Value) (hp : p.block < a.heap.size → S p.block) : Kept S a (w.setCell p u) :=
  h.trans (T := fun k => k = p.block) ⟨rfl, rfl, rfl, by simp [World.setCell], fun k _ hk => Below.heap_setCell _ _ _ _ hk⟩ (fun i hi e => by subst e; exact hp hi)

theorem Kept.below {S : Nat → Prop} {a w : World} {B : Nat} (h : Kept S a w) (hB : B ≤ a.heap.size) (hS : ∀ k, S k → B ≤ k) : Below B a w :=
  ⟨h.os, h.tape, h.output, h.size, fun k hk => h.block k (by omega) (fun hs => by have := hS k hs; omega)⟩

theorem Kept.ofBelow {S : Nat → Prop} {a w : World} (h : Below a.heap.size a w) : Kept S a w :=
  ⟨h.os, h.tape, h.output, h.size, fun k hk _ => h.block k hk⟩

theorem Kept.ofGrown {a w : World} {row : Option Nat} (h : a.grownBy w row) : Kept (fun k => some k = row) a w :=
  ⟨h.os, h.tape, h.output, h.size, fun k hk hs => h.block k hk hs⟩

/-- what is owned stays owned where its block is kept -/
theorem own_kept {S : Nat → Prop} {w w' : World} {v : Value} {n : Nat} {xs : List Value} (h : w.ownsRow 0 5 1 v n xs) (hk : Kept S w w') (hS : ∀ g, v.ownBlock = some g → ¬ S g) : w'.ownsRow 0 5 1 v n xs := by
  refine ⟨h.1, ?_⟩
  rcases h.2 with hn | ⟨g, cap, cur, rfl, hb, hgg, rest⟩
  · exact .inl hn
  · refine .inr ⟨g, cap, cur, rfl, hb, ?_, rest⟩
    rw [hk.block g (lt_of_block hgg) (hS g rfl)]
    exact hgg

theorem own_lt {w : World} {v : Value} {n : Nat} {xs : List Value} (h : w.ownsRow 0 5 1 v n xs) {g : Nat} (hg : v.ownBlock = some g) : g < w.heap.size := by
  rcases h.2 with ⟨rfl, _⟩ | ⟨g', cap, cur, rfl, hb, hgg, rest⟩
  · simp [Value.ownBlock] at hg
  · simp [Value.ownBlock] at hg
    subst hg
    exact lt_of_block hgg

theorem own_form {w : World} {v : Value} {n : Nat} {xs : List Value} (h : w.ownsRow 0 5 1 v n xs) : ∃ ao cap, v = .slice ao n cap ∧ (ao = none → n = 0 ∧ cap = 0) := by
  rcases h.2 with ⟨rfl, rfl⟩ | ⟨g', cap, cur, rfl, hb, hgg, rest⟩
  · exact ⟨none, 0, rfl, fun _ => ⟨rfl, rfl⟩⟩
  · exact ⟨_, cap, rfl, fun h => by cases h⟩

theorem own_bytes {w : World} {ao : Option Addr} {n cap : Nat} {l : List Int} (h : w.ownsRow 0 5 1 (.slice ao n cap) n (vals l)) : Bytes w ao l := by
  intro i hi
  rcases h.2 with ⟨hv, hn⟩ | ⟨g', cap, cur, hv, hb, hgg, rest⟩
  · have := h.1; simp [vals] at this; omega
  · injection hv with hv; subst hv
    refine ⟨_, rfl, h.cells (g := g') rfl i _ ?_⟩
    simp [vals, List.getElem?_eq_getElem hi]

theorem cell_block {w : World} {a : Addr} {v : Value} (h : w.cell? a = some v) : a.block < w.heap.size := by
  rcases Nat.lt_or_ge a.block w.heap.size with h' | h'
  · exact h'
  · simp [World.cell?, Array.getElem?_eq_none h'] at h

theorem add_block (ad : Addr) (i : Nat) : (ad.add i).block = ad.block := by unfold Addr.add; split <;> rfl

theorem bytes_lt {w : World} {ad : Addr} {l : List Int} (h : Bytes w (some ad) l) (hl : 0 < l.length) : ad.block < w.heap.size := by
  obtain ⟨ad', e, hc⟩ := h 0 hl
  injection e with e; subst e
  have := cell_block hc
  rwa [add_block] at this

theorem bytes_kept {S : Nat → Prop} {w w' : World} {ao : Option Addr} {l : List Int} (h : Bytes w ao l) (hk : Kept S w w') (hS : ∀ ad, ao = some ad → 0 < l.length → ¬ S ad.block) : Bytes w' ao l := by
  intro i hi
  obtain ⟨ad, e, hc⟩ := h i hi
  refine ⟨ad, e, ?_⟩
  have h2 := hS ad e (by omega)
  have hb := add_block ad i
  have h1 := cell_block hc
  rw [← hc]
  exact World.cell?_of_block (hk.block _ h1 (by rw [hb]; exact h2))

theorem byte_info : (Try.prog.info? 5).map (fun i => (i.zero, i.size, i.bytes)) = some (some (.int .u8 0), 1, 1) := by kernel_rfl

/-- append of bytes onto a row that the call made -/
theorem wpList_app {ops : Array Oper} {rest : List Oper} {o : Oper} {a : Act} {Q : Exit → Act → World → Prop} (w : World) (hgd : o.guard = none) (s x : Operand)
    (ho : o.op = .call { callee := .builtin .append, args := #[s, x], argTypes := #[27, 27] })
    (v : Value) (n : Nat) (xs : List Int) (hs : a.eval s = v) (hown : w.ownsRow 0 5 1 v n (vals xs))
    (ao : Option Addr) (m c : Nat) (news : List Int) (hx : a.eval x = .slice ao m c) (hl : news.length = m) (hb : Bytes w ao news) (hnone : ao = none → m = 0 ∧ c = 0)
    (hbig : n + m ≤ 10000000)
    (hK : ∀ ao' cap' w', w'.ownsRow 0 5 1 (.slice ao' (n + m) cap') (n + m) (vals (xs ++ news)) → Kept (fun k => some k = v.ownBlock) w w' →
      ((Value.slice ao' (n + m) cap').ownBlock = v.ownBlock ∨ (Value.slice ao' (n + m) cap').ownBlock = some w.heap.size) → wpList Try.prog ops Q rest (a.put o.dst (.slice ao' (n + m) cap')) w') :
    wpList Try.prog ops Q (o :: rest) a w := by
  obtain ⟨i0, hi0, hz0, hz1, hz2⟩ := info_parts byte_info
  cases ao with
  | none =>
    obtain ⟨rfl, rfl⟩ := hnone rfl
    obtain rfl : news = [] := List.eq_nil_of_length_eq_zero hl
    refine wpList_plain hgd fun K hK' => ?_
    have hrun := run_append_owned_none (P := Try.prog) (w := w) 0 27 o.type 5 i0 1 Try.underlying27 hi0 v n (vals xs) hown
    obtain ⟨ao', cap', rfl, _⟩ := own_form hown
    unfold Oper.wp
    simp [execOp, ho, resolve, invoke, builtin, hs, hx, hrun, Result.andThen]
    exact hK' _ _ (hK ao' cap' w (by simpa using hown) (Kept.refl _ _) (.inl rfl))
  | some ad =>
    refine wpList_plain hgd fun K hK' => ?_
    obtain ⟨v', w', hrun, h2, h3, _, h5⟩ := run_append_own_at (P := Try.prog) w 0 27 o.type 5 i0 _ 1 1 Try.underlying27 hi0 hz0 hz1 hz2 rfl (by omega) v n (vals xs) hown ad m c (vals news) (by simp [vals, hl]) (by
      intro j u hu
      obtain ⟨hj, rfl⟩ := List.getElem?_eq_some_iff.1 hu
      simp only [vals, List.length_map] at hj
      obtain ⟨ad', e1, e2⟩ := hb j hj
      injection e1 with e1; subst e1
      rw [e2]; simp [vals, List.getElem?_eq_getElem hj]) (vals_one news) (by simp only [maxLen]; omega) (by omega) (Nat.zero_le _)
    have hv : vals xs ++ vals news = vals (xs ++ news) := by simp [vals]
    rw [hv] at h2
    obtain ⟨ao', cap', rfl, _⟩ := own_form h2
    unfold Oper.wp
    simp [execOp, ho, resolve, invoke, builtin, hs, hx, hrun, Result.andThen]
    exact hK' _ _ (hK ao' cap' w' h2 (Kept.ofGrown h3) h5)

theorem str_bytes {w : World} {ao : Option Addr} {c : Nat} {l : List Int} (h : Bytes w ao l) (hnone : ao = none → l = []) : (convert 27 9 (.slice ao l.length c)).run Try.prog w = .ok (.string (strOfNums l)) w := by
  cases ao with
  | none =>
    obtain rfl := hnone rfl
    exact run_convert_bytes_nil w 27 5 Try.underlying27 Try.underlying5 0 c 9 Try.underlying9
  | some ad =>
    have hl : (loadCells ad l.length).run Try.prog w = .ok (l.map (Value.int .u8)).toArray w := by
      have := run_loadCells_list (P := Try.prog) w ad (vals l) (fun j v hj => by
        obtain ⟨hj', rfl⟩ := List.getElem?_eq_some_iff.1 hj
        simp only [vals, List.length_map] at hj'
        obtain ⟨ad', e, h2⟩ := h j hj'
        injection e with e; subst e
        rw [h2]; simp [vals, List.getElem?_eq_getElem hj'])
      simpa [vals] using this
    rw [run_convert_bytes_string w 27 9 5 _ l.length c Try.underlying27 Try.underlying5 Try.underlying9, run_bytesToString w _ l.length c l hl, foldl_push_bytes]
    simp [strOfNums, ByteArray.empty, ByteArray.emptyWithCapacity]
    rfl


/-- the bytes l lie at ao, apart from block B -/
structure Lies (w : World) (B : Nat) (ao : Option Addr) (c : Nat) (l : List Int) : Prop where
  bytes : Bytes w ao l
  none : ao = none → l = [] ∧ c = 0
  fits : l.length ≤ c
  apart : ∀ ad, ao = some ad → ad.block ≠ B

theorem Lies.kept {S : Nat → Prop} {w w' : World} {B : Nat} {ao : Option Addr} {c : Nat} {l : List Int} (h : Lies w B ao c l) (hk : Kept S w w') (hS : ∀ k, S k → k = B) : Lies w' B ao c l :=
  ⟨bytes_kept h.bytes hk (fun ad e _ hs => h.apart ad e (hS _ hs)), h.none, h.fits, h.apart⟩

/-- a row that was made: its bytes -/
theorem bytes_row {w : World} {g : Nat} {l : List Int} {T : TypeId} (h : w.heap[g]? = some (.cells (vals l).toArray T (0, 0))) : Bytes w (some ⟨g, 0, none⟩) l := by
  intro i hi
  refine ⟨_, rfl, ?_⟩
  have e : (⟨g, 0, none⟩ : Addr).add i = ⟨g, i, none⟩ := by unfold Addr.add; split <;> simp_all
  rw [e]
  simp [World.cell?, h, vals, List.getElem?_eq_getElem hi]

theorem byte_size : (Try.prog.info? 5).map (·.size) = some 1 := by kernel_rfl

theorem bytes_below {w w' : World} {ao : Option Addr} {l : List Int} (h : Bytes w ao l) (hk : Below w.heap.size w w') : Bytes w' ao l :=
  bytes_kept h (Kept.ofBelow (S := fun _ => False) hk) (fun _ _ _ h => h)

theorem copy_run (w w1 : World) (ao : Option Addr) (cap : Nat) (l : List Int) (cur : List Value) (hc : w1.heap[w.heap.size]? = some (.cells cur.toArray 5 (0, 0))) (hlen : cur.length = l.length) (hb : Bytes w ao l) (hbel : Below w.heap.size w w1) :
    ∃ w2, (Builtin.copy_ #[27, 27] 3 #[.slice (some ⟨w.heap.size, 0, none⟩) l.length l.length, .slice ao l.length cap]).run Try.prog w1 = .ok (goInt l.length) w2 ∧ w2.heap[w.heap.size]? = some (.cells (vals l).toArray 5 (0, 0)) ∧ Below w.heap.size w w2 := by
  by_cases h0 : l.length = 0
  · obtain rfl : l = [] := List.eq_nil_of_length_eq_zero h0
    obtain rfl : cur = [] := List.eq_nil_of_length_eq_zero hlen
    exact ⟨w1, run_copy_none w1 27 27 3 5 _ _ _ _ _ _ Try.underlying27 byte_size rfl, hc, hbel⟩
  · obtain ⟨ad, rfl, _⟩ := hb 0 (by omega)
    have hb' := bytes_below hb hbel
    have hlv : (vals l).length = l.length := by simp [vals]
    have hrun := run_copy_row (P := Try.prog) w1 27 27 3 5 w.heap.size 0 l.length l.length ad l.length cap cur.toArray 5 (vals l) Try.underlying27 byte_size hc (by rw [hlv]; exact (Nat.min_self _).symm) (by
      intro j v hj
      obtain ⟨hj', rfl⟩ := List.getElem?_eq_some_iff.1 hj
      rw [hlv] at hj'
      obtain ⟨ad', e, h2⟩ := hb' j hj'
      injection e with e; subst e
      rw [h2]; simp [vals, List.getElem?_eq_getElem hj']) (by simp [hlv, hlen]) (vals_one l)
    rw [hlv] at hrun
    have e : (cur.toArray.toList.take 0 ++ vals l ++ cur.toArray.toList.drop (0 + l.length)).toArray = (vals l).toArray := by simp [← hlen]
    rw [e] at hrun
    exact ⟨_, hrun, setRow_heap w1 _ _ _ 5 _ hc, below_setRow hbel (Nat.le_refl _) _⟩

set_option maxHeartbeats 1000000 in
theorem copy_any (w : World) (ao : Option Addr) (cap : Nat) (l : List Int) (hb : Bytes w ao l) (hl : l.length ≤ 1000000) :
    Calls Try.prog 13 #[.slice ao l.length cap] w fun e w' => e = .returned (.slice (some ⟨w.heap.size, 0, none⟩) l.length l.length) ∧ w'.heap[w.heap.size]? = some (.cells (vals l).toArray 5 (0, 0)) ∧ Below w.heap.size w w' := by
  obtain ⟨i0, hi0, hz0, hz1, hz2⟩ := info_parts byte_info
  have HL := Lib.hid hl
  have HB := Lib.hid hb
  clear hl hb
  generalize hm : l.length = m at *
  have HM := Lib.hid hm
  clear hm
  obtain ⟨w1, hmk, ho, hgr⟩ := run_make_full (P := Try.prog) w 0 27 5 i0 _ 1 Try.underlying27 hi0 hz0 hz1 .i64 .i64 m (by have := HL.out; rw [hz2]; omega) (by have := HL.out; simp only [maxLen]; omega) (Nat.zero_le _)
  obtain ⟨cur, hcur, hlen⟩ : ∃ cur : List Value, w1.heap[w.heap.size]? = some (.cells cur.toArray 5 (0, 0)) ∧ cur.length = m := by
    rcases ho.2 with ⟨h, _⟩ | ⟨g, cap, cur, hv, _, hg, _, _, hs, _⟩
    · cases h
    · injection hv with h1 h2 h3
      injection h1 with h1
      injection h1 with h1
      subst h1 h3
      exact ⟨cur.toList, by simpa using hg, by simpa using hs⟩
  have hbel : Below w.heap.size w w1 := (Kept.ofGrown hgr).below (Nat.le_refl _) (fun k h => by cases h)
  have HC := Lib.hid hcur
  have HG := Lib.hid hlen
  have HE := Lib.hid hbel
  clear ho hgr hcur hlen hbel hi0 hz0 hz1 hz2
  obtain ⟨w2, hcp, h2, b2⟩ := copy_run w w1 ao cap l cur HC.out (HG.out.trans HM.out.symm) HB.out HE.out
  rw [HM.out] at hcp
  have H2 := Lib.hid h2
  have B2 := Lib.hid b2
  clear h2 b2
  go_enter Try.func13, Try.ntmps13
  go_wp2_with fail
  go_ret
  exact ⟨rfl, H2.out, B2.out⟩
end Go.Proofs.Yteognfhlpmpckaa
