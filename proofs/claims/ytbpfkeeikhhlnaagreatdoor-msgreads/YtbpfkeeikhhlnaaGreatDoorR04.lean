/- The document's getList: entries read one behind the other until one ends too early. The document's getVote. -/
import Derived.Test.YtbpfkeeikhhlnaaGreatDoorR03
import Derived.Test.YtbpfkeeikhhlnaaGreatDoorR01
import Derived.Test.YtbpfkeeikhhlnaaGreatDoorR02
namespace Go.Proofs.YtbpfkeeikhhlnaaGreatDoor
open Go.RowKit
set_option maxRecDepth 100000

/-- up to so many, none behind one that ended too early -/
def dL {α : Type} (one : Sr → α × Sr) (s : Sr) : Nat → List α × Sr
  | 0 => ([], s)
  | j + 1 => if (dL one s j).2.f = 0 then ((dL one s j).1 ++ [(one (dL one s j).2).1], (one (dL one s j).2).2) else dL one s j
theorem dL_next {α : Type} {one : Sr → α × Sr} {s : Sr} {j : Nat} (h : (dL one s j).2.f = 0) : dL one s (j + 1) = ((dL one s j).1 ++ [(one (dL one s j).2).1], (one (dL one s j).2).2) := by
  rw [dL, if_pos h]
theorem dL_stop {α : Type} {one : Sr → α × Sr} {s : Sr} {j : Nat} (h : (dL one s j).2.f ≠ 0) : ∀ k, dL one s (j + k) = dL one s j
  | 0 => rfl
  | k + 1 => by
    have ih := dL_stop h k
    rw [← Nat.add_assoc, dL, ih, if_neg h]
theorem dL_end {α : Type} {one : Sr → α × Sr} {s : Sr} {j n : Nat} (h : (dL one s j).2.f ≠ 0) (hj : j ≤ n) : dL one s j = dL one s n := by
  have := dL_stop h (n - j)
  rw [show j + (n - j) = n from by omega] at this
  exact this.symm
/-- a list that the call made, and the reader -/
structure GE (w wr : World) (X : Nat) (e : TypeId) (k : Nat) {α : Type} (enc : α → List Value) (ao : Option Addr) (m c : Nat) (y : List α × Sr) : Prop where
  own : wr.ownsRow 0 e k (.slice ao m c) m (y.1.flatMap enc)
  rd : Ds wr X y.2
  kept : Kept (fun k => k = X) w wr
  new : ∀ g, (Value.slice ao m c).ownBlock = some g → w.heap.size ≤ g
  len : y.1.length = m
  lt : X < w.heap.size
theorem GE.call {w wr w' : World} {X : Nat} {e : TypeId} {k : Nat} {α : Type} {enc : α → List Value} {ao : Option Addr} {m c : Nat} {y : List α × Sr} {s : Sr} (h : GE w wr X e k enc ao m c y) (hd : Ds w' X s) (hk : Kept (fun k => k = X) wr w') : GE w w' X e k enc ao m c (y.1, s) := by
  have h1 := h.lt
  refine ⟨own_kept' h.own hk (fun g hg e => ?_), hd, h.kept.trans hk (fun _ _ e => e), h.new, h.len, h1⟩
  have := h.new g hg; omega
theorem GE.own2 {w wr w' : World} {X : Nat} {e : TypeId} {k : Nat} {α : Type} {enc : α → List Value} {ao : Option Addr} {m c : Nat} {y : List α × Sr} {B : Nat} (h : GE w wr X e k enc ao m c y) (hB : w.heap.size ≤ B) (hne : ∀ g, (Value.slice ao m c).ownBlock = some g → g ≠ B) (hk : Kept (fun k => k = B) wr w') : GE w w' X e k enc ao m c y := by
  have h1 := h.lt
  refine ⟨own_kept' h.own hk (fun g hg e => hne g hg e), h.rd.kept hk (fun k hk e => by omega), h.kept.trans hk (fun i hi e => by omega), h.new, h.len, h1⟩
theorem GE.below {w wr w' : World} {X : Nat} {e : TypeId} {k : Nat} {α : Type} {enc : α → List Value} {ao : Option Addr} {m c : Nat} {y : List α × Sr} (h : GE w wr X e k enc ao m c y) (hk : Below wr.heap.size wr w') : GE w w' X e k enc ao m c y := by
  have h1 := h.lt
  have h2 : Kept (fun _ => False) wr w' := Kept.ofBelow hk
  refine ⟨own_kept' h.own h2 (fun g hg e => e), h.rd.kept h2 (fun k hk e => e), h.kept.trans h2 (fun i hi e => e.elim), h.new, h.len, h1⟩
theorem row_new1 {α : Type} (w : World) (k : Nat) (enc : α → List Value) (x : α) (T : TypeId) (A : Array Value) (hA : A = (enc x).toArray) : Row (w.alloc (.cells A T)) k enc (.slice (some ⟨w.heap.size, 0, none⟩) 1 1) [x] := by
  subst hA
  refine ⟨_, 1, rfl, fun h => (by cases h), by simp, by simp, fun j y hj => ?_⟩
  have hj0 : j = 0 := by
    cases j with
    | zero => rfl
    | succ j => simp at hj
  subst hj0
  simp at hj
  subst hj
  refine ⟨_, _, rfl, fun i u hu => ?_⟩
  rw [cell_of_row _ _ _ _ _ _ (heap_alloc_new w _)]
  simpa using hu
theorem over_en (a b : Int) (r : Rq) : over (⟨a, b, Rq.zero⟩ : En).cells.toArray 2 r.cells.toArray.toList = #[.int .u32 a, .int .u32 b, .int .u8 r.c, .int .u32 r.t, .int .u8 r.k, .int .u8 r.y, .int .u16 r.v] := by
  simp [over, En.cells, Rq.cells]
/-- one more at the end -/
theorem GE.next {w wr w' : World} {X : Nat} {e : TypeId} {k : Nat} {α : Type} {enc : α → List Value} {ao ao' : Option Addr} {m c c' : Nat} {l : List α} {s : Sr} (x : α) (h : GE w wr X e k enc ao m c (l, s))
    (ho : w'.ownsRow 0 e k (.slice ao' (m + 1) c') (m + 1) (l.flatMap enc ++ [x].flatMap enc)) (hk : Kept (fun k => some k = (Value.slice ao m c).ownBlock) wr w') (hg : (Value.slice ao' (m + 1) c').ownBlock = (Value.slice ao m c).ownBlock ∨ (Value.slice ao' (m + 1) c').ownBlock = some wr.heap.size) : GE w w' X e k enc ao' (m + 1) c' (l ++ [x], s) := by
  have h1 := h.lt
  have h2 := h.kept.size
  refine ⟨by rw [List.flatMap_append]; exact ho, h.rd.kept hk (fun k hk e => ?_), h.kept.trans hk (fun i hi e => ?_), fun g hg' => ?_, by simp [h.len], h1⟩
  · have := h.new k e.symm; omega
  · have := h.new i e.symm; omega
  · rcases hg with e | e
    · rw [e] at hg'; exact h.new g hg'
    · rw [e] at hg'; injection hg' with hg'; omega
theorem Ds.short {w : World} {X : Nat} {s : Sr} (h : Ds w X s) : w.cell? ⟨X, 1, none⟩ = some (.bool s.dr.2) := by
  obtain ⟨A, lc, hb, _⟩ := h.rd
  rw [cell_of_row w X 1 _ _ _ hb]
  simp
theorem Ds.short0 {s : Sr} (h : s.f = 0) : s.dr.2 = false := by simp [Sr.dr, h]
theorem Ds.short1 {s : Sr} (h : s.f ≠ 0) : s.dr.2 = true := by simp [Sr.dr, h]

set_option maxHeartbeats 3200000 in
theorem rlist_any (w : World) (X : Nat) (s : Sr) (h : Ds w X s) :
    Calls Tryz.prog 93 #[.pointer (some ⟨X, 0, none⟩)] w fun e w' => ∃ ao m c, e = .returned (.slice ao m c) ∧ GE w w' X 80 7 En.cells ao m c (dL pEn (p8 s).2 (p8 s).1.toNat) := by
  have r1 := p8_in h.ok
  have C1 := rget1 w X s h
  obtain ⟨n, hn⟩ : ∃ n : Nat, (p8 s).1 = (n : Int) := ⟨(p8 s).1.toNat, by omega⟩
  rw [hn, Int.toNat_natCast]
  rw [hn] at r1 C1
  generalize (p8 s).2 = t at *
  have HX := Lib.hid h.lt
  have hn2 : n ≤ 255 := by omega
  clear h hn r1
  have C1 := Lib.hid C1
  go_enter Tryz.func93, Tryz.ntmps93
  go_wp2_with fail
  refine C1.out.mono ?_
  rintro e1 w1 ⟨rfl, d1, k1⟩
  have I0 : Hid (GE w w1 X 80 7 En.cells none 0 0 (dL pEn t 0)) := Lib.hid ⟨⟨by simp [dL], .inl ⟨rfl, rfl⟩⟩, d1, k1, fun g hg => by simp [Value.ownBlock] at hg, rfl, HX.out⟩
  clear d1 k1 C1
  go_wp2_with fail
  go_loopw [3, 5] (fun v3 v5 wr => ∃ (j : Nat) (ao : Option Addr) (m c : Nat), j ≤ n ∧ m ≤ j ∧ v5 = .int .i64 j ∧ v3 = .slice ao m c ∧ Hid (GE w wr X 80 7 En.cells ao m c (dL pEn t j))) (fun _ v5 _ => n - (intOf v5).toNat)
  case atStart => exact ⟨0, none, 0, 0, Nat.zero_le _, Nat.le_refl _, rfl, rfl, I0⟩
  case round =>
    obtain ⟨j, ao, m, c, hj, hm, rfl, rfl, I⟩ := hrel
    clear I0
    have q := I.out.rd.short
    by_cases hlt : j < n
    · by_cases hf : (dL pEn t j).2.f = 0
      · rw [Ds.short0 hf] at q
        have HF := Lib.hid hf
        clear hf
        go_wp2_with fail
        clear q
        obtain ⟨y, hy⟩ : ∃ y, y = dL pEn t j := ⟨_, rfl⟩
        have HY := Lib.hid hy
        rw [← hy] at I HF
        clear hy
        refine (rget4 wr X y.2 I.out.rd).mono ?_
        rintro e2 w2 ⟨rfl, d2, k2⟩
        have r2 := p32_in I.out.rd.ok
        obtain ⟨a, ha⟩ : ∃ a, a = p32 y.2 := ⟨_, rfl⟩
        have HA := Lib.hid ha
        rw [← ha] at d2 r2 ⊢
        have I2 := Lib.hid (I.out.call d2 k2)
        clear ha d2 k2
        go_wp2_with fail
        clear r2
        refine (rget4 w2 X a.2 I2.out.rd).mono ?_
        rintro e3 w3 ⟨rfl, d3, k3⟩
        have r3 := p32_in I2.out.rd.ok
        simp only at r3
        obtain ⟨b, hb⟩ : ∃ b, b = p32 a.2 := ⟨_, rfl⟩
        have HB := Lib.hid hb
        rw [← hb] at d3 r3 ⊢
        have I3 := Lib.hid (I2.out.call d3 k3)
        clear hb d3 k3 I2
        go_wp2_with fail
        clear r3
        obtain ⟨W, hW⟩ : ∃ W, W = w3.alloc (.cells #[.int .u32 a.1, .int .u32 b.1, .int .u8 0, .int .u32 0, .int .u8 0, .int .u8 0, .int .u16 0] 80) := ⟨_, rfl⟩
        have I4 : Hid (GE w W X 80 7 En.cells ao m c (y.1, b.2)) := Lib.hid (I3.out.below (by rw [hW]; exact (Below.refl _ _).alloc (Nat.le_refl _) _))
        have hbx : W.heap[w3.heap.size]? = some (.cells (⟨a.1, b.1, Rq.zero⟩ : En).cells.toArray 80 (0, 0)) := by rw [hW]; exact heap_alloc_new _ _
        have hg1 : w.heap.size ≤ w3.heap.size := I3.out.kept.size
        have hg2 : ∀ g, (Value.slice ao m c).ownBlock = some g → g < w3.heap.size := fun g hg => own_lt' I3.out.own hg
        rw [← hW]
        generalize w3.heap.size = E at *
        clear hW I3
        have hXE : X < E := by have := HX.out; omega
        refine (rreq_any W X b.2 I4.out.rd).mono ?_
        rintro e5 w5 ⟨rfl, d5, k5⟩
        obtain ⟨r, hr⟩ : ∃ r, r = pRq b.2 := ⟨_, rfl⟩
        have HR := Lib.hid hr
        rw [← hr] at d5 ⊢
        have I5 := Lib.hid (I4.out.call d5 k5)
        have hb5 : w5.heap[E]? = some (.cells (⟨a.1, b.1, Rq.zero⟩ : En).cells.toArray 80 (0, 0)) := by rw [k5.block E (lt_of_block hbx) (by omega)]; exact hbx
        have HB5 := Lib.hid hb5
        have ht5 : w5.there E 2 r.1.cells.toArray.size := there_part (n := 7) (there_row hb5 rfl) (by simp [Rq.cells])
        have HT5 := Lib.hid ht5
        have HE := Lib.hid (And.intro hg1 (And.intro hg2 hXE))
        clear hr d5 k5 hbx hb5 ht5 hg1 hg2 hXE I4
        dsimp only
        refine (‹∀ (a : Act) (w : World), wpList Tryz.prog _ _ _ a w → _› _ _ ?_)
        refine wv (.pointer (some ⟨E, 2, none⟩)) w5 (by go_simp) ?_
        refine wpList_store_mid rfl 27 (.tmp 31) (.tmp 30) rfl E 2 r.1.cells.toArray rfl rfl HT5.out (by kernel_rfl) (by simp [Rq.cells, Value.oneCell']) ?_
        have hb6 : (w5.setCells E 2 r.1.cells.toArray.toList).heap[E]? = some (.cells #[.int .u32 a.1, .int .u32 b.1, .int .u8 r.1.c, .int .u32 r.1.t, .int .u8 r.1.k, .int .u8 r.1.y, .int .u16 r.1.v] 80 (0, 0)) := by
          rw [setCells_block E 80 _ 2 _ _ HB5.out, over_en]
        have I6 := Lib.hid (I5.out.own2 (w' := w5.setCells E 2 r.1.cells.toArray.toList) HE.out.1 (fun g hg e => by have := HE.out.2.1 g hg; omega) kept_setCells)
        have HB6 := Lib.hid hb6
        generalize w5.setCells E 2 r.1.cells.toArray.toList = w6 at *
        clear hb6 HB5 HT5 I5
        refine ‹∀ (a : Act) (w : World), Code.wp Tryz.prog (Code.region 8 _ _) _ a w → _› _ _ ?_
        refine wp_region_lit ?_
        refine wv (.slice ao m c) w6 (by go_simp) ?_
        refine wpList_load_row rfl 80 (.tmp 6) rfl E rfl 80 _ (0, 0) _ HB6.out Tryz.underlying80 rfl (by kernel_rfl) ?_
        dsimp only
        refine wv (.slice (some ⟨w6.heap.size, 0, none⟩) 1 1) (w6.alloc (.cells #[.int .u32 a.1, .int .u32 b.1, .int .u8 r.1.c, .int .u32 r.1.t, .int .u8 r.1.k, .int .u8 r.1.y, .int .u16 r.1.v] 80)) (by go_simp) ?_
        have RA := Lib.hid (row_new1 w6 7 En.cells ⟨a.1, b.1, r.1⟩ 80 #[.int .u32 a.1, .int .u32 b.1, .int .u8 r.1.c, .int .u32 r.1.t, .int .u8 r.1.k, .int .u8 r.1.y, .int .u16 r.1.v] rfl)
        have I7 := Lib.hid (I6.out.below (w' := w6.alloc (.cells #[.int .u32 a.1, .int .u32 b.1, .int .u8 r.1.c, .int .u32 r.1.t, .int .u8 r.1.k, .int .u8 r.1.y, .int .u16 r.1.v] 80)) ((Below.refl _ _).alloc (Nat.le_refl _) _))
        obtain ⟨i0, hinfo⟩ := info_parts info49'
        obtain ⟨hi, hz0, hz1, hz2⟩ := hinfo
        refine wpList_appR En.cells 7 30 80 20 i0 _ _ rfl (.tmp 32) (.tmp 34) rfl Tryz.underlying30 hi hz0 hz1 hz2 rfl (by decide) (by decide) (.slice ao m c) m (y.1.flatMap En.cells) rfl I7.out.own (some ⟨w6.heap.size, 0, none⟩) 1 1 [⟨a.1, b.1, r.1⟩] rfl RA.out (fun x _ => rfl) (fun x _ u hu => by simp [En.cells] at hu; rcases hu with rfl | rfl | rfl | rfl | rfl | rfl | rfl <;> rfl) (by omega) ?_
        intro ao' cap' w8 ho hk hg
        have I8 := Lib.hid (I7.out.next _ ho hk hg)
        clear ho hk hg hi hz0 hz1 hz2 I7 RA HB6 I6
        refine wv (.slice ao' (m + 1) cap') w8 (by go_simp) ?_
        dsimp only
        go_wp2_with fail
        have h8 : dL pEn t (j + 1) = (y.1 ++ [⟨a.1, b.1, r.1⟩], r.2) := by
          rw [dL_next (by rw [← HY.out]; exact HF.out), ← HY.out]
          unfold pEn
          rw [← HA.out, ← HB.out, ← HR.out]
        exact ⟨⟨j + 1, ao', m + 1, cap', by omega, by omega, by go_num, rfl, h8 ▸ I8⟩, by simp [intOf]; omega⟩
      · rw [Ds.short1 hf] at q
        rw [dL_end hf hj] at I
        clear hf
        go_wp2_with fail
        go_ret
        exact ⟨ao, m, c, rfl, I.out⟩
    · obtain rfl : j = n := by omega
      clear q
      go_wp2_with fail
      go_ret
      exact ⟨ao, m, c, rfl, I.out⟩

/-- a vote as the document reads it: its lists know no most -/
def dVt (s : Sr) : Vp × Sr :=
  let a := p8 s; let b := p8 a.2; let c := p32 b.2; let d := p32 c.2
  let n := p8 d.2; let x := dL pMk n.2 n.1.toNat
  let n2 := p8 x.2; let y := dL pEn n2.2 n2.1.toNat
  let n3 := p8 y.2; let z := dL pEn n3.2 n3.1.toNat
  (⟨a.1, b.1, c.1, d.1, ⟨x.1, y.1, z.1⟩⟩, z.2)
def Z7 : Array Value := #[.int .u8 0, .int .u8 0, .int .u32 0, .int .u32 0, .slice none 0 0, .slice none 0 0, .slice none 0 0]
theorem vt_cells {w : World} {g : Nat} {A : Array Value} (h : w.heap[g]? = some (.cells A 32 (0, 0))) (i : Nat) : w.cell? ⟨g, i, none⟩ = A[i]? := by
  rw [cell_of_row w g i _ 32 (0, 0) h]
/-- the vote at g, and what the walk keeps -/
structure VI (w : World) (X gr g : Nat) (wr : World) (A : Array Value) (s : Sr) : Prop where
  kept : Kept (fun k => k = X) w wr
  res : wr.heap[gr]? = some (.cells Z7 32 (0, 0))
  box : wr.heap[g]? = some (.cells A 32 (0, 0))
  rd : Ds wr X s
  old : w.heap.size ≤ gr
  new : gr < g
  lt : X < w.heap.size
theorem VI.call {w wr w' : World} {X gr g : Nat} {A : Array Value} {s s' : Sr} (h : VI w X gr g wr A s) (hd : Ds w' X s') (hk : Kept (fun k => k = X) wr w') : VI w X gr g w' A s' := by
  have h1 := h.old
  have h2 := h.new
  have h3 := h.lt
  refine ⟨h.kept.trans hk (fun _ _ e => e), ?_, ?_, hd, h1, h2, h3⟩
  · rw [hk.block gr (lt_of_block h.res) (by omega)]; exact h.res
  · rw [hk.block g (lt_of_block h.box) (by omega)]; exact h.box
theorem VI.set {w wr : World} {X gr g : Nat} {A A' : Array Value} {s : Sr} (h : VI w X gr g wr A s) (i : Nat) (v : Value) (hv : A.setIfInBounds i v = A') : VI w X gr g (wr.setCell ⟨g, i, none⟩ v) A' s := by
  have h1 := h.old
  have h2 := h.new
  have h3 := h.lt
  refine ⟨h.kept.setCell _ _ (fun hlt => by simp only at hlt; omega), ?_, ?_, h.rd.kept (S := fun k => k = g) ((Kept.refl _ _).setCell _ _ (fun _ => rfl)) (fun k hk e => by omega), h1, h2, h3⟩
  · rw [Below.heap_setCell _ _ _ _ (by simp only; omega)]; exact h.res
  · rw [heap_setCell_same wr g i _ 32 _ h.box, hv]
/-- what happens apart from the vote, the result and the reader -/
theorem VI.apart {w wr w' : World} {X gr g : Nat} {A : Array Value} {s : Sr} {S : Nat → Prop} (h : VI w X gr g wr A s) (hk : Kept S wr w') (hS : ∀ b, S b → w.heap.size ≤ b ∧ b ≠ gr ∧ b ≠ g) : VI w X gr g w' A s := by
  have h1 := h.old
  have h2 := h.new
  have h3 := h.lt
  refine ⟨h.kept.trans hk (fun i hi e => by have := (hS i e).1; omega), ?_, ?_, h.rd.kept hk (fun k hk e => by have := (hS k e).1; omega), h1, h2, h3⟩
  · rw [hk.block gr (lt_of_block h.res) (fun e => (hS _ e).2.1 rfl)]; exact h.res
  · rw [hk.block g (lt_of_block h.box) (fun e => (hS _ e).2.2 rfl)]; exact h.box
/-- a list that the call made, apart from the vote and the result -/
structure RW {α : Type} (w wr : World) (gr g : Nat) (e : TypeId) (k : Nat) (enc : α → List Value) (ao : Option Addr) (m c : Nat) (l : List α) : Prop where
  own : wr.ownsRow 0 e k (.slice ao m c) m (l.flatMap enc)
  new : ∀ b, (Value.slice ao m c).ownBlock = some b → w.heap.size ≤ b ∧ b ≠ gr ∧ b ≠ g
  len : l.length = m
theorem RW.kept {α : Type} {w wr w' : World} {gr g : Nat} {e : TypeId} {k : Nat} {enc : α → List Value} {ao : Option Addr} {m c : Nat} {l : List α} {S : Nat → Prop} (h : RW w wr gr g e k enc ao m c l) (hk : Kept S wr w') (hS : ∀ b, (Value.slice ao m c).ownBlock = some b → ¬ S b) : RW w w' gr g e k enc ao m c l :=
  ⟨own_kept' h.own hk hS, h.new, h.len⟩
theorem RW.next {α : Type} {w wr w' : World} {gr g : Nat} {e : TypeId} {k : Nat} {enc : α → List Value} {ao ao' : Option Addr} {m c c' : Nat} {l : List α} (x : α) (h : RW w wr gr g e k enc ao m c l) (ho : w'.ownsRow 0 e k (.slice ao' (m + 1) c') (m + 1) (l.flatMap enc ++ [x].flatMap enc))
    (hg : (Value.slice ao' (m + 1) c').ownBlock = (Value.slice ao m c).ownBlock ∨ (Value.slice ao' (m + 1) c').ownBlock = some wr.heap.size) (h1 : w.heap.size ≤ wr.heap.size) (h2 : gr < wr.heap.size) (h3 : g < wr.heap.size) : RW w w' gr g e k enc ao' (m + 1) c' (l ++ [x]) := by
  refine ⟨by rw [List.flatMap_append]; exact ho, fun b hb => ?_, by simp [h.len]⟩
  rcases hg with e | e
  · rw [e] at hb; exact h.new b hb
  · rw [e] at hb; injection hb with hb; omega
theorem RW.nil {α : Type} (w wr : World) (gr g : Nat) (e : TypeId) (k : Nat) (enc : α → List Value) : RW w wr gr g e k enc none 0 0 [] :=
  ⟨⟨by simp, .inl ⟨rfl, rfl⟩⟩, fun g hg => by simp [Value.ownBlock] at hg, rfl⟩
set_option maxHeartbeats 3200000 in
theorem rvote_any (w : World) (X : Nat) (s : Sr) (h : Ds w X s) :
    Calls Tryz.prog 64 #[.pointer (some ⟨X, 0, none⟩)] w fun e w' => ∃ (gr g : Nat) (a1 a2 a3 : Option Addr) (m1 m2 m3 c1 c2 c3 : Nat), e = .returned (.agg #[.int .u8 (dVt s).1.f, .int .u8 (dVt s).1.e, .int .u32 (dVt s).1.vw, .int .u32 (dVt s).1.lo, .slice a1 m1 c1, .slice a2 m2 c2, .slice a3 m3 c3]) ∧ Ds w' X (dVt s).2 ∧ Kept (fun k => k = X) w w' ∧
      RW w w' gr g 77 2 Mk.cells a1 m1 c1 (dVt s).1.c.ms ∧ RW w w' gr g 80 7 En.cells a2 m2 c2 (dVt s).1.c.p ∧ RW w w' gr g 80 7 En.cells a3 m3 c3 (dVt s).1.c.q := by
  obtain ⟨W, hW⟩ : ∃ W, W = w.alloc (.cells Z7 32) := ⟨_, rfl⟩
  have hk0 : Kept (fun k => k = X) w W := by rw [hW]; exact (Kept.refl _ _).alloc _
  have hs0 : W.heap.size = w.heap.size + 1 := by rw [hW]; simp
  have hr0 : W.heap[w.heap.size]? = some (.cells Z7 32 (0, 0)) := by rw [hW]; exact heap_alloc_new _ _
  have h0 : Ds W X s := h.kept (S := fun _ => False) (by rw [hW]; exact (Kept.refl _ _).alloc _) (fun _ _ h => h)
  have hXg : X < w.heap.size := h.lt
  have H0 := Lib.hid (And.intro hk0 (And.intro hs0 (And.intro hr0 (And.intro h0 hXg))))
  have HW := Lib.hid hW
  obtain ⟨a, ha⟩ : ∃ a, a = p8 s := ⟨_, rfl⟩
  obtain ⟨b, hb⟩ : ∃ b, b = p8 a.2 := ⟨_, rfl⟩
  obtain ⟨c, hc⟩ : ∃ c, c = p32 b.2 := ⟨_, rfl⟩
  obtain ⟨d, hd⟩ : ∃ d, d = p32 c.2 := ⟨_, rfl⟩
  obtain ⟨nn, hnn⟩ : ∃ n, n = p8 d.2 := ⟨_, rfl⟩
  obtain ⟨x, hx⟩ : ∃ x, x = dL pMk nn.2 nn.1.toNat := ⟨_, rfl⟩
  obtain ⟨y, hy⟩ : ∃ y, y = dL pEn (p8 x.2).2 (p8 x.2).1.toNat := ⟨_, rfl⟩
  obtain ⟨z, hz⟩ : ∃ z, z = dL pEn (p8 y.2).2 (p8 y.2).1.toNat := ⟨_, rfl⟩
  have hres : dVt s = (⟨a.1, b.1, c.1, d.1, ⟨x.1, y.1, z.1⟩⟩, z.2) := by unfold dVt; rw [hz, hy, hx, hnn, hd, hc, hb, ha]
  have HXYZ := Lib.hid (And.intro hx (And.intro hy hz))
  rw [hres]
  dsimp only
  have HN := Lib.hid (And.intro ha (And.intro hb (And.intro hc (And.intro hd hnn))))
  clear hres ha hb hc hd hnn hx hy hz hk0 hs0 hr0 h0 hXg hW h
  obtain ⟨gr, hgr⟩ : ∃ g, g = w.heap.size := ⟨_, rfl⟩
  have HG := Lib.hid hgr
  unfold Z7 at HW
  go_enter Tryz.func64, Tryz.ntmps64
  go_wp2_with fail
  rw [← HW.out, ← HG.out]
  refine (rget1 W X s H0.out.2.2.2.1).mono ?_
  rintro e1 w1 ⟨rfl, d1, k1⟩
  rw [← HN.out.1] at d1 ⊢
  have r1 := p8_in H0.out.2.2.2.1.ok
  rw [← HN.out.1] at r1
  have H1 := Lib.hid (And.intro d1 k1)
  clear d1 k1
  go_wp2_with fail
  refine (rget1 w1 X a.2 H1.out.1).mono ?_
  rintro e2 w2 ⟨rfl, d2, k2⟩
  rw [← HN.out.2.1] at d2 ⊢
  have r2 := p8_in H1.out.1.ok
  rw [← HN.out.2.1] at r2
  have H2 := Lib.hid (And.intro d2 k2)
  clear d2 k2
  go_wp2_with fail
  have V3 : VI w X gr w2.heap.size (w2.alloc (.cells #[.int .u8 a.1, .int .u8 b.1, .int .u32 0, .int .u32 0, .slice none 0 0, .slice none 0 0, .slice none 0 0] 32)) #[.int .u8 a.1, .int .u8 b.1, .int .u32 0, .int .u32 0, .slice none 0 0, .slice none 0 0, .slice none 0 0] b.2 := by
    have hk1 := H0.out.1.trans (H1.out.2.trans H2.out.2 (fun _ _ e => e)) (fun _ _ e => e)
    have hX := H0.out.2.2.2.2
    have hs := H0.out.2.1
    have hg := HG.out
    have hr : w2.heap[gr]? = some (.cells Z7 32 (0, 0)) := by
      have z1 := H1.out.2.block gr (by omega) (by omega)
      have z2 := H2.out.2.block gr (by have := H1.out.2.size; omega) (by omega)
      rw [z2, z1, hg]; exact H0.out.2.2.1
    refine ⟨hk1.alloc _, ?_, heap_alloc_new w2 _, H2.out.1.kept (S := fun _ => False) ((Kept.refl _ _).alloc _) (fun _ _ h => h), by omega, lt_of_block hr, hX⟩
    rw [Below.heap_alloc _ _ _ (lt_of_block hr)]; exact hr
  generalize hgx : w2.heap.size = gx at *
  generalize w2.alloc (.cells #[.int .u8 a.1, .int .u8 b.1, .int .u32 0, .int .u32 0, .slice none 0 0, .slice none 0 0, .slice none 0 0] 32) = w3 at *
  clear hgx H0 H1 H2 HW r1 r2
  replace V3 := Lib.hid V3
  refine (rget4 w3 X b.2 V3.out.rd).mono ?_
  rintro e4 w4 ⟨rfl, d4, k4⟩
  rw [← HN.out.2.2.1] at d4 ⊢
  have r4 := p32_in V3.out.rd.ok
  rw [← HN.out.2.2.1] at r4
  have V4 := V3.out.call d4 k4
  have c4 := vt_cells V4.box 2
  have f4 := frozen_of_row w4 gx 2 _ 32 V4.box
  simp only [List.getElem?_toArray, List.getElem?_cons_zero, List.getElem?_cons_succ] at c4
  replace V4 := Lib.hid (V4.set (A' := #[.int .u8 a.1, .int .u8 b.1, .int .u32 c.1, .int .u32 0, .slice none 0 0, .slice none 0 0, .slice none 0 0]) 2 (.int .u32 c.1) rfl)
  clear d4 k4 V3
  go_wp2_with fail
  generalize w4.setCell ⟨gx, 2, none⟩ (.int .u32 c.1) = w5 at *
  clear c4 f4 r4
  refine (rget4 w5 X c.2 V4.out.rd).mono ?_
  rintro e6 w6 ⟨rfl, d6, k6⟩
  rw [← HN.out.2.2.2.1] at d6 ⊢
  have r6 := p32_in V4.out.rd.ok
  rw [← HN.out.2.2.2.1] at r6
  have V6 := V4.out.call d6 k6
  have c6 := vt_cells V6.box 3
  have f6 := frozen_of_row w6 gx 3 _ 32 V6.box
  simp only [List.getElem?_toArray, List.getElem?_cons_zero, List.getElem?_cons_succ] at c6
  replace V6 := Lib.hid (V6.set (A' := #[.int .u8 a.1, .int .u8 b.1, .int .u32 c.1, .int .u32 d.1, .slice none 0 0, .slice none 0 0, .slice none 0 0]) 3 (.int .u32 d.1) rfl)
  clear d6 k6 V4
  go_wp2_with fail
  generalize w6.setCell ⟨gx, 3, none⟩ (.int .u32 d.1) = w7 at *
  clear c6 f6 r6
  obtain ⟨n, hn⟩ : ∃ n : Nat, nn.1 = (n : Int) := ⟨nn.1.toNat, by have := p8_in V6.out.rd.ok; rw [← HN.out.2.2.2.2] at this; omega⟩
  have hn2 : n ≤ 255 := by have := p8_in V6.out.rd.ok; rw [← HN.out.2.2.2.2] at this; omega
  refine (rget1 w7 X d.2 V6.out.rd).mono ?_
  rintro e8 w8 ⟨rfl, d8, k8⟩
  rw [← HN.out.2.2.2.2] at d8 ⊢
  rw [hn]
  have V0 := Lib.hid (V6.out.call d8 k8)
  have HX := Lib.hid V0.out.lt
  have hx := HXYZ.out.1
  rw [hn, Int.toNat_natCast] at hx
  have HXL := Lib.hid hx
  clear hn d8 k8 V6 hx
  go_wp2_with fail
  generalize nn.2 = t at *
  have I0 : Hid (VI w X gr gx w8 #[.int .u8 a.1, .int .u8 b.1, .int .u32 c.1, .int .u32 d.1, .slice none 0 0, .slice none 0 0, .slice none 0 0] (dL pMk t 0).2) := V0
  have J0 : Hid (RW w w8 gr gx 77 2 Mk.cells none 0 0 (dL pMk t 0).1) := Lib.hid (RW.nil _ _ _ _ _ _ _)
  clear V0
  go_loopw [5] (fun v5 wr => ∃ (j : Nat) (ao : Option Addr) (m cc : Nat), j ≤ n ∧ m ≤ j ∧ v5 = .int .i64 j ∧ Hid (VI w X gr gx wr #[.int .u8 a.1, .int .u8 b.1, .int .u32 c.1, .int .u32 d.1, .slice ao m cc, .slice none 0 0, .slice none 0 0] (dL pMk t j).2) ∧ Hid (RW w wr gr gx 77 2 Mk.cells ao m cc (dL pMk t j).1)) (fun v5 _ => n - (intOf v5).toNat)
  case atStart => exact ⟨0, none, 0, 0, Nat.zero_le _, Nat.le_refl _, rfl, I0, J0⟩
  case round =>
    obtain ⟨j, ao, m, cc, hj, hm, rfl, V, R⟩ := hrel
    clear I0 J0
    have q := V.out.rd.short
    by_cases hlt : j < n
    · by_cases hf : (dL pMk t j).2.f = 0
      · rw [Ds.short0 hf] at q
        have HF := Lib.hid hf
        clear hf
        go_wp2_with fail
        clear q
        obtain ⟨u, hu⟩ : ∃ u, u = dL pMk t j := ⟨_, rfl⟩
        have HU := Lib.hid hu
        rw [← hu] at V R HF
        clear hu
        refine (rget4 wr X u.2 V.out.rd).mono ?_
        rintro e2 w2 ⟨rfl, d2, k2⟩
        have r2 := p32_in V.out.rd.ok
        obtain ⟨f, hf⟩ : ∃ f, f = p32 u.2 := ⟨_, rfl⟩
        have HFF := Lib.hid hf
        rw [← hf] at d2 r2 ⊢
        have V2 := Lib.hid (V.out.call d2 k2)
        have R2 := Lib.hid (R.out.kept k2 (fun b hb e => by have := (R.out.new b hb).1; have := HX.out; omega))
        clear hf d2 k2 V R
        go_wp2_with fail
        clear r2
        obtain ⟨W, hW⟩ : ∃ W, W = w2.alloc (.cells #[.int .u32 f.1, .int .u64 0] 77) := ⟨_, rfl⟩
        rw [← hW]
        have hal : Kept (fun _ => False) w2 W := by rw [hW]; exact (Kept.refl _ _).alloc _
        have V3 := V2.out.apart hal (fun b e => e.elim)
        have R3 := R2.out.kept hal (fun b hb e => e)
        have hbx : W.heap[w2.heap.size]? = some (.cells #[.int .u32 f.1, .int .u64 0] 77 (0, 0)) := by rw [hW]; exact heap_alloc_new _ _
        have hE : w.heap.size ≤ w2.heap.size ∧ w2.heap.size ≠ gr ∧ w2.heap.size ≠ gx := ⟨V2.out.kept.size, by have := lt_of_block V2.out.res; omega, by have := lt_of_block V2.out.box; omega⟩
        have hEo : ∀ b, (Value.slice ao m cc).ownBlock = some b → b ≠ w2.heap.size := fun b hb e => by have := own_lt' R2.out.own hb; omega
        generalize w2.heap.size = E at *
        clear hW hal V2 R2
        refine (rget8 W X f.2 V3.rd).mono ?_
        rintro e4 w4 ⟨rfl, d4, k4⟩
        obtain ⟨g8, hg8⟩ : ∃ g8, g8 = p64 f.2 := ⟨_, rfl⟩
        have H8 := Lib.hid hg8
        rw [← hg8] at d4 ⊢
        have V4 := V3.call d4 k4
        have R4 := R3.kept k4 (fun b hb e => by have := (R3.new b hb).1; have := HX.out; omega)
        have hb4 : w4.heap[E]? = some (.cells #[.int .u32 f.1, .int .u64 0] 77 (0, 0)) := by rw [k4.block E (lt_of_block hbx) (by have := HX.out; omega)]; exact hbx
        have c4 : w4.cell? ⟨E, 1, none⟩ = some (.int .u64 0) := by rw [cell_of_row w4 E 1 _ 77 (0, 0) hb4]; rfl
        have f4 := frozen_of_row w4 E 1 _ 77 hb4
        have V5 := Lib.hid (V4.apart (w' := w4.setCell ⟨E, 1, none⟩ (.int .u64 g8.1)) (S := fun k => k = E) ((Kept.refl _ _).setCell _ _ (fun _ => rfl)) (fun b e => by subst e; exact hE))
        have R5 := Lib.hid (R4.kept (w' := w4.setCell ⟨E, 1, none⟩ (.int .u64 g8.1)) (S := fun k => k = E) ((Kept.refl _ _).setCell _ _ (fun _ => rfl)) (fun b hb e => hEo b hb e))
        have HB5 : Hid ((w4.setCell ⟨E, 1, none⟩ (.int .u64 g8.1)).heap[E]? = some (.cells #[.int .u32 f.1, .int .u64 g8.1] 77 (0, 0))) := Lib.hid (by rw [heap_setCell_same w4 E 1 _ 77 _ hb4]; rfl)
        clear hg8 d4 k4 hbx hb4 V3 R3 V4 R4
        go_upto_region 10 with fail
        generalize w4.setCell ⟨E, 1, none⟩ (.int .u64 g8.1) = w5 at *
        clear c4 f4
        have q4 := vt_cells V5.out.box 4
        simp only [List.getElem?_toArray, List.getElem?_cons_zero, List.getElem?_cons_succ] at q4
        refine wp_region_lit ?_
        refine wv (.pointer (some ⟨gx, 4, none⟩)) w5 (by go_simp) ?_
        refine wv (.slice ao m cc) w5 (by go_simp) ?_
        refine wpList_load_row rfl 77 (.tmp 6) rfl E rfl 77 _ (0, 0) _ HB5.out Tryz.underlying77 rfl (by kernel_rfl) ?_
        dsimp only
        refine wv (.slice (some ⟨w5.heap.size, 0, none⟩) 1 1) (w5.alloc (.cells #[.int .u32 f.1, .int .u64 g8.1] 77)) (by go_simp) ?_
        have RA := Lib.hid (row_new1 w5 2 Mk.cells ⟨f.1, g8.1⟩ 77 #[.int .u32 f.1, .int .u64 g8.1] rfl)
        have hal : Kept (fun _ => False) w5 (w5.alloc (.cells #[.int .u32 f.1, .int .u64 g8.1] 77)) := (Kept.refl _ _).alloc _
        have V7 := Lib.hid (V5.out.apart hal (fun b e => e.elim))
        have R7 := Lib.hid (R5.out.kept hal (fun b hb e => e))
        generalize w5.alloc (.cells #[.int .u32 f.1, .int .u64 g8.1] 77) = w7' at *
        obtain ⟨i0, hinfo⟩ := info_parts info51'
        obtain ⟨hi, hz0, hz1, hz2⟩ := hinfo
        refine wpList_appR Mk.cells 2 29 77 16 i0 _ _ rfl (.tmp 45) (.tmp 47) rfl Tryz.underlying29 hi hz0 hz1 hz2 rfl (by decide) (by decide) (.slice ao m cc) m (u.1.flatMap Mk.cells) rfl R7.out.own (some ⟨w5.heap.size, 0, none⟩) 1 1 [⟨f.1, g8.1⟩] rfl RA.out (fun x _ => rfl) (fun x _ u hu => by simp [Mk.cells] at hu; rcases hu with rfl | rfl <;> rfl) (by omega) ?_
        intro ao' cap' w8 ho hk hg
        have V8 := V7.out.apart hk (fun b e => R7.out.new b e.symm)
        have R8 := R7.out.next _ ho hg V7.out.kept.size (lt_of_block V7.out.res) (lt_of_block V7.out.box)
        have q8 := vt_cells V8.box 4
        have f8 := frozen_of_row w8 gx 4 _ 32 V8.box
        simp only [List.getElem?_toArray, List.getElem?_cons_zero, List.getElem?_cons_succ] at q8
        have V9 := Lib.hid (V8.set (A' := #[.int .u8 a.1, .int .u8 b.1, .int .u32 c.1, .int .u32 d.1, .slice ao' (m + 1) cap', .slice none 0 0, .slice none 0 0]) 4 (.slice ao' (m + 1) cap') rfl)
        have R9 := Lib.hid (R8.kept (w' := w8.setCell ⟨gx, 4, none⟩ (.slice ao' (m + 1) cap')) (S := fun k => k = gx) ((Kept.refl _ _).setCell _ _ (fun _ => rfl)) (fun b hb e => (R8.new b hb).2.2 e))
        clear ho hk hg hi hz0 hz1 hz2 V7 R7 V8 R8 RA HB5 V5 R5 hal q4
        dsimp only
        go_wp2_with fail
        have h8 : dL pMk t (j + 1) = (u.1 ++ [⟨f.1, g8.1⟩], g8.2) := by
          rw [dL_next (by rw [← HU.out]; exact HF.out), ← HU.out]
          unfold pMk
          rw [← HFF.out, ← H8.out]
        exact ⟨⟨j + 1, ao', m + 1, cap', by omega, by omega, by go_num, by rw [h8]; exact V9, by rw [h8]; exact R9⟩, by simp [intOf]; omega⟩
      · rw [Ds.short1 hf] at q
        rw [dL_end hf hj, ← HXL.out] at V R
        clear hf
        go_wp2_with fail
        clear q
        refine (rlist_any wr X x.2 V.out.rd).mono ?_
        rintro e3 w3 ⟨o2, m2, c2, rfl, G⟩
        rw [← HXYZ.out.2.1] at G
        have V3 := V.out.call G.rd G.kept
        have R3 := Lib.hid (R.out.kept G.kept (fun b hb e => by have := (R.out.new b hb).1; have := HX.out; omega))
        have P3 : Hid (RW w w3 gr gx 80 7 En.cells o2 m2 c2 y.1) := Lib.hid ⟨G.own, fun b hb => by have := G.new b hb; have := lt_of_block V.out.res; have := lt_of_block V.out.box; have := V.out.kept.size; omega, G.len⟩
        have q5 := vt_cells V3.box 5
        have f5 := frozen_of_row w3 gx 5 _ 32 V3.box
        simp only [List.getElem?_toArray, List.getElem?_cons_zero, List.getElem?_cons_succ] at q5
        have V4 := Lib.hid (V3.set (A' := #[.int .u8 a.1, .int .u8 b.1, .int .u32 c.1, .int .u32 d.1, .slice ao m cc, .slice o2 m2 c2, .slice none 0 0]) 5 (.slice o2 m2 c2) rfl)
        have R4 := Lib.hid (R3.out.kept (w' := w3.setCell ⟨gx, 5, none⟩ (.slice o2 m2 c2)) (S := fun k => k = gx) ((Kept.refl _ _).setCell _ _ (fun _ => rfl)) (fun b hb e => (R3.out.new b hb).2.2 e))
        have P4 := Lib.hid (P3.out.kept (w' := w3.setCell ⟨gx, 5, none⟩ (.slice o2 m2 c2)) (S := fun k => k = gx) ((Kept.refl _ _).setCell _ _ (fun _ => rfl)) (fun b hb e => (P3.out.new b hb).2.2 e))
        clear V3 R3 P3 G V R
        dsimp only
        go_wp2_with fail
        generalize w3.setCell ⟨gx, 5, none⟩ (.slice o2 m2 c2) = w4 at *
        clear q5 f5
        refine (rlist_any w4 X y.2 V4.out.rd).mono ?_
        rintro e5 w5 ⟨o3, m3, c3, rfl, G⟩
        rw [← HXYZ.out.2.2] at G
        have V5 := V4.out.call G.rd G.kept
        have R5 := Lib.hid (R4.out.kept G.kept (fun b hb e => by have := (R4.out.new b hb).1; have := HX.out; omega))
        have P5 := Lib.hid (P4.out.kept G.kept (fun b hb e => by have := (P4.out.new b hb).1; have := HX.out; omega))
        have Q5 : Hid (RW w w5 gr gx 80 7 En.cells o3 m3 c3 z.1) := Lib.hid ⟨G.own, fun b hb => by have := G.new b hb; have := lt_of_block V4.out.res; have := lt_of_block V4.out.box; have := V4.out.kept.size; omega, G.len⟩
        have q6 := vt_cells V5.box 6
        have f6 := frozen_of_row w5 gx 6 _ 32 V5.box
        simp only [List.getElem?_toArray, List.getElem?_cons_zero, List.getElem?_cons_succ] at q6
        have V6 := Lib.hid (V5.set (A' := #[.int .u8 a.1, .int .u8 b.1, .int .u32 c.1, .int .u32 d.1, .slice ao m cc, .slice o2 m2 c2, .slice o3 m3 c3]) 6 (.slice o3 m3 c3) rfl)
        have R6 := Lib.hid (R5.out.kept (w' := w5.setCell ⟨gx, 6, none⟩ (.slice o3 m3 c3)) (S := fun k => k = gx) ((Kept.refl _ _).setCell _ _ (fun _ => rfl)) (fun b hb e => (R5.out.new b hb).2.2 e))
        have P6 := Lib.hid (P5.out.kept (w' := w5.setCell ⟨gx, 6, none⟩ (.slice o3 m3 c3)) (S := fun k => k = gx) ((Kept.refl _ _).setCell _ _ (fun _ => rfl)) (fun b hb e => (P5.out.new b hb).2.2 e))
        have Q6 := Lib.hid (Q5.out.kept (w' := w5.setCell ⟨gx, 6, none⟩ (.slice o3 m3 c3)) (S := fun k => k = gx) ((Kept.refl _ _).setCell _ _ (fun _ => rfl)) (fun b hb e => (Q5.out.new b hb).2.2 e))
        clear V5 R5 P5 Q5 G V4 R4 P4
        dsimp only
        go_upto_region 13 with fail
        generalize w5.setCell ⟨gx, 6, none⟩ (.slice o3 m3 c3) = w6 at *
        clear q6 f6
        obtain ⟨A, hA⟩ : ∃ A : Array Value, A = #[.int .u8 a.1, .int .u8 b.1, .int .u32 c.1, .int .u32 d.1, .slice ao m cc, .slice o2 m2 c2, .slice o3 m3 c3] := ⟨_, rfl⟩
        have HA := Lib.hid hA
        have hb := V6.out.box
        have hr := V6.out.res
        rw [← hA] at hb
        have hrs : (w6.setCells gr 0 A.toList).heap[gr]? = some (.cells A 32 (0, 0)) := by
          rw [setCells_block gr 32 _ 0 _ _ hr, hA]; simp [over, Z7]
        have hgb : ∀ {α : Type} {e : TypeId} {k : Nat} {enc : α → List Value} {ao : Option Addr} {m c : Nat} {l : List α}, RW w w6 gr gx e k enc ao m c l → RW w (w6.setCells gr 0 A.toList) gr gx e k enc ao m c l := fun h => h.kept (S := fun k => k = gr) kept_setCells (fun b hb e => (h.new b hb).2.1 e)
        have hkk : Kept (fun k => k = X) w (w6.setCells gr 0 A.toList) := V6.out.kept.trans (T := fun k => k = gr) kept_setCells (fun i hi e => by have := V6.out.old; omega)
        have hdd : Ds (w6.setCells gr 0 A.toList) X z.2 := V6.out.rd.kept (S := fun k => k = gr) kept_setCells (fun k hk e => by have := V6.out.old; have := V6.out.lt; omega)
        have hth : w6.there gr 0 A.size := there_row hr (by rw [hA]; rfl)
        have HO : Hid ((A.all fun x => x.oneCell') = true) := Lib.hid (by rw [hA]; simp [Value.oneCell'])
        have HZ : Hid ((Tryz.prog.info? 32).map (·.size) = some A.size) := Lib.hid (by rw [hA]; kernel_rfl)
        have HF := Lib.hid (And.intro hrs (And.intro hkk (And.intro hdd (And.intro (hgb R6.out) (And.intro (hgb P6.out) (hgb Q6.out))))))
        have HB := Lib.hid hb
        have HT := Lib.hid hth
        clear hb hr hrs hkk hdd hth hgb V6 R6 P6 Q6 hA
        refine wp_region_lit ?_
        refine wpList_load_row rfl 32 (.tmp 3) rfl gx rfl 32 _ (0, 0) _ HB.out Tryz.underlying32 rfl HZ.out ?_
        refine wpList_store_mid rfl 32 (.tmp 2) (.tmp 56) rfl gr 0 A (by rw [HG.out]; rfl) rfl HT.out HZ.out HO.out ?_
        dsimp only
        clear HB HT
        go_wp2_with fail
        (try simp only [Exit.inBlock, Exit.then])
        obtain ⟨f1, f2, f3, f4, f5, f6⟩ := HF.out
        rw [HA.out] at HZ f1
        refine bodyPost_ret (results_cell_row (P := Tryz.prog) rfl _ _ gr 32 _ (0, 0) _ (by rw [HG.out]; rfl) (HA.out ▸ HF.out.1) Tryz.underlying32 rfl HZ.out) rfl ?_
        exact ⟨gr, gx, ao, o2, o3, m, m2, m3, cc, c2, c3, rfl, f3, f2, f4, f5, f6⟩
    · obtain rfl : j = n := by omega
      rw [← HXL.out] at V R
      go_wp2_with fail
      clear q
      refine (rlist_any wr X x.2 V.out.rd).mono ?_
      rintro e3 w3 ⟨o2, m2, c2, rfl, G⟩
      rw [← HXYZ.out.2.1] at G
      have V3 := V.out.call G.rd G.kept
      have R3 := Lib.hid (R.out.kept G.kept (fun b hb e => by have := (R.out.new b hb).1; have := HX.out; omega))
      have P3 : Hid (RW w w3 gr gx 80 7 En.cells o2 m2 c2 y.1) := Lib.hid ⟨G.own, fun b hb => by have := G.new b hb; have := lt_of_block V.out.res; have := lt_of_block V.out.box; have := V.out.kept.size; omega, G.len⟩
      have q5 := vt_cells V3.box 5
      have f5 := frozen_of_row w3 gx 5 _ 32 V3.box
      simp only [List.getElem?_toArray, List.getElem?_cons_zero, List.getElem?_cons_succ] at q5
      have V4 := Lib.hid (V3.set (A' := #[.int .u8 a.1, .int .u8 b.1, .int .u32 c.1, .int .u32 d.1, .slice ao m cc, .slice o2 m2 c2, .slice none 0 0]) 5 (.slice o2 m2 c2) rfl)
      have R4 := Lib.hid (R3.out.kept (w' := w3.setCell ⟨gx, 5, none⟩ (.slice o2 m2 c2)) (S := fun k => k = gx) ((Kept.refl _ _).setCell _ _ (fun _ => rfl)) (fun b hb e => (R3.out.new b hb).2.2 e))
      have P4 := Lib.hid (P3.out.kept (w' := w3.setCell ⟨gx, 5, none⟩ (.slice o2 m2 c2)) (S := fun k => k = gx) ((Kept.refl _ _).setCell _ _ (fun _ => rfl)) (fun b hb e => (P3.out.new b hb).2.2 e))
      clear V3 R3 P3 G V R
      dsimp only
      go_wp2_with fail
      generalize w3.setCell ⟨gx, 5, none⟩ (.slice o2 m2 c2) = w4 at *
      clear q5 f5
      refine (rlist_any w4 X y.2 V4.out.rd).mono ?_
      rintro e5 w5 ⟨o3, m3, c3, rfl, G⟩
      rw [← HXYZ.out.2.2] at G
      have V5 := V4.out.call G.rd G.kept
      have R5 := Lib.hid (R4.out.kept G.kept (fun b hb e => by have := (R4.out.new b hb).1; have := HX.out; omega))
      have P5 := Lib.hid (P4.out.kept G.kept (fun b hb e => by have := (P4.out.new b hb).1; have := HX.out; omega))
      have Q5 : Hid (RW w w5 gr gx 80 7 En.cells o3 m3 c3 z.1) := Lib.hid ⟨G.own, fun b hb => by have := G.new b hb; have := lt_of_block V4.out.res; have := lt_of_block V4.out.box; have := V4.out.kept.size; omega, G.len⟩
      have q6 := vt_cells V5.box 6
      have f6 := frozen_of_row w5 gx 6 _ 32 V5.box
      simp only [List.getElem?_toArray, List.getElem?_cons_zero, List.getElem?_cons_succ] at q6
      have V6 := Lib.hid (V5.set (A' := #[.int .u8 a.1, .int .u8 b.1, .int .u32 c.1, .int .u32 d.1, .slice ao m cc, .slice o2 m2 c2, .slice o3 m3 c3]) 6 (.slice o3 m3 c3) rfl)
      have R6 := Lib.hid (R5.out.kept (w' := w5.setCell ⟨gx, 6, none⟩ (.slice o3 m3 c3)) (S := fun k => k = gx) ((Kept.refl _ _).setCell _ _ (fun _ => rfl)) (fun b hb e => (R5.out.new b hb).2.2 e))
      have P6 := Lib.hid (P5.out.kept (w' := w5.setCell ⟨gx, 6, none⟩ (.slice o3 m3 c3)) (S := fun k => k = gx) ((Kept.refl _ _).setCell _ _ (fun _ => rfl)) (fun b hb e => (P5.out.new b hb).2.2 e))
      have Q6 := Lib.hid (Q5.out.kept (w' := w5.setCell ⟨gx, 6, none⟩ (.slice o3 m3 c3)) (S := fun k => k = gx) ((Kept.refl _ _).setCell _ _ (fun _ => rfl)) (fun b hb e => (Q5.out.new b hb).2.2 e))
      clear V5 R5 P5 Q5 G V4 R4 P4
      dsimp only
      go_upto_region 13 with fail
      generalize w5.setCell ⟨gx, 6, none⟩ (.slice o3 m3 c3) = w6 at *
      clear q6 f6
      obtain ⟨A, hA⟩ : ∃ A : Array Value, A = #[.int .u8 a.1, .int .u8 b.1, .int .u32 c.1, .int .u32 d.1, .slice ao m cc, .slice o2 m2 c2, .slice o3 m3 c3] := ⟨_, rfl⟩
      have HA := Lib.hid hA
      have hb := V6.out.box
      have hr := V6.out.res
      rw [← hA] at hb
      have hrs : (w6.setCells gr 0 A.toList).heap[gr]? = some (.cells A 32 (0, 0)) := by
        rw [setCells_block gr 32 _ 0 _ _ hr, hA]; simp [over, Z7]
      have hgb : ∀ {α : Type} {e : TypeId} {k : Nat} {enc : α → List Value} {ao : Option Addr} {m c : Nat} {l : List α}, RW w w6 gr gx e k enc ao m c l → RW w (w6.setCells gr 0 A.toList) gr gx e k enc ao m c l := fun h => h.kept (S := fun k => k = gr) kept_setCells (fun b hb e => (h.new b hb).2.1 e)
      have hkk : Kept (fun k => k = X) w (w6.setCells gr 0 A.toList) := V6.out.kept.trans (T := fun k => k = gr) kept_setCells (fun i hi e => by have := V6.out.old; omega)
      have hdd : Ds (w6.setCells gr 0 A.toList) X z.2 := V6.out.rd.kept (S := fun k => k = gr) kept_setCells (fun k hk e => by have := V6.out.old; have := V6.out.lt; omega)
      have hth : w6.there gr 0 A.size := there_row hr (by rw [hA]; rfl)
      have HO : Hid ((A.all fun x => x.oneCell') = true) := Lib.hid (by rw [hA]; simp [Value.oneCell'])
      have HZ : Hid ((Tryz.prog.info? 32).map (·.size) = some A.size) := Lib.hid (by rw [hA]; kernel_rfl)
      have HF := Lib.hid (And.intro hrs (And.intro hkk (And.intro hdd (And.intro (hgb R6.out) (And.intro (hgb P6.out) (hgb Q6.out))))))
      have HB := Lib.hid hb
      have HT := Lib.hid hth
      clear hb hr hrs hkk hdd hth hgb V6 R6 P6 Q6 hA
      refine wp_region_lit ?_
      refine wpList_load_row rfl 32 (.tmp 3) rfl gx rfl 32 _ (0, 0) _ HB.out Tryz.underlying32 rfl HZ.out ?_
      refine wpList_store_mid rfl 32 (.tmp 2) (.tmp 56) rfl gr 0 A (by rw [HG.out]; rfl) rfl HT.out HZ.out HO.out ?_
      dsimp only
      clear HB HT
      go_wp2_with fail
      (try simp only [Exit.inBlock, Exit.then])
      obtain ⟨f1, f2, f3, f4, f5, f6⟩ := HF.out
      rw [HA.out] at HZ f1
      refine bodyPost_ret (results_cell_row (P := Tryz.prog) rfl _ _ gr 32 _ (0, 0) _ (by rw [HG.out]; rfl) (HA.out ▸ HF.out.1) Tryz.underlying32 rfl HZ.out) rfl ?_
      exact ⟨gr, gx, ao, o2, o3, m, m2, m3, cc, c2, c3, rfl, f3, f2, f4, f5, f6⟩
end Go.Proofs.YtbpfkeeikhhlnaaGreatDoor
