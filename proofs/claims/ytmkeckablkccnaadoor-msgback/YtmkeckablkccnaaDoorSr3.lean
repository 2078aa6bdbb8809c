/- Lists are read. -/
import Derived.Test.YtmkeckablkccnaaDoorSr2
import Derived.Test.YtmkeckablkccnaaDoorVotesB
import Derived.Laws.MakeOwn
namespace Go.Proofs.YtmkeckablkccnaaDoor
open Go.RowKit
set_option maxRecDepth 100000

/-- so many, one behind the other -/
def pN {α : Type} (one : Sr → α × Sr) (s : Sr) : Nat → List α × Sr
  | 0 => ([], s)
  | j + 1 => ((pN one s j).1 ++ [(one (pN one s j).2).1], (one (pN one s j).2).2)
/-- n of them, most at most -/
def pL {α : Type} (one : Sr → α × Sr) (n most : Nat) (s : Sr) : List α × Sr := if s.f = 0 then (if n ≤ most then pN one s n else ([], ⟨s.l, 30⟩)) else ([], s)
theorem pN_len {α : Type} (one : Sr → α × Sr) (s : Sr) (j : Nat) : (pN one s j).1.length = j := by
  induction j with
  | zero => rfl
  | succ j ih => simp [pN, ih]
def TG (S R g : Nat) : Nat → Prop := fun k => SR S R k ∨ k = g
theorem flatV_len {α : Type} (enc : α → List Value) (k : Nat) (h : ∀ x, (enc x).length = k) (l : List α) : (l.flatMap enc).length = l.length * k := by
  induction l with
  | nil => simp
  | cons x r ih => simp [h, ih, Nat.succ_mul]; omega
theorem kept_setCells {w : World} {g o : Nat} {vs : List Value} : Kept (fun k => k = g) w (w.setCells g o vs) := by
  have hh := fun k (h : k ≠ g) => setCells_kept g vs o w k h
  refine ⟨?_, ?_, ?_, ?_, fun k hk' hs => ?_⟩
  · rw [(hh (g + 1) (by omega)).2.2.1]
  · rw [(hh (g + 1) (by omega)).2.2.2.1]
  · rw [(hh (g + 1) (by omega)).2.2.2.2]
  · rw [(hh (g + 1) (by omega)).2.1]; exact Nat.le_refl _
  · exact (hh k hs).1
theorem range_kept {T : Nat → Prop} {w w' : World} {g o : Nat} {cs : List Value} (h : w.rangeAt g o cs) (hk : Kept T w w') (hg : ¬ T g) : w'.rangeAt g o cs := fun j v hj => by
  have hc := h j v hj
  rw [← hc]
  exact World.cell?_of_block (hk.block g (cell_block hc) hg)
theorem there_kept {T : Nat → Prop} {w w' : World} {g o n : Nat} (h : w.there g o n) (hk : Kept T w w') (hg : ¬ T g) (hlt : g < w.heap.size) : w'.there g o n := fun j hj => by
  obtain ⟨h1, h2⟩ := h j hj
  have e := hk.block g hlt hg
  refine ⟨?_, ?_⟩
  · rw [World.cell?_of_block (w := w) e]; exact h1
  · rw [World.frozen?_of_block (w := w) e]; exact h2
theorem there_part {w : World} {g n o k : Nat} (h : w.there g 0 n) (hk : o + k ≤ n) : w.there g o k := fun j hj => by
  have := h (o + j) (by omega)
  simpa using this
/-- the row, behind j of n -/
structure RowJ {α : Type} (enc : α → List Value) (k : Nat) (one : Sr → α × Sr) (s : Sr) (w V wr : World) (S R g n j : Nat) : Prop where
  th : wr.there g 0 (n * k)
  ra : wr.rangeAt g 0 ((pN one s j).1.flatMap enc)
  sat : Sat wr S R (pN one s j).2
  kept : Kept (TG S R g) V wr
theorem RowJ.next {α : Type} {enc : α → List Value} {k : Nat} {one : Sr → α × Sr} {s : Sr} {w V wr w1 : World} {S R g n j : Nat} (h : RowJ enc k one s w V wr S R g n j) (henc : ∀ x, (enc x).length = k) (hs : Sat w1 S R (one (pN one s j).2).2) (hk : Kept (SR S R) wr w1)
    (hgS : g ≠ S) (hgR : R < g) (hlt : g < wr.heap.size) (hj : j < n) : w1.there g (j * k) k ∧ RowJ enc k one s w V (w1.setCells g (j * k) (enc (one (pN one s j).2).1)) S R g n (j + 1) := by
  have hnT : ¬ SR S R g := fun e => by rcases e with e | e; exact hgS e; omega
  have ht1 := there_kept h.th hk hnT hlt
  have hmul : j * k + k ≤ n * k := by rw [← Nat.succ_mul]; exact Nat.mul_le_mul_right k hj
  have htj := there_part (o := j * k) (k := k) ht1 hmul
  have hkg : Kept (fun k => k = g) w1 (w1.setCells g (j * k) (enc (one (pN one s j).2).1)) := kept_setCells
  refine ⟨htj, World.there_setCells ht1 _ _ _, ?_, hs.kept hkg (fun e => hgS e.symm) (fun i hi e => by omega), ?_⟩
  · have hr1 := range_kept h.ra hk hnT
    have ha := World.rangeAt_setCells_apart hr1 g (j * k) (enc (one (pN one s j).2).1) (.inr (.inl (by rw [flatV_len enc k henc, pN_len]; omega)))
    have hb := World.rangeAt_setCells_same w1 g (j * k) (enc (one (pN one s j).2).1) (by rw [henc]; exact htj)
    intro i v hi
    simp only [pN, List.flatMap_append, List.flatMap_cons, List.flatMap_nil, List.append_nil] at hi
    by_cases hlt : i < ((pN one s j).1.flatMap enc).length
    · rw [List.getElem?_append_left hlt] at hi
      exact ha i v hi
    · rw [List.getElem?_append_right (by omega)] at hi
      have hl := flatV_len enc k henc (pN one s j).1
      rw [pN_len] at hl
      have := hb _ v hi
      rw [hl] at this
      rw [hl] at hlt
      rw [show 0 + i = j * k + (i - j * k) from by omega]
      exact this
  · exact (h.kept.trans hk (fun i _ e => .inl e)).trans hkg (fun i _ e => .inr e)
theorem RowJ.row {α : Type} {enc : α → List Value} {k : Nat} {one : Sr → α × Sr} {s : Sr} {w V wr : World} {S R g n : Nat} (h : RowJ enc k one s w V wr S R g n n) (henc : ∀ x, (enc x).length = k) (hn : n ≤ 1000) : Row wr k enc (.slice (some ⟨g, 0, none⟩) n n) (pN one s n).1 := by
  refine ⟨some ⟨g, 0, none⟩, n, by rw [pN_len], (fun e => by cases e), by rw [pN_len]; exact Nat.le_refl _, by rw [pN_len]; omega, fun j x hj => ⟨g, 0, rfl, fun i u hu => ?_⟩⟩
  have key : ∀ (xs : List α) (j i : Nat) (x : α) (u : Value), xs[j]? = some x → (enc x)[i]? = some u → (xs.flatMap enc)[j * k + i]? = some u := by
    intro xs
    induction xs with
    | nil => intro j i x u hx; simp at hx
    | cons y r ih =>
      intro j i x u hx hu
      have hy := henc y
      cases j with
      | zero =>
        simp at hx
        subst hx
        have hi : i < (enc y).length := by
          rcases Nat.lt_or_ge i (enc y).length with h | h
          · exact h
          · rw [List.getElem?_eq_none h] at hu; cases hu
        rw [List.flatMap_cons, Nat.zero_mul, Nat.zero_add, List.getElem?_append_left hi]; exact hu
      | succ j =>
        rw [List.flatMap_cons, List.getElem?_append_right (by rw [hy, Nat.succ_mul]; omega), hy]
        have := ih j i x u (by simpa using hx) hu
        rw [show (j + 1) * k + i - k = j * k + i from by rw [Nat.succ_mul]; omega]
        exact this
  have := h.ra (j * k + i) u (key _ j i x u hj hu)
  simpa [Nat.add_assoc] using this
theorem made_size (z : Array Value) (n : Nat) : (madeCells z n).size = n := size_madeCells _ _
theorem Kept.new2 {S R g : Nat} {w wr : World} (h : Kept (TG S R g) w wr) (hg : w.heap.size ≤ g) : Kept (SR S R) w wr :=
  h.mono (fun i hi e => by rcases e with e | e; exact e; omega)

theorem info51' : (Tryd.prog.info? 127).map (fun i => (i.zero, i.size, i.bytes)) = some (some (.agg #[.int .u32 0, .int .u64 0]), 2, 16) := by kernel_rfl
set_option maxHeartbeats 4000000 in
theorem listMk (w : World) (S R : Nat) (s : Sr) (h : Sat w S R s) (n most : Nat) (hn : n ≤ 255) (hm : most ≤ 255) :
    Calls Tryd.prog 104 #[.pointer (some ⟨S, 0, none⟩), .int .i64 n, .int .i64 most, .func (.func 105) #[.pointer (some ⟨S, 0, none⟩)] #[]] w fun e w' => ∃ v : Sl, e = .returned (.slice v.a v.n v.c) ∧ Row w' 2 Mk.cells v.val (pL pMk n most s).1 ∧ (∀ ad, v.a = some ad → w.heap.size ≤ ad.block) ∧ Sat w' S R (pL pMk n most s).2 ∧ Kept (SR S R) w w' := by
  have q1 := h.cell1
  have z1 := h.free1
  have H := Lib.hid h
  unfold pL
  by_cases hf : s.f = 0
  · rw [if_pos hf]
    rw [hf] at q1
    by_cases hk : n ≤ most
    · rw [if_pos hk]
      obtain ⟨i0, hinfo⟩ := info_parts info51'
      obtain ⟨hi, hz0, hz1, hz2⟩ := hinfo
      have hmk : (Instr.makeSlice 29 (.int .i64 (n : Int)) (.int .i64 (n : Int))).run Tryd.prog w = .ok (.slice (some ⟨w.heap.size, 0, none⟩) n n) (w.alloc (.cells (madeCells (.agg #[.int .u32 0, .int .u64 0] : Value).cells (n * 2)) 127)) := by
        have := run_makeSlice (P := Tryd.prog) w 29 127 i0 _ Tryd.underlying29 hi hz0 .i64 .i64 n n (by omega) (by omega) (by rw [hz1]; simp; omega) (by rw [hz2]; omega) (by omega)
        rw [hz1] at this
        simpa using this
      obtain ⟨V, hV⟩ : ∃ V, V = w.alloc (.cells (madeCells (.agg #[.int .u32 0, .int .u64 0] : Value).cells (n * 2)) 127) := ⟨_, rfl⟩
      rw [← hV] at hmk
      have hbl : Below w.heap.size w V := by rw [hV]; exact (Below.refl _ _).alloc (Nat.le_refl _) _
      have hbx : V.heap[w.heap.size]? = some (.cells (madeCells (.agg #[.int .u32 0, .int .u64 0] : Value).cells (n * 2)) 127 (0, 0)) := by rw [hV]; exact heap_alloc_new _ _
      have HJ0 : Hid (RowJ Mk.cells 2 pMk s w V V S R w.heap.size n 0) := Lib.hid ⟨there_row hbx (made_size _ _), fun j v hj => by simp [pN] at hj, h.on hbl, Kept.refl _ _⟩
      have HBL := Lib.hid hbl
      have HLT := Lib.hid (lt_of_block hbx)
      have HGS := Lib.hid (show w.heap.size ≠ S by have := h.lt; omega)
      have HGR := Lib.hid (show R < w.heap.size from h.lt.2)
      obtain ⟨g, hg⟩ : ∃ g, g = w.heap.size := ⟨_, rfl⟩
      have HG := Lib.hid (show w.heap.size ≤ g by omega)
      rw [← hg] at hmk HJ0 HLT HGS HGR
      clear h hf hV hbl hbx hi hz0 hz1 hz2 hg
      go_enter Tryd.func104, Tryd.ntmps104
      go_wp2_with fail
      go_loopw [33] (fun vi wr => ∃ j : Nat, j ≤ n ∧ vi = .int .i64 j ∧ Hid (RowJ Mk.cells 2 pMk s w V wr S R g n j)) (fun i _ => n - (intOf i).toNat)
      case atStart => exact ⟨0, Nat.zero_le _, rfl, HJ0⟩
      case round =>
        obtain ⟨j, hj, rfl, HJ⟩ := hrel
        clear HJ0
        by_cases hlt : j < n
        · go_wp2_with fail
          refine Calls.mono (mark_any wr S R _ HJ.out.sat) ?_
          rintro e w1 ⟨rfl, h1, h2⟩
          obtain ⟨ht, hj1⟩ := HJ.out.next (fun x => rfl) h1 h2 HGS.out HGR.out (Nat.lt_of_lt_of_le HLT.out HJ.out.kept.size) hlt
          have HTH := Lib.hid ht
          have HJ1 := Lib.hid hj1
          clear h1 h2 ht hj1 HJ
          generalize (pMk (pN pMk s j).2).1 = x at *
          go_wp2_with (first | (refine wpList_store_mid rfl 127 (.tmp 40) (.tmp 39) rfl g (j * 2) x.cells.toArray (by first | rfl | simp) rfl HTH.out size51 (all_oneCell_toArray (by intro u hu; simp [Mk.cells] at hu; (repeat' (rcases hu with rfl | hu)); all_goals first | rfl | (subst hu; rfl))) ?_; refine Hid.out ?_) | go_in)
          refine Lib.hid ?_
          generalize w1.setCells g (j * 2) x.cells = w9 at *
          clear HTH
          go_wp2_with fail
          go_round
          case rel => exact ⟨j + 1, by omega, by go_num, HJ1⟩
          case measure => simp [intOf]; omega
        · obtain rfl : j = n := by omega
          go_wp2_with fail
          go_ret
          refine ⟨⟨some ⟨g, 0, none⟩, j, j⟩, rfl, HJ.out.row (fun x => rfl) (by omega), (fun ad e => by injection e with e; subst e; exact HG.out), HJ.out.sat, ?_⟩
          exact (Kept.ofBelow (S := TG S R g) HBL.out).trans HJ.out.kept (fun _ _ h => h) |>.new2 HG.out
    · rw [if_neg hk]
      simp only
      clear h hf
      go_enter Tryd.func104, Tryd.ntmps104
      go_wp2_with fail
      go_ret
      exact ⟨⟨none, 0, 0⟩, rfl, Row.nil _ _ _, (fun ad e => by cases e), H.out.fault 30, Kept.sf ((Kept.refl _ _).setCell _ _ (fun _ => rfl))⟩
  · rw [if_neg hf]
    have hf2 : (s.f == 0) = false := by simp [hf]
    simp only
    clear h hf
    by_cases hk : n ≤ most
    · go_enter Tryd.func104, Tryd.ntmps104
      go_wp2_with fail
      go_ret
      exact ⟨⟨none, 0, 0⟩, rfl, Row.nil _ _ _, (fun ad e => by cases e), H.out, Kept.refl _ _⟩
    · go_enter Tryd.func104, Tryd.ntmps104
      go_wp2_with fail
      go_ret
      exact ⟨⟨none, 0, 0⟩, rfl, Row.nil _ _ _, (fun ad e => by cases e), H.out, Kept.refl _ _⟩

theorem info49' : (Tryd.prog.info? 130).map (fun i => (i.zero, i.size, i.bytes)) = some (some (.agg #[.int .u32 0, .int .u32 0, .int .u8 0, .int .u32 0, .int .u8 0, .int .u8 0, .int .u16 0]), 7, 20) := by kernel_rfl
set_option maxHeartbeats 4000000 in
theorem listEn (w : World) (S R : Nat) (s : Sr) (h : Sat w S R s) (n most : Nat) (hn : n ≤ 255) (hm : most ≤ 255) :
    Calls Tryd.prog 106 #[.pointer (some ⟨S, 0, none⟩), .int .i64 n, .int .i64 most, .func (.func 107) #[.pointer (some ⟨S, 0, none⟩)] #[]] w fun e w' => ∃ v : Sl, e = .returned (.slice v.a v.n v.c) ∧ Row w' 7 En.cells v.val (pL pEn n most s).1 ∧ (∀ ad, v.a = some ad → w.heap.size ≤ ad.block) ∧ Sat w' S R (pL pEn n most s).2 ∧ Kept (SR S R) w w' := by
  have q1 := h.cell1
  have z1 := h.free1
  have H := Lib.hid h
  unfold pL
  by_cases hf : s.f = 0
  · rw [if_pos hf]
    rw [hf] at q1
    by_cases hk : n ≤ most
    · rw [if_pos hk]
      obtain ⟨i0, hinfo⟩ := info_parts info49'
      obtain ⟨hi, hz0, hz1, hz2⟩ := hinfo
      have hmk : (Instr.makeSlice 30 (.int .i64 (n : Int)) (.int .i64 (n : Int))).run Tryd.prog w = .ok (.slice (some ⟨w.heap.size, 0, none⟩) n n) (w.alloc (.cells (madeCells (.agg #[.int .u32 0, .int .u32 0, .int .u8 0, .int .u32 0, .int .u8 0, .int .u8 0, .int .u16 0] : Value).cells (n * 7)) 130)) := by
        have := run_makeSlice (P := Tryd.prog) w 30 130 i0 _ Tryd.underlying30 hi hz0 .i64 .i64 n n (by omega) (by omega) (by rw [hz1]; simp; omega) (by rw [hz2]; omega) (by omega)
        rw [hz1] at this
        simpa using this
      obtain ⟨V, hV⟩ : ∃ V, V = w.alloc (.cells (madeCells (.agg #[.int .u32 0, .int .u32 0, .int .u8 0, .int .u32 0, .int .u8 0, .int .u8 0, .int .u16 0] : Value).cells (n * 7)) 130) := ⟨_, rfl⟩
      rw [← hV] at hmk
      have hbl : Below w.heap.size w V := by rw [hV]; exact (Below.refl _ _).alloc (Nat.le_refl _) _
      have hbx : V.heap[w.heap.size]? = some (.cells (madeCells (.agg #[.int .u32 0, .int .u32 0, .int .u8 0, .int .u32 0, .int .u8 0, .int .u8 0, .int .u16 0] : Value).cells (n * 7)) 130 (0, 0)) := by rw [hV]; exact heap_alloc_new _ _
      have HJ0 : Hid (RowJ En.cells 7 pEn s w V V S R w.heap.size n 0) := Lib.hid ⟨there_row hbx (made_size _ _), fun j v hj => by simp [pN] at hj, h.on hbl, Kept.refl _ _⟩
      have HBL := Lib.hid hbl
      have HLT := Lib.hid (lt_of_block hbx)
      have HGS := Lib.hid (show w.heap.size ≠ S by have := h.lt; omega)
      have HGR := Lib.hid (show R < w.heap.size from h.lt.2)
      obtain ⟨g, hg⟩ : ∃ g, g = w.heap.size := ⟨_, rfl⟩
      have HG := Lib.hid (show w.heap.size ≤ g by omega)
      rw [← hg] at hmk HJ0 HLT HGS HGR
      clear h hf hV hbl hbx hi hz0 hz1 hz2 hg
      go_enter Tryd.func106, Tryd.ntmps106
      go_wp2_with fail
      go_loopw [33] (fun vi wr => ∃ j : Nat, j ≤ n ∧ vi = .int .i64 j ∧ Hid (RowJ En.cells 7 pEn s w V wr S R g n j)) (fun i _ => n - (intOf i).toNat)
      case atStart => exact ⟨0, Nat.zero_le _, rfl, HJ0⟩
      case round =>
        obtain ⟨j, hj, rfl, HJ⟩ := hrel
        clear HJ0
        by_cases hlt : j < n
        · go_wp2_with fail
          refine Calls.mono (entry_any wr S R _ HJ.out.sat) ?_
          rintro e w1 ⟨rfl, h1, h2⟩
          obtain ⟨ht, hj1⟩ := HJ.out.next (fun x => rfl) h1 h2 HGS.out HGR.out (Nat.lt_of_lt_of_le HLT.out HJ.out.kept.size) hlt
          have HTH := Lib.hid ht
          have HJ1 := Lib.hid hj1
          clear h1 h2 ht hj1 HJ
          generalize (pEn (pN pEn s j).2).1 = x at *
          go_wp2_with (first | (refine wpList_store_mid rfl 130 (.tmp 40) (.tmp 39) rfl g (j * 7) x.cells.toArray (by first | rfl | simp) rfl HTH.out size49 (all_oneCell_toArray (by intro u hu; simp [En.cells] at hu; (repeat' (rcases hu with rfl | hu)); all_goals first | rfl | (subst hu; rfl))) ?_; refine Hid.out ?_) | go_in)
          refine Lib.hid ?_
          generalize w1.setCells g (j * 7) x.cells = w9 at *
          clear HTH
          go_wp2_with fail
          go_round
          case rel => exact ⟨j + 1, by omega, by go_num, HJ1⟩
          case measure => simp [intOf]; omega
        · obtain rfl : j = n := by omega
          go_wp2_with fail
          go_ret
          refine ⟨⟨some ⟨g, 0, none⟩, j, j⟩, rfl, HJ.out.row (fun x => rfl) (by omega), (fun ad e => by injection e with e; subst e; exact HG.out), HJ.out.sat, ?_⟩
          exact (Kept.ofBelow (S := TG S R g) HBL.out).trans HJ.out.kept (fun _ _ h => h) |>.new2 HG.out
    · rw [if_neg hk]
      simp only
      clear h hf
      go_enter Tryd.func106, Tryd.ntmps106
      go_wp2_with fail
      go_ret
      exact ⟨⟨none, 0, 0⟩, rfl, Row.nil _ _ _, (fun ad e => by cases e), H.out.fault 30, Kept.sf ((Kept.refl _ _).setCell _ _ (fun _ => rfl))⟩
  · rw [if_neg hf]
    have hf2 : (s.f == 0) = false := by simp [hf]
    simp only
    clear h hf
    by_cases hk : n ≤ most
    · go_enter Tryd.func106, Tryd.ntmps106
      go_wp2_with fail
      go_ret
      exact ⟨⟨none, 0, 0⟩, rfl, Row.nil _ _ _, (fun ad e => by cases e), H.out, Kept.refl _ _⟩
    · go_enter Tryd.func106, Tryd.ntmps106
      go_wp2_with fail
      go_ret
      exact ⟨⟨none, 0, 0⟩, rfl, Row.nil _ _ _, (fun ad e => by cases e), H.out, Kept.refl _ _⟩

theorem info28' : (Tryd.prog.info? 28).map (fun i => (i.zero, i.size, i.bytes)) = some (some (.int .u64 0), 1, 8) := by kernel_rfl
set_option maxHeartbeats 4000000 in
theorem listU64 (w : World) (S R : Nat) (s : Sr) (h : Sat w S R s) (n most : Nat) (hn : n ≤ 255) (hm : most ≤ 255) :
    Calls Tryd.prog 72 #[.pointer (some ⟨S, 0, none⟩), .int .i64 n, .int .i64 most, .func (.func 69) #[.pointer (some ⟨S, 0, none⟩)] #[]] w fun e w' => ∃ v : Sl, e = .returned (.slice v.a v.n v.c) ∧ Row w' 1 ucell v.val (pL p64 n most s).1 ∧ (∀ ad, v.a = some ad → w.heap.size ≤ ad.block) ∧ Sat w' S R (pL p64 n most s).2 ∧ Kept (SR S R) w w' := by
  have q1 := h.cell1
  have z1 := h.free1
  have H := Lib.hid h
  unfold pL
  by_cases hf : s.f = 0
  · rw [if_pos hf]
    rw [hf] at q1
    by_cases hk : n ≤ most
    · rw [if_pos hk]
      obtain ⟨i0, hinfo⟩ := info_parts info28'
      obtain ⟨hi, hz0, hz1, hz2⟩ := hinfo
      have hmk : (Instr.makeSlice 34 (.int .i64 (n : Int)) (.int .i64 (n : Int))).run Tryd.prog w = .ok (.slice (some ⟨w.heap.size, 0, none⟩) n n) (w.alloc (.cells (madeCells (.int .u64 0 : Value).cells (n * 1)) 28)) := by
        have := run_makeSlice (P := Tryd.prog) w 34 28 i0 _ Tryd.underlying34 hi hz0 .i64 .i64 n n (by omega) (by omega) (by rw [hz1]; simp; omega) (by rw [hz2]; omega) (by omega)
        rw [hz1] at this
        simpa using this
      obtain ⟨V, hV⟩ : ∃ V, V = w.alloc (.cells (madeCells (.int .u64 0 : Value).cells (n * 1)) 28) := ⟨_, rfl⟩
      rw [← hV] at hmk
      have hbl : Below w.heap.size w V := by rw [hV]; exact (Below.refl _ _).alloc (Nat.le_refl _) _
      have hbx : V.heap[w.heap.size]? = some (.cells (madeCells (.int .u64 0 : Value).cells (n * 1)) 28 (0, 0)) := by rw [hV]; exact heap_alloc_new _ _
      have HJ0 : Hid (RowJ ucell 1 p64 s w V V S R w.heap.size n 0) := Lib.hid ⟨there_row hbx (made_size _ _), fun j v hj => by simp [pN] at hj, h.on hbl, Kept.refl _ _⟩
      have HBL := Lib.hid hbl
      have HLT := Lib.hid (lt_of_block hbx)
      have HGS := Lib.hid (show w.heap.size ≠ S by have := h.lt; omega)
      have HGR := Lib.hid (show R < w.heap.size from h.lt.2)
      obtain ⟨g, hg⟩ : ∃ g, g = w.heap.size := ⟨_, rfl⟩
      have HG := Lib.hid (show w.heap.size ≤ g by omega)
      rw [← hg] at hmk HJ0 HLT HGS HGR
      clear h hf hV hbl hbx hi hz0 hz1 hz2 hg
      go_enter Tryd.func72, Tryd.ntmps72
      go_wp2_with fail
      go_loopw [33] (fun vi wr => ∃ j : Nat, j ≤ n ∧ vi = .int .i64 j ∧ Hid (RowJ ucell 1 p64 s w V wr S R g n j)) (fun i _ => n - (intOf i).toNat)
      case atStart => exact ⟨0, Nat.zero_le _, rfl, HJ0⟩
      case round =>
        obtain ⟨j, hj, rfl, HJ⟩ := hrel
        clear HJ0
        by_cases hlt : j < n
        · go_wp2_with fail
          refine Calls.mono (s64 wr S R _ HJ.out.sat) ?_
          rintro e w1 ⟨rfl, h1, h2⟩
          obtain ⟨ht, hj1⟩ := HJ.out.next (fun x => rfl) h1 h2 HGS.out HGR.out (Nat.lt_of_lt_of_le HLT.out HJ.out.kept.size) hlt
          have HTH := Lib.hid ht
          have HJ1 := Lib.hid hj1
          clear h1 h2 ht hj1 HJ
          generalize (p64 (pN p64 s j).2).1 = x at *
          have hs1 : w1.setCells g (j * 1) (ucell x) = w1.setCell ⟨g, j, none⟩ (.int .u64 x) := by simp [ucell, World.setCells]
          rw [hs1] at HJ1
          have h0 := HTH.out 0 (by omega)
          simp only [Nat.mul_one, Nat.add_zero] at h0
          obtain ⟨h01, zf⟩ := h0
          obtain ⟨old, hc⟩ := Option.isSome_iff_exists.1 h01
          clear hs1 h01 HTH
          go_wp2_with fail
          go_round
          case rel => exact ⟨j + 1, by omega, by go_num, HJ1⟩
          case measure => simp [intOf]; omega
        · obtain rfl : j = n := by omega
          go_wp2_with fail
          go_ret
          refine ⟨⟨some ⟨g, 0, none⟩, j, j⟩, rfl, HJ.out.row (fun x => rfl) (by omega), (fun ad e => by injection e with e; subst e; exact HG.out), HJ.out.sat, ?_⟩
          exact (Kept.ofBelow (S := TG S R g) HBL.out).trans HJ.out.kept (fun _ _ h => h) |>.new2 HG.out
    · rw [if_neg hk]
      simp only
      clear h hf
      go_enter Tryd.func72, Tryd.ntmps72
      go_wp2_with fail
      go_ret
      exact ⟨⟨none, 0, 0⟩, rfl, Row.nil _ _ _, (fun ad e => by cases e), H.out.fault 30, Kept.sf ((Kept.refl _ _).setCell _ _ (fun _ => rfl))⟩
  · rw [if_neg hf]
    have hf2 : (s.f == 0) = false := by simp [hf]
    simp only
    clear h hf
    by_cases hk : n ≤ most
    · go_enter Tryd.func72, Tryd.ntmps72
      go_wp2_with fail
      go_ret
      exact ⟨⟨none, 0, 0⟩, rfl, Row.nil _ _ _, (fun ad e => by cases e), H.out, Kept.refl _ _⟩
    · go_enter Tryd.func72, Tryd.ntmps72
      go_wp2_with fail
      go_ret
      exact ⟨⟨none, 0, 0⟩, rfl, Row.nil _ _ _, (fun ad e => by cases e), H.out, Kept.refl _ _⟩
end Go.Proofs.YtmkeckablkccnaaDoor
