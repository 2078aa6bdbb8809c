/- Votes of marks or entries at given places: whether they are votes. Lists are read. A vote is read. Votes are read, one behind the other. The bytes of a page are read. -/
import Derived.Test.YtbpfkeeikhhlnaaGreatDoorC07
import Derived.Test.YtbpfkeeikhhlnaaGreatDoorR01
import Derived.Laws.MakeOwn
namespace Go.Proofs.YtbpfkeeikhhlnaaGreatDoor
open Go.RowKit
set_option maxRecDepth 100000

/-- a row that a call made is a list in memory -/
theorem row_of_own {α : Type} {w : World} {e k n : Nat} {enc : α → List Value} {ao : Option Addr} {cap : Nat} {xs : List α} (hk : ∀ x ∈ xs, (enc x).length = k) (h : w.ownsRow 0 e k (.slice ao n cap) n (xs.flatMap enc)) (hn : xs.length = n) (hl : n ≤ 1000000) : Row w k enc (.slice ao n cap) xs := by
  have key : ∀ (xs : List α) (j i : Nat) (x : α) (u : Value), (∀ x ∈ xs, (enc x).length = k) → xs[j]? = some x → (enc x)[i]? = some u → (xs.flatMap enc)[j * k + i]? = some u := by
    intro xs
    induction xs with
    | nil => intro j i x u _ hx _; simp at hx
    | cons y r ih =>
      intro j i x u hk hx hu
      rw [List.flatMap_cons]
      have hy := hk y (by simp)
      cases j with
      | zero =>
        simp at hx; subst hx
        have hi : i < (enc y).length := (List.getElem?_eq_some_iff.1 hu).1
        rw [Nat.zero_mul, Nat.zero_add, List.getElem?_append_left hi]; exact hu
      | succ j =>
        have h2 := ih j i x u (fun z hz => hk z (by simp [hz])) (by simpa using hx) hu
        rw [List.getElem?_append_right (by rw [hy, Nat.succ_mul]; omega), hy]
        have e : (j + 1) * k + i - k = j * k + i := by rw [Nat.succ_mul]; omega
        rw [e]; exact h2
  rcases h.2 with ⟨hv, h0⟩ | ⟨g, cap', cur, hv, _, _, hnc, _⟩
  · injection hv with h1 h2 h3
    subst h1 h3
    obtain rfl : xs = [] := List.eq_nil_of_length_eq_zero (by omega)
    subst h0
    exact ⟨none, 0, rfl, fun _ => rfl, Nat.le_refl _, by simp, fun j x hj => by simp at hj⟩
  · injection hv with h1 h2 h3
    subst h1 h3
    refine ⟨some ⟨g, 0, none⟩, cap, by rw [hn], (fun e => by cases e), by omega, by omega, fun j x hj => ⟨g, 0, rfl, fun i u hu => ?_⟩⟩
    have h7 := h.cells (g := g) rfl (j * k + i) u (key xs j i x u hk hj hu)
    have e7 : (⟨g, 0, none⟩ : Addr).add (j * k + i) = ⟨g, 0 + j * k + i, none⟩ := by
      unfold Addr.add
      split
      · rename_i h8; simp at h8; simp
      · simp
    rw [e7] at h7; exact h7

/-- n of them, most at most -/
def pL {α : Type} (one : Sr → α × Sr) (n most : Nat) (s : Sr) : List α × Sr := if s.f = 0 then (if n ≤ most then pN one s n else ([], ⟨s.l, 30⟩)) else ([], s)
theorem flatV_len {α : Type} (enc : α → List Value) (k : Nat) (h : ∀ x, (enc x).length = k) (l : List α) : (l.flatMap enc).length = l.length * k := by
  induction l with
  | nil => simp
  | cons x r ih => simp [h, ih, Nat.succ_mul]; omega
theorem range_kept {T : Nat → Prop} {w w' : World} {g o : Nat} {cs : List Value} (h : w.rangeAt g o cs) (hk : Kept T w w') (hg : ¬ T g) : w'.rangeAt g o cs := fun j v hj => by
  have hc := h j v hj
  rw [← hc]
  exact World.cell?_of_block (hk.block g (cell_block hc) hg)
theorem there_kept {T : Nat → Prop} {w w' : World} {g o n : Nat} (h : w.there g o n) (hk : Kept T w w') (hg : ¬ T g) (hlt : g < w.heap.size) : w'.there g o n := fun j hj => by
  obtain ⟨h1, h2⟩ := h j hj
  have e := hk.block g hlt hg
  refine ⟨?_, ?_⟩
  · rw [World.cell?_of_block (w := w) e]; exact h1
  · rw [World.frozen?_of_block (w := w) e]; exact h2
theorem RowJ.next {α : Type} {enc : α → List Value} {k : Nat} {one : Sr → α × Sr} {s : Sr} {w V wr w1 : World} {S R g n j : Nat} (h : RowJ enc k one s w V wr S R g n j) (henc : ∀ x, (enc x).length = k) (hs : Sat w1 S R (one (pN one s j).2).2) (hk : Kept (SR S R) wr w1)
    (hgS : g ≠ S) (hgR : R < g) (hlt : g < wr.heap.size) (hj : j < n) : w1.there g (j * k) k ∧ RowJ enc k one s w V (w1.setCells g (j * k) (enc (one (pN one s j).2).1)) S R g n (j + 1) := by
  have hnT : ¬ SR S R g := fun e => by rcases e with e | e; exact hgS e; omega
  have ht1 := there_kept h.th hk hnT hlt
  have hmul : j * k + k ≤ n * k := by rw [← Nat.succ_mul]; exact Nat.mul_le_mul_right k hj
  have htj := there_part (o := j * k) (k := k) ht1 hmul
  have hkg : Kept (fun k => k = g) w1 (w1.setCells g (j * k) (enc (one (pN one s j).2).1)) := kept_setCells
  refine ⟨htj, World.there_setCells ht1 _ _ _, ?_, hs.kept hkg (fun e => hgS e.symm) (fun i hi e => by omega), ?_⟩
  · have hr1 := range_kept h.ra hk hnT
    have ha := World.rangeAt_setCells_apart hr1 g (j * k) (enc (one (pN one s j).2).1) (.inr (.inl (by rw [flatV_len enc k henc, pN_len]; omega)))
    have hb := World.rangeAt_setCells_same w1 g (j * k) (enc (one (pN one s j).2).1) (by rw [henc]; exact htj)
    intro i v hi
    simp only [pN, List.flatMap_append, List.flatMap_cons, List.flatMap_nil, List.append_nil] at hi
    by_cases hlt : i < ((pN one s j).1.flatMap enc).length
    · rw [List.getElem?_append_left hlt] at hi
      exact ha i v hi
    · rw [List.getElem?_append_right (by omega)] at hi
      have hl := flatV_len enc k henc (pN one s j).1
      rw [pN_len] at hl
      have := hb _ v hi
      rw [hl] at this
      rw [hl] at hlt
      rw [show 0 + i = j * k + (i - j * k) from by omega]
      exact this
  · exact (h.kept.trans hk (fun i _ e => .inl e)).trans hkg (fun i _ e => .inr e)
theorem made_size (z : Array Value) (n : Nat) : (madeCells z n).size = n := size_madeCells _ _
theorem Kept.new2 {S R g : Nat} {w wr : World} (h : Kept (TG S R g) w wr) (hg : w.heap.size ≤ g) : Kept (SR S R) w wr :=
  h.mono (fun i hi e => by rcases e with e | e; exact e; omega)

theorem info51' : (Tryz.prog.info? 77).map (fun i => (i.zero, i.size, i.bytes)) = some (some (.agg #[.int .u32 0, .int .u64 0]), 2, 16) := by kernel_rfl
set_option maxHeartbeats 4000000 in
theorem listMk (w : World) (S R : Nat) (s : Sr) (h : Sat w S R s) (n most : Nat) (hn : n ≤ 255) (hm : most ≤ 255) :
    Calls Tryz.prog 110 #[.pointer (some ⟨S, 0, none⟩), .int .i64 n, .int .i64 most, .func (.func 111) #[.pointer (some ⟨S, 0, none⟩)] #[]] w fun e w' => ∃ v : Sl, e = .returned (.slice v.a v.n v.c) ∧ Row w' 2 Mk.cells v.val (pL pMk n most s).1 ∧ (∀ ad, v.a = some ad → w.heap.size ≤ ad.block) ∧ Sat w' S R (pL pMk n most s).2 ∧ Kept (SR S R) w w' := by
  have q1 := h.cell1
  have z1 := h.free1
  have H := Lib.hid h
  unfold pL
  by_cases hf : s.f = 0
  · rw [if_pos hf]
    rw [hf] at q1
    by_cases hk : n ≤ most
    · rw [if_pos hk]
      obtain ⟨i0, hinfo⟩ := info_parts info51'
      obtain ⟨hi, hz0, hz1, hz2⟩ := hinfo
      have hmk : (Instr.makeSlice 29 (.int .i64 (n : Int)) (.int .i64 (n : Int))).run Tryz.prog w = .ok (.slice (some ⟨w.heap.size, 0, none⟩) n n) (w.alloc (.cells (madeCells (.agg #[.int .u32 0, .int .u64 0] : Value).cells (n * 2)) 77)) := by
        have := run_makeSlice (P := Tryz.prog) w 29 77 i0 _ Tryz.underlying29 hi hz0 .i64 .i64 n n (by omega) (by omega) (by rw [hz1]; simp; omega) (by rw [hz2]; omega) (by omega)
        rw [hz1] at this
        simpa using this
      obtain ⟨V, hV⟩ : ∃ V, V = w.alloc (.cells (madeCells (.agg #[.int .u32 0, .int .u64 0] : Value).cells (n * 2)) 77) := ⟨_, rfl⟩
      rw [← hV] at hmk
      have hbl : Below w.heap.size w V := by rw [hV]; exact (Below.refl _ _).alloc (Nat.le_refl _) _
      have hbx : V.heap[w.heap.size]? = some (.cells (madeCells (.agg #[.int .u32 0, .int .u64 0] : Value).cells (n * 2)) 77 (0, 0)) := by rw [hV]; exact heap_alloc_new _ _
      have HJ0 : Hid (RowJ Mk.cells 2 pMk s w V V S R w.heap.size n 0) := Lib.hid ⟨there_row hbx (made_size _ _), fun j v hj => by simp [pN] at hj, h.on hbl, Kept.refl _ _⟩
      have HBL := Lib.hid hbl
      have HLT := Lib.hid (lt_of_block hbx)
      have HGS := Lib.hid (show w.heap.size ≠ S by have := h.lt; omega)
      have HGR := Lib.hid (show R < w.heap.size from h.lt.2)
      obtain ⟨g, hg⟩ : ∃ g, g = w.heap.size := ⟨_, rfl⟩
      have HG := Lib.hid (show w.heap.size ≤ g by omega)
      rw [← hg] at hmk HJ0 HLT HGS HGR
      clear h hf hV hbl hbx hi hz0 hz1 hz2 hg
      go_enter Tryz.func110, Tryz.ntmps110
      go_wp2_with fail
      go_loopw [33] (fun vi wr => ∃ j : Nat, j ≤ n ∧ vi = .int .i64 j ∧ Hid (RowJ Mk.cells 2 pMk s w V wr S R g n j)) (fun i _ => n - (intOf i).toNat)
      case atStart => exact ⟨0, Nat.zero_le _, rfl, HJ0⟩
      case round =>
        obtain ⟨j, hj, rfl, HJ⟩ := hrel
        clear HJ0
        by_cases hlt : j < n
        · go_wp2_with fail
          refine Calls.mono (mark_any wr S R _ HJ.out.sat) ?_
          rintro e w1 ⟨rfl, h1, h2⟩
          obtain ⟨ht, hj1⟩ := HJ.out.next (fun x => rfl) h1 h2 HGS.out HGR.out (Nat.lt_of_lt_of_le HLT.out HJ.out.kept.size) hlt
          have HTH := Lib.hid ht
          have HJ1 := Lib.hid hj1
          clear h1 h2 ht hj1 HJ
          generalize (pMk (pN pMk s j).2).1 = x at *
          go_wp2_with (first | (refine wpList_store_mid rfl 77 (.tmp 40) (.tmp 39) rfl g (j * 2) x.cells.toArray (by first | rfl | simp) rfl HTH.out size51 (all_oneCell_toArray (by intro u hu; simp [Mk.cells] at hu; (repeat' (rcases hu with rfl | hu)); all_goals first | rfl | (subst hu; rfl))) ?_; refine Hid.out ?_) | go_in)
          refine Lib.hid ?_
          generalize w1.setCells g (j * 2) x.cells = w9 at *
          clear HTH
          go_wp2_with fail
          go_round
          case rel => exact ⟨j + 1, by omega, by go_num, HJ1⟩
          case measure => simp [intOf]; omega
        · obtain rfl : j = n := by omega
          go_wp2_with fail
          go_ret
          refine ⟨⟨some ⟨g, 0, none⟩, j, j⟩, rfl, HJ.out.row (fun x => rfl) (by omega), (fun ad e => by injection e with e; subst e; exact HG.out), HJ.out.sat, ?_⟩
          exact (Kept.ofBelow (S := TG S R g) HBL.out).trans HJ.out.kept (fun _ _ h => h) |>.new2 HG.out
    · rw [if_neg hk]
      simp only
      clear h hf
      go_enter Tryz.func110, Tryz.ntmps110
      go_wp2_with fail
      go_ret
      exact ⟨⟨none, 0, 0⟩, rfl, Row.nil _ _ _, (fun ad e => by cases e), H.out.fault 30, Kept.sf ((Kept.refl _ _).setCell _ _ (fun _ => rfl))⟩
  · rw [if_neg hf]
    have hf2 : (s.f == 0) = false := by simp [hf]
    simp only
    clear h hf
    by_cases hk : n ≤ most
    · go_enter Tryz.func110, Tryz.ntmps110
      go_wp2_with fail
      go_ret
      exact ⟨⟨none, 0, 0⟩, rfl, Row.nil _ _ _, (fun ad e => by cases e), H.out, Kept.refl _ _⟩
    · go_enter Tryz.func110, Tryz.ntmps110
      go_wp2_with fail
      go_ret
      exact ⟨⟨none, 0, 0⟩, rfl, Row.nil _ _ _, (fun ad e => by cases e), H.out, Kept.refl _ _⟩

theorem info49' : (Tryz.prog.info? 80).map (fun i => (i.zero, i.size, i.bytes)) = some (some (.agg #[.int .u32 0, .int .u32 0, .int .u8 0, .int .u32 0, .int .u8 0, .int .u8 0, .int .u16 0]), 7, 20) := by kernel_rfl
set_option maxHeartbeats 4000000 in
theorem listEn (w : World) (S R : Nat) (s : Sr) (h : Sat w S R s) (n most : Nat) (hn : n ≤ 255) (hm : most ≤ 255) :
    Calls Tryz.prog 112 #[.pointer (some ⟨S, 0, none⟩), .int .i64 n, .int .i64 most, .func (.func 113) #[.pointer (some ⟨S, 0, none⟩)] #[]] w fun e w' => ∃ v : Sl, e = .returned (.slice v.a v.n v.c) ∧ Row w' 7 En.cells v.val (pL pEn n most s).1 ∧ (∀ ad, v.a = some ad → w.heap.size ≤ ad.block) ∧ Sat w' S R (pL pEn n most s).2 ∧ Kept (SR S R) w w' := by
  have q1 := h.cell1
  have z1 := h.free1
  have H := Lib.hid h
  unfold pL
  by_cases hf : s.f = 0
  · rw [if_pos hf]
    rw [hf] at q1
    by_cases hk : n ≤ most
    · rw [if_pos hk]
      obtain ⟨i0, hinfo⟩ := info_parts info49'
      obtain ⟨hi, hz0, hz1, hz2⟩ := hinfo
      have hmk : (Instr.makeSlice 30 (.int .i64 (n : Int)) (.int .i64 (n : Int))).run Tryz.prog w = .ok (.slice (some ⟨w.heap.size, 0, none⟩) n n) (w.alloc (.cells (madeCells (.agg #[.int .u32 0, .int .u32 0, .int .u8 0, .int .u32 0, .int .u8 0, .int .u8 0, .int .u16 0] : Value).cells (n * 7)) 80)) := by
        have := run_makeSlice (P := Tryz.prog) w 30 80 i0 _ Tryz.underlying30 hi hz0 .i64 .i64 n n (by omega) (by omega) (by rw [hz1]; simp; omega) (by rw [hz2]; omega) (by omega)
        rw [hz1] at this
        simpa using this
      obtain ⟨V, hV⟩ : ∃ V, V = w.alloc (.cells (madeCells (.agg #[.int .u32 0, .int .u32 0, .int .u8 0, .int .u32 0, .int .u8 0, .int .u8 0, .int .u16 0] : Value).cells (n * 7)) 80) := ⟨_, rfl⟩
      rw [← hV] at hmk
      have hbl : Below w.heap.size w V := by rw [hV]; exact (Below.refl _ _).alloc (Nat.le_refl _) _
      have hbx : V.heap[w.heap.size]? = some (.cells (madeCells (.agg #[.int .u32 0, .int .u32 0, .int .u8 0, .int .u32 0, .int .u8 0, .int .u8 0, .int .u16 0] : Value).cells (n * 7)) 80 (0, 0)) := by rw [hV]; exact heap_alloc_new _ _
      have HJ0 : Hid (RowJ En.cells 7 pEn s w V V S R w.heap.size n 0) := Lib.hid ⟨there_row hbx (made_size _ _), fun j v hj => by simp [pN] at hj, h.on hbl, Kept.refl _ _⟩
      have HBL := Lib.hid hbl
      have HLT := Lib.hid (lt_of_block hbx)
      have HGS := Lib.hid (show w.heap.size ≠ S by have := h.lt; omega)
      have HGR := Lib.hid (show R < w.heap.size from h.lt.2)
      obtain ⟨g, hg⟩ : ∃ g, g = w.heap.size := ⟨_, rfl⟩
      have HG := Lib.hid (show w.heap.size ≤ g by omega)
      rw [← hg] at hmk HJ0 HLT HGS HGR
      clear h hf hV hbl hbx hi hz0 hz1 hz2 hg
      go_enter Tryz.func112, Tryz.ntmps112
      go_wp2_with fail
      go_loopw [33] (fun vi wr => ∃ j : Nat, j ≤ n ∧ vi = .int .i64 j ∧ Hid (RowJ En.cells 7 pEn s w V wr S R g n j)) (fun i _ => n - (intOf i).toNat)
      case atStart => exact ⟨0, Nat.zero_le _, rfl, HJ0⟩
      case round =>
        obtain ⟨j, hj, rfl, HJ⟩ := hrel
        clear HJ0
        by_cases hlt : j < n
        · go_wp2_with fail
          refine Calls.mono (entry_any wr S R _ HJ.out.sat) ?_
          rintro e w1 ⟨rfl, h1, h2⟩
          obtain ⟨ht, hj1⟩ := HJ.out.next (fun x => rfl) h1 h2 HGS.out HGR.out (Nat.lt_of_lt_of_le HLT.out HJ.out.kept.size) hlt
          have HTH := Lib.hid ht
          have HJ1 := Lib.hid hj1
          clear h1 h2 ht hj1 HJ
          generalize (pEn (pN pEn s j).2).1 = x at *
          go_wp2_with (first | (refine wpList_store_mid rfl 80 (.tmp 40) (.tmp 39) rfl g (j * 7) x.cells.toArray (by first | rfl | simp) rfl HTH.out size49 (all_oneCell_toArray (by intro u hu; simp [En.cells] at hu; (repeat' (rcases hu with rfl | hu)); all_goals first | rfl | (subst hu; rfl))) ?_; refine Hid.out ?_) | go_in)
          refine Lib.hid ?_
          generalize w1.setCells g (j * 7) x.cells = w9 at *
          clear HTH
          go_wp2_with fail
          go_round
          case rel => exact ⟨j + 1, by omega, by go_num, HJ1⟩
          case measure => simp [intOf]; omega
        · obtain rfl : j = n := by omega
          go_wp2_with fail
          go_ret
          refine ⟨⟨some ⟨g, 0, none⟩, j, j⟩, rfl, HJ.out.row (fun x => rfl) (by omega), (fun ad e => by injection e with e; subst e; exact HG.out), HJ.out.sat, ?_⟩
          exact (Kept.ofBelow (S := TG S R g) HBL.out).trans HJ.out.kept (fun _ _ h => h) |>.new2 HG.out
    · rw [if_neg hk]
      simp only
      clear h hf
      go_enter Tryz.func112, Tryz.ntmps112
      go_wp2_with fail
      go_ret
      exact ⟨⟨none, 0, 0⟩, rfl, Row.nil _ _ _, (fun ad e => by cases e), H.out.fault 30, Kept.sf ((Kept.refl _ _).setCell _ _ (fun _ => rfl))⟩
  · rw [if_neg hf]
    have hf2 : (s.f == 0) = false := by simp [hf]
    simp only
    clear h hf
    by_cases hk : n ≤ most
    · go_enter Tryz.func112, Tryz.ntmps112
      go_wp2_with fail
      go_ret
      exact ⟨⟨none, 0, 0⟩, rfl, Row.nil _ _ _, (fun ad e => by cases e), H.out, Kept.refl _ _⟩
    · go_enter Tryz.func112, Tryz.ntmps112
      go_wp2_with fail
      go_ret
      exact ⟨⟨none, 0, 0⟩, rfl, Row.nil _ _ _, (fun ad e => by cases e), H.out, Kept.refl _ _⟩

theorem info28' : (Tryz.prog.info? 28).map (fun i => (i.zero, i.size, i.bytes)) = some (some (.int .u64 0), 1, 8) := by kernel_rfl
set_option maxHeartbeats 4000000 in
theorem listU64 (w : World) (S R : Nat) (s : Sr) (h : Sat w S R s) (n most : Nat) (hn : n ≤ 255) (hm : most ≤ 255) :
    Calls Tryz.prog 89 #[.pointer (some ⟨S, 0, none⟩), .int .i64 n, .int .i64 most, .func (.func 86) #[.pointer (some ⟨S, 0, none⟩)] #[]] w fun e w' => ∃ v : Sl, e = .returned (.slice v.a v.n v.c) ∧ Row w' 1 ucell v.val (pL p64 n most s).1 ∧ (∀ ad, v.a = some ad → w.heap.size ≤ ad.block) ∧ Sat w' S R (pL p64 n most s).2 ∧ Kept (SR S R) w w' := by
  have q1 := h.cell1
  have z1 := h.free1
  have H := Lib.hid h
  unfold pL
  by_cases hf : s.f = 0
  · rw [if_pos hf]
    rw [hf] at q1
    by_cases hk : n ≤ most
    · rw [if_pos hk]
      obtain ⟨i0, hinfo⟩ := info_parts info28'
      obtain ⟨hi, hz0, hz1, hz2⟩ := hinfo
      have hmk : (Instr.makeSlice 34 (.int .i64 (n : Int)) (.int .i64 (n : Int))).run Tryz.prog w = .ok (.slice (some ⟨w.heap.size, 0, none⟩) n n) (w.alloc (.cells (madeCells (.int .u64 0 : Value).cells (n * 1)) 28)) := by
        have := run_makeSlice (P := Tryz.prog) w 34 28 i0 _ Tryz.underlying34 hi hz0 .i64 .i64 n n (by omega) (by omega) (by rw [hz1]; simp; omega) (by rw [hz2]; omega) (by omega)
        rw [hz1] at this
        simpa using this
      obtain ⟨V, hV⟩ : ∃ V, V = w.alloc (.cells (madeCells (.int .u64 0 : Value).cells (n * 1)) 28) := ⟨_, rfl⟩
      rw [← hV] at hmk
      have hbl : Below w.heap.size w V := by rw [hV]; exact (Below.refl _ _).alloc (Nat.le_refl _) _
      have hbx : V.heap[w.heap.size]? = some (.cells (madeCells (.int .u64 0 : Value).cells (n * 1)) 28 (0, 0)) := by rw [hV]; exact heap_alloc_new _ _
      have HJ0 : Hid (RowJ ucell 1 p64 s w V V S R w.heap.size n 0) := Lib.hid ⟨there_row hbx (made_size _ _), fun j v hj => by simp [pN] at hj, h.on hbl, Kept.refl _ _⟩
      have HBL := Lib.hid hbl
      have HLT := Lib.hid (lt_of_block hbx)
      have HGS := Lib.hid (show w.heap.size ≠ S by have := h.lt; omega)
      have HGR := Lib.hid (show R < w.heap.size from h.lt.2)
      obtain ⟨g, hg⟩ : ∃ g, g = w.heap.size := ⟨_, rfl⟩
      have HG := Lib.hid (show w.heap.size ≤ g by omega)
      rw [← hg] at hmk HJ0 HLT HGS HGR
      clear h hf hV hbl hbx hi hz0 hz1 hz2 hg
      go_enter Tryz.func89, Tryz.ntmps89
      go_wp2_with fail
      go_loopw [33] (fun vi wr => ∃ j : Nat, j ≤ n ∧ vi = .int .i64 j ∧ Hid (RowJ ucell 1 p64 s w V wr S R g n j)) (fun i _ => n - (intOf i).toNat)
      case atStart => exact ⟨0, Nat.zero_le _, rfl, HJ0⟩
      case round =>
        obtain ⟨j, hj, rfl, HJ⟩ := hrel
        clear HJ0
        by_cases hlt : j < n
        · go_wp2_with fail
          refine Calls.mono (s64 wr S R _ HJ.out.sat) ?_
          rintro e w1 ⟨rfl, h1, h2⟩
          obtain ⟨ht, hj1⟩ := HJ.out.next (fun x => rfl) h1 h2 HGS.out HGR.out (Nat.lt_of_lt_of_le HLT.out HJ.out.kept.size) hlt
          have HTH := Lib.hid ht
          have HJ1 := Lib.hid hj1
          clear h1 h2 ht hj1 HJ
          generalize (p64 (pN p64 s j).2).1 = x at *
          have hs1 : w1.setCells g (j * 1) (ucell x) = w1.setCell ⟨g, j, none⟩ (.int .u64 x) := by simp [ucell, World.setCells]
          rw [hs1] at HJ1
          have h0 := HTH.out 0 (by omega)
          simp only [Nat.mul_one, Nat.add_zero] at h0
          obtain ⟨h01, zf⟩ := h0
          obtain ⟨old, hc⟩ := Option.isSome_iff_exists.1 h01
          clear hs1 h01 HTH
          go_wp2_with fail
          go_round
          case rel => exact ⟨j + 1, by omega, by go_num, HJ1⟩
          case measure => simp [intOf]; omega
        · obtain rfl : j = n := by omega
          go_wp2_with fail
          go_ret
          refine ⟨⟨some ⟨g, 0, none⟩, j, j⟩, rfl, HJ.out.row (fun x => rfl) (by omega), (fun ad e => by injection e with e; subst e; exact HG.out), HJ.out.sat, ?_⟩
          exact (Kept.ofBelow (S := TG S R g) HBL.out).trans HJ.out.kept (fun _ _ h => h) |>.new2 HG.out
    · rw [if_neg hk]
      simp only
      clear h hf
      go_enter Tryz.func89, Tryz.ntmps89
      go_wp2_with fail
      go_ret
      exact ⟨⟨none, 0, 0⟩, rfl, Row.nil _ _ _, (fun ad e => by cases e), H.out.fault 30, Kept.sf ((Kept.refl _ _).setCell _ _ (fun _ => rfl))⟩
  · rw [if_neg hf]
    have hf2 : (s.f == 0) = false := by simp [hf]
    simp only
    clear h hf
    by_cases hk : n ≤ most
    · go_enter Tryz.func89, Tryz.ntmps89
      go_wp2_with fail
      go_ret
      exact ⟨⟨none, 0, 0⟩, rfl, Row.nil _ _ _, (fun ad e => by cases e), H.out, Kept.refl _ _⟩
    · go_enter Tryz.func89, Tryz.ntmps89
      go_wp2_with fail
      go_ret
      exact ⟨⟨none, 0, 0⟩, rfl, Row.nil _ _ _, (fun ad e => by cases e), H.out, Kept.refl _ _⟩

def pVt (s : Sr) : Vp × Sr :=
  let a := p8 s; let b := p8 a.2; let c := p32 b.2; let d := p32 c.2
  let n := p8 d.2; let x := pL pMk n.1.toNat 40 n.2
  let n2 := p8 x.2; let y := pL pEn n2.1.toNat 40 n2.2
  let n3 := p8 y.2; let z := pL pEn n3.1.toNat 40 n3.2
  (⟨a.1, b.1, c.1, d.1, ⟨x.1, y.1, z.1⟩⟩, z.2)

theorem p8_range {w : World} {S R : Nat} {s : Sr} (h : Sat w S R s) : 0 ≤ (p8 s).1 ∧ (p8 s).1 ≤ 255 := by
  unfold p8 gN
  split
  · split
    · next hl => exact h.rd.byte 0 hl
    · simp
  · simp
theorem over_vote (x : Vt) : over #[.int .u8 0, .int .u8 0, .int .u32 0, .int .u32 0, .slice none 0 0, .slice none 0 0, .slice none 0 0] 0 x.cells = x.cells.toArray := by
  simp only [over, Vt.cells, List.setIfInBounds_toArray, List.set_cons_zero, List.set_cons_succ, Nat.zero_add, Nat.reduceAdd]
theorem size32' : (Tryz.prog.info? 32).map (·.size) = some 7 := by kernel_rfl
set_option maxHeartbeats 8000000 in
theorem vote_any (w : World) (S R : Nat) (s : Sr) (h : Sat w S R s) :
    Calls Tryz.prog 87 #[.pointer (some ⟨S, 0, none⟩)] w fun e w' => ∃ v : Vt, e = .returned (.agg v.cells.toArray) ∧ (v.f = (pVt s).1.f ∧ v.e = (pVt s).1.e ∧ v.vw = (pVt s).1.vw ∧ v.lo = (pVt s).1.lo) ∧ VtAt w' v (pVt s).1.c ∧ NewV w.heap.size v ∧ Sat w' S R (pVt s).2 ∧ Kept (SR S R) w w' := by
  obtain ⟨W, hW⟩ : ∃ W, W = w.alloc (.cells #[.int .u8 0, .int .u8 0, .int .u32 0, .int .u32 0, .slice none 0 0, .slice none 0 0, .slice none 0 0] 32) := ⟨_, rfl⟩
  have hbl := bl1 hW
  have hsz : W.heap.size = w.heap.size + 1 := by rw [hW]; simp
  have hbx : W.heap[w.heap.size]? = some (.cells #[.int .u8 0, .int .u8 0, .int .u32 0, .int .u32 0, .slice none 0 0, .slice none 0 0, .slice none 0 0] 32 (0, 0)) := by rw [hW]; exact heap_alloc_new _ _
  have HGS := Lib.hid (show S < w.heap.size from h.lt.1)
  have HGR := Lib.hid (show R < w.heap.size from h.lt.2)
  have HBL := Lib.hid hbl
  have HBX := Lib.hid hbx
  have HSZ := Lib.hid hsz
  have HS0 := Lib.hid (h.on hbl)
  have HK0 := Lib.hid (Kept.refl (SR S R) W)
  have HW := Lib.hid hW
  obtain ⟨X, hX⟩ : ∃ X, X = pVt s := ⟨_, rfl⟩
  rw [← hX]
  unfold pVt at hX
  obtain ⟨a, ha⟩ : ∃ a, a = p8 s := ⟨_, rfl⟩
  obtain ⟨b, hb⟩ : ∃ b, b = p8 a.2 := ⟨_, rfl⟩
  obtain ⟨c, hc⟩ : ∃ c, c = p32 b.2 := ⟨_, rfl⟩
  obtain ⟨d, hd⟩ : ∃ d, d = p32 c.2 := ⟨_, rfl⟩
  obtain ⟨n, hn⟩ : ∃ n, n = p8 d.2 := ⟨_, rfl⟩
  obtain ⟨x, hx⟩ : ∃ x, x = pL pMk n.1.toNat 40 n.2 := ⟨_, rfl⟩
  obtain ⟨n2, hn2⟩ : ∃ n2, n2 = p8 x.2 := ⟨_, rfl⟩
  obtain ⟨y, hy⟩ : ∃ y, y = pL pEn n2.1.toNat 40 n2.2 := ⟨_, rfl⟩
  obtain ⟨n3, hn3⟩ : ∃ n3, n3 = p8 y.2 := ⟨_, rfl⟩
  obtain ⟨z, hz⟩ : ∃ z, z = pL pEn n3.1.toNat 40 n3.2 := ⟨_, rfl⟩
  simp only [← ha, ← hb, ← hc, ← hd, ← hn, ← hx, ← hn2, ← hy, ← hn3, ← hz] at hX
  have Ea := Lib.hid ha
  have Eb := Lib.hid hb
  have Ec := Lib.hid hc
  have Ed := Lib.hid hd
  have En := Lib.hid hn
  have Ex := Lib.hid hx
  have En2 := Lib.hid hn2
  have Ey := Lib.hid hy
  have En3 := Lib.hid hn3
  have Ez := Lib.hid hz
  have HX := Lib.hid hX
  clear h hW hbl hbx hX hsz ha hb hc hd hn hx hn2 hy hn3 hz
  have hmf : ∀ (fn : Fn) (first cap : Array Value) (w : World), (Instr.makeFunc fn first cap).run Tryz.prog w = .ok (.func fn first cap) w := fun _ _ _ _ => rfl
  obtain ⟨gx, hgx⟩ : ∃ g, g = w.heap.size := ⟨_, rfl⟩
  rw [← hgx] at HGS HGR HBX HSZ
  have HGE := Lib.hid hgx
  clear hgx
  go_enter Tryz.func87, Tryz.ntmps87
  go_upto_region 1 with fail
  rw [← HW.out, ← HGE.out]
  clear HW
  have C := s8 _ S R _ HS0.out
  rw [← Ea.out] at C
  have CH := Lib.hid C
  clear C
  go_wp2_with fail
  refine Calls.mono CH.out ?_
  rintro e w1 ⟨rfl, h, k⟩
  have HS1 := Lib.hid h
  have HK1 := Lib.hid (HK0.out.trans k (fun _ _ h => h))
  have KK1 := Lib.hid k
  clear h k HS0 CH
  have C := s8 _ S R _ HS1.out
  rw [← Eb.out] at C
  have CH := Lib.hid C
  clear C
  go_wp2_with fail
  refine Calls.mono CH.out ?_
  rintro e w2 ⟨rfl, h, k⟩
  have HS2 := Lib.hid h
  have HK2 := Lib.hid (HK1.out.trans k (fun _ _ h => h))
  have KK2 := Lib.hid k
  clear h k HS1 CH
  have C := s32 _ S R _ HS2.out
  rw [← Ec.out] at C
  have CH := Lib.hid C
  clear C
  go_wp2_with fail
  refine Calls.mono CH.out ?_
  rintro e w3 ⟨rfl, h, k⟩
  have HS3 := Lib.hid h
  have HK3 := Lib.hid (HK2.out.trans k (fun _ _ h => h))
  have KK3 := Lib.hid k
  clear h k HS2 CH
  have C := s32 _ S R _ HS3.out
  rw [← Ed.out] at C
  have CH := Lib.hid C
  clear C
  go_wp2_with fail
  refine Calls.mono CH.out ?_
  rintro e w4 ⟨rfl, h, k⟩
  have HS4 := Lib.hid h
  have HK4 := Lib.hid (HK3.out.trans k (fun _ _ h => h))
  have KK4 := Lib.hid k
  clear h k HS3 CH
  have C := s8 _ S R _ HS4.out
  have rn := p8_range HS4.out
  rw [← En.out] at C rn
  have CH := Lib.hid C
  clear C
  go_wp2_with fail
  refine Calls.mono CH.out ?_
  rintro e w5 ⟨rfl, h, k⟩
  have HS5 := Lib.hid h
  have HK5 := Lib.hid (HK4.out.trans k (fun _ _ h => h))
  have KK5 := Lib.hid k
  clear h k HS4 CH
  have C := listMk _ S R _ HS5.out n.1.toNat 40 (by omega) (by omega)
  rw [← Ex.out, show ((n.1.toNat : Nat) : Int) = n.1 from by omega, show ((40 : Nat) : Int) = 40 from rfl] at C
  have CH := Lib.hid C
  clear C
  go_wp2_with fail
  refine Calls.mono CH.out ?_
  rintro e w6 ⟨u1, rfl, hrow, hnew, h, k⟩
  have HS6 := Lib.hid h
  have HK6 := Lib.hid (HK5.out.trans k (fun _ _ h => h))
  have KK6 := Lib.hid k
  have RWu1 := Lib.hid hrow
  have NWu1 := Lib.hid (show ∀ ad, u1.a = some ad → gx + 1 ≤ ad.block from fun ad e => by have := hnew ad e; have := HK5.out.size; have := HSZ.out; omega)
  obtain ⟨u1a, u1n, u1c⟩ := u1
  simp only at RWu1 NWu1 ⊢
  clear hrow hnew h k HS5 CH
  have C := s8 _ S R _ HS6.out
  have rn2 := p8_range HS6.out
  rw [← En2.out] at C rn2
  have CH := Lib.hid C
  clear C
  go_wp2_with fail
  refine Calls.mono CH.out ?_
  rintro e w7 ⟨rfl, h, k⟩
  have HS7 := Lib.hid h
  have HK7 := Lib.hid (HK6.out.trans k (fun _ _ h => h))
  have KK7 := Lib.hid k
  clear h k HS6 CH
  have C := listEn _ S R _ HS7.out n2.1.toNat 40 (by omega) (by omega)
  rw [← Ey.out, show ((n2.1.toNat : Nat) : Int) = n2.1 from by omega, show ((40 : Nat) : Int) = 40 from rfl] at C
  have CH := Lib.hid C
  clear C
  go_wp2_with fail
  refine Calls.mono CH.out ?_
  rintro e w8 ⟨u2, rfl, hrow, hnew, h, k⟩
  have HS8 := Lib.hid h
  have HK8 := Lib.hid (HK7.out.trans k (fun _ _ h => h))
  have KK8 := Lib.hid k
  have RWu2 := Lib.hid hrow
  have NWu2 := Lib.hid (show ∀ ad, u2.a = some ad → gx + 1 ≤ ad.block from fun ad e => by have := hnew ad e; have := HK7.out.size; have := HSZ.out; omega)
  obtain ⟨u2a, u2n, u2c⟩ := u2
  simp only at RWu2 NWu2 ⊢
  clear hrow hnew h k HS7 CH
  have C := s8 _ S R _ HS8.out
  have rn3 := p8_range HS8.out
  rw [← En3.out] at C rn3
  have CH := Lib.hid C
  clear C
  go_wp2_with fail
  refine Calls.mono CH.out ?_
  rintro e w9 ⟨rfl, h, k⟩
  have HS9 := Lib.hid h
  have HK9 := Lib.hid (HK8.out.trans k (fun _ _ h => h))
  have KK9 := Lib.hid k
  clear h k HS8 CH
  have C := listEn _ S R _ HS9.out n3.1.toNat 40 (by omega) (by omega)
  rw [← Ez.out, show ((n3.1.toNat : Nat) : Int) = n3.1 from by omega, show ((40 : Nat) : Int) = 40 from rfl] at C
  have CH := Lib.hid C
  clear C
  go_wp2_with fail
  refine Calls.mono CH.out ?_
  rintro e w10 ⟨u3, rfl, hrow, hnew, h, k⟩
  have HS10 := Lib.hid h
  have HK10 := Lib.hid (HK9.out.trans k (fun _ _ h => h))
  have KK10 := Lib.hid k
  have RWu3 := Lib.hid hrow
  have NWu3 := Lib.hid (show ∀ ad, u3.a = some ad → gx + 1 ≤ ad.block from fun ad e => by have := hnew ad e; have := HK9.out.size; have := HSZ.out; omega)
  obtain ⟨u3a, u3n, u3c⟩ := u3
  simp only at RWu3 NWu3 ⊢
  clear hrow hnew h k HS9 CH
  have hT : ∀ b, SR S R b → b < gx + 1 := fun b e => by rcases e with e | e; have := HGS.out; omega; have := HGR.out; omega
  have R1 := row_new (row_new (row_new (row_new RWu1.out KK7.out NWu1.out hT) KK8.out NWu1.out hT) KK9.out NWu1.out hT) KK10.out NWu1.out hT
  have R2 := row_new (row_new RWu2.out KK9.out NWu2.out hT) KK10.out NWu2.out hT
  obtain ⟨v, hv⟩ : ∃ v : Vt, v = ⟨a.1, b.1, c.1, d.1, ⟨u1a, u1n, u1c⟩, ⟨u2a, u2n, u2c⟩, ⟨u3a, u3n, u3c⟩⟩ := ⟨_, rfl⟩
  have hva : VtAt w10 v X.1.c := by rw [hv, HX.out]; exact ⟨R1, R2, RWu3.out⟩
  have hvn : NewV (gx + 1) v := by rw [hv]; exact ⟨NWu1.out, NWu2.out, NWu3.out⟩
  have hvw : v.f = X.1.f ∧ v.e = X.1.e ∧ v.vw = X.1.vw ∧ v.lo = X.1.lo := by rw [hv, HX.out]; exact ⟨rfl, rfl, rfl, rfl⟩
  have HB := Lib.hid (own_block HK10.out HBX.out (lt_of_block HBX.out) (by have := HGS.out; omega) (by have := HGR.out; omega))
  have HTH := Lib.hid (there_row HB.out rfl)
  have HF := Lib.hid (show (w10.setCells gx 0 v.cells).heap[gx]? = some (.cells v.cells.toArray 32 (0, 0)) by rw [setCells_block _ 32 _ _ _ _ HB.out, over_vote])
  have HFS := Lib.hid (show Sat (w10.setCells gx 0 v.cells) S R X.2 by rw [HX.out]; exact HS10.out.kept Kept.apart (fun e => by have := HGS.out; omega) (fun k hk e => by have := HGR.out; omega))
  have HFK := Lib.hid (Kept.new (vs := v.cells) HBL.out HK10.out (show w.heap.size ≤ gx by have := HGE.out; omega))
  have HFA := Lib.hid (hva.new (T := fun k => k = gx) (Kept.apart (vs := v.cells)) hvn (fun b e => by omega))
  have HFN := Lib.hid (show NewV w.heap.size v from ⟨fun ad e => by have := hvn.1 ad e; have := HGE.out; omega, fun ad e => by have := hvn.2.1 ad e; have := HGE.out; omega, fun ad e => by have := hvn.2.2 ad e; have := HGE.out; omega⟩)
  have HFV := Lib.hid hvw
  have HVC := Lib.hid (show v.cells.toArray = #[.int .u8 a.1, .int .u8 b.1, .int .u32 c.1, .int .u32 d.1, .slice u1a u1n u1c, .slice u2a u2n u2c, .slice u3a u3n u3c] by rw [hv]; rfl)
  clear hT R1 R2 hva hvn hvw hv
  go_wp2_with (first | (refine wpList_store_mid rfl 32 (.tmp 2) (.tmp 32) rfl gx 0 v.cells.toArray rfl (by rw [HVC.out]; rfl) HTH.out size32' (all_oneCell_toArray (Vt.one v)) ?_; refine Hid.out ?_) | go_in)
  refine Lib.hid ?_
  generalize w10.setCells gx 0 v.cells = w11 at *
  go_wp2_with fail
  (try simp only [Exit.inBlock, Exit.then])
  refine bodyPost_ret (results_cell_row (P := Tryz.prog) rfl _ _ gx 32 _ (0, 0) _ rfl HF.out Tryz.underlying32 rfl size32') rfl ?_
  exact ⟨v, rfl, HFV.out, HFA.out, HFN.out, HFS.out, HFK.out⟩

theorem flat_next {α : Type} {enc : α → List Value} {k : Nat} (henc : ∀ x, (enc x).length = k) {w1 : World} {g j : Nat} {xs : List α} (x : α) (hl : xs.length = j) (hr : w1.rangeAt g 0 (xs.flatMap enc)) (ht : w1.there g (j * k) k) : (w1.setCells g (j * k) (enc x)).rangeAt g 0 ((xs ++ [x]).flatMap enc) := by
  have hfl := flatV_len enc k henc xs
  rw [hl] at hfl
  have ha := World.rangeAt_setCells_apart hr g (j * k) (enc x) (.inr (.inl (by rw [hfl]; omega)))
  have hb := World.rangeAt_setCells_same w1 g (j * k) (enc x) (by rw [henc]; exact ht)
  intro i v hi
  simp only [List.flatMap_append, List.flatMap_cons, List.flatMap_nil, List.append_nil] at hi
  by_cases hlt : i < (xs.flatMap enc).length
  · rw [List.getElem?_append_left hlt] at hi
    exact ha i v hi
  · rw [List.getElem?_append_right (by omega), hfl] at hi
    have := hb _ v hi
    rw [hfl] at hlt
    rw [show 0 + i = j * k + (i - j * k) from by omega]
    exact this
theorem row_of_range {α : Type} {enc : α → List Value} {k : Nat} (henc : ∀ x, (enc x).length = k) {wr : World} {g n : Nat} {xs : List α} (hl : xs.length = n) (hr : wr.rangeAt g 0 (xs.flatMap enc)) (hn : n ≤ 1000) : Row wr k enc (.slice (some ⟨g, 0, none⟩) n n) xs := by
  refine ⟨some ⟨g, 0, none⟩, n, by rw [hl], (fun e => by cases e), by rw [hl]; exact Nat.le_refl _, by rw [hl]; omega, fun j x hj => ⟨g, 0, rfl, fun i u hu => ?_⟩⟩
  have key : ∀ (xs : List α) (j i : Nat) (x : α) (u : Value), xs[j]? = some x → (enc x)[i]? = some u → (xs.flatMap enc)[j * k + i]? = some u := by
    intro xs
    induction xs with
    | nil => intro j i x u hx; simp at hx
    | cons y r ih =>
      intro j i x u hx hu
      have hy := henc y
      cases j with
      | zero =>
        simp at hx
        subst hx
        have hi : i < (enc y).length := by
          rcases Nat.lt_or_ge i (enc y).length with h | h
          · exact h
          · rw [List.getElem?_eq_none h] at hu; cases hu
        rw [List.flatMap_cons, Nat.zero_mul, Nat.zero_add, List.getElem?_append_left hi]; exact hu
      | succ j =>
        rw [List.flatMap_cons, List.getElem?_append_right (by rw [hy, Nat.succ_mul]; omega), hy]
        have := ih j i x u (by simpa using hx) hu
        rw [show (j + 1) * k + i - k = j * k + i from by rw [Nat.succ_mul]; omega]
        exact this
  have := hr (j * k + i) u (key _ j i x u hj hu)
  simpa [Nat.add_assoc] using this
/-- votes in a row, behind j of n -/
structure RowW (s : Sr) (V wr : World) (S R g n j : Nat) (vl : List (Vt × Vc)) : Prop where
  th : wr.there g 0 (n * 7)
  len : vl.length = j
  ra : wr.rangeAt g 0 (vl.flatMap vcell)
  each : ∀ x ∈ vl, VtAt wr x.1 x.2 ∧ NewV (g + 1) x.1
  pure : vl.map toVp = (pN pVt s j).1
  sat : Sat wr S R (pN pVt s j).2
  kept : Kept (TG S R g) V wr
theorem RowW.next {s : Sr} {V wr w1 : World} {S R g n j : Nat} {vl : List (Vt × Vc)} (h : RowW s V wr S R g n j vl) {v : Vt} (hw : v.f = (pVt (pN pVt s j).2).1.f ∧ v.e = (pVt (pN pVt s j).2).1.e ∧ v.vw = (pVt (pN pVt s j).2).1.vw ∧ v.lo = (pVt (pN pVt s j).2).1.lo) (hva : VtAt w1 v (pVt (pN pVt s j).2).1.c) (hvn : NewV wr.heap.size v)
    (hs : Sat w1 S R (pVt (pN pVt s j).2).2) (hk : Kept (SR S R) wr w1) (hgS : S < g) (hgR : R < g) (hlt : g < wr.heap.size) (hj : j < n) : w1.there g (j * 7) 7 ∧ RowW s V (w1.setCells g (j * 7) v.cells) S R g n (j + 1) (vl ++ [(v, (pVt (pN pVt s j).2).1.c)]) := by
  have hnT : ¬ SR S R g := fun e => by rcases e with e | e; omega; omega
  have ht1 := there_kept h.th hk hnT hlt
  have htj := there_part (o := j * 7) (k := 7) ht1 (by omega)
  have hkg : Kept (fun k => k = g) w1 (w1.setCells g (j * 7) v.cells) := kept_setCells
  have hT : ∀ b, SR S R b → b < g + 1 := fun b e => by rcases e with e | e; omega; omega
  refine ⟨htj, World.there_setCells ht1 _ _ _, by simp [h.len], ?_, ?_, ?_, hs.kept hkg (by omega) (fun i hi e => by omega), (h.kept.trans hk (fun i _ e => .inl e)).trans hkg (fun i _ e => .inr e)⟩
  · exact flat_next (enc := vcell) (k := 7) (fun x => rfl) (v, (pVt (pN pVt s j).2).1.c) h.len (range_kept h.ra hk hnT) htj
  · intro x hx
    rw [List.mem_append, List.mem_singleton] at hx
    rcases hx with hx | rfl
    · obtain ⟨e1, e2⟩ := h.each x hx
      exact ⟨(e1.new hk e2 hT).new hkg e2 (fun b e => by omega), e2⟩
    · have hv1 : NewV (g + 1) v := ⟨fun ad e => by have := hvn.1 ad e; omega, fun ad e => by have := hvn.2.1 ad e; omega, fun ad e => by have := hvn.2.2 ad e; omega⟩
      exact ⟨hva.new hkg hv1 (fun b e => by omega), hv1⟩
  · rw [List.map_append, h.pure]
    simp only [pN, List.map_cons, List.map_nil, toVp]
    obtain ⟨h1, h2, h3, h4⟩ := hw
    rw [h1, h2, h3, h4]

theorem info32v : (Tryz.prog.info? 32).map (fun i => (i.zero, i.size, i.bytes)) = some (some (.agg #[.int .u8 0, .int .u8 0, .int .u32 0, .int .u32 0, .slice none 0 0, .slice none 0 0, .slice none 0 0]), 7, 88) := by kernel_rfl
set_option maxHeartbeats 4000000 in
theorem listVt (w : World) (S R : Nat) (s : Sr) (h : Sat w S R s) (n most : Nat) (hn : n ≤ 255) (hm : most ≤ 255) :
    Calls Tryz.prog 88 #[.pointer (some ⟨S, 0, none⟩), .int .i64 n, .int .i64 most, .func (.func 87) #[.pointer (some ⟨S, 0, none⟩)] #[]] w fun e w' => ∃ (v : Sl) (vl : List (Vt × Vc)), e = .returned (.slice v.a v.n v.c) ∧ VsAt w' v vl ∧ vl.map toVp = (pL pVt n most s).1 ∧ NewS w.heap.size v vl ∧ Sat w' S R (pL pVt n most s).2 ∧ Kept (SR S R) w w' := by
  have q1 := h.cell1
  have z1 := h.free1
  have H := Lib.hid h
  unfold pL
  by_cases hf : s.f = 0
  · rw [if_pos hf]
    rw [hf] at q1
    by_cases hk : n ≤ most
    · rw [if_pos hk]
      obtain ⟨i0, hinfo⟩ := info_parts info32v
      obtain ⟨hi, hz0, hz1, hz2⟩ := hinfo
      have hmk : (Instr.makeSlice 33 (.int .i64 (n : Int)) (.int .i64 (n : Int))).run Tryz.prog w = .ok (.slice (some ⟨w.heap.size, 0, none⟩) n n) (w.alloc (.cells (madeCells (.agg #[.int .u8 0, .int .u8 0, .int .u32 0, .int .u32 0, .slice none 0 0, .slice none 0 0, .slice none 0 0] : Value).cells (n * 7)) 32)) := by
        have := run_makeSlice (P := Tryz.prog) w 33 32 i0 _ Tryz.underlying33 hi hz0 .i64 .i64 n n (by omega) (by omega) (by rw [hz1]; simp; omega) (by rw [hz2]; omega) (by omega)
        rw [hz1] at this
        simpa using this
      obtain ⟨V, hV⟩ : ∃ V, V = w.alloc (.cells (madeCells (.agg #[.int .u8 0, .int .u8 0, .int .u32 0, .int .u32 0, .slice none 0 0, .slice none 0 0, .slice none 0 0] : Value).cells (n * 7)) 32) := ⟨_, rfl⟩
      rw [← hV] at hmk
      have hbl : Below w.heap.size w V := by rw [hV]; exact (Below.refl _ _).alloc (Nat.le_refl _) _
      have hbx : V.heap[w.heap.size]? = some (.cells (madeCells (.agg #[.int .u8 0, .int .u8 0, .int .u32 0, .int .u32 0, .slice none 0 0, .slice none 0 0, .slice none 0 0] : Value).cells (n * 7)) 32 (0, 0)) := by rw [hV]; exact heap_alloc_new _ _
      have HJ0 : Hid (RowW s V V S R w.heap.size n 0 []) := Lib.hid ⟨there_row hbx (made_size _ _), rfl, (fun j v hj => by simp at hj), (fun x hx => by cases hx), rfl, h.on hbl, Kept.refl _ _⟩
      have HBL := Lib.hid hbl
      have HLT := Lib.hid (lt_of_block hbx)
      have HGS := Lib.hid (show S < w.heap.size from h.lt.1)
      have HGR := Lib.hid (show R < w.heap.size from h.lt.2)
      obtain ⟨g, hg⟩ : ∃ g, g = w.heap.size := ⟨_, rfl⟩
      have HG := Lib.hid (show w.heap.size ≤ g by omega)
      rw [← hg] at hmk HJ0 HLT HGS HGR
      clear h hf hV hbl hbx hi hz0 hz1 hz2 hg
      go_enter Tryz.func88, Tryz.ntmps88
      go_wp2_with fail
      go_loopw [33] (fun vi wr => ∃ j : Nat, j ≤ n ∧ vi = .int .i64 j ∧ ∃ vl, Hid (RowW s V wr S R g n j vl)) (fun i _ => n - (intOf i).toNat)
      case atStart => exact ⟨0, Nat.zero_le _, rfl, [], HJ0⟩
      case round =>
        obtain ⟨j, hj, rfl, vl, HJ⟩ := hrel
        clear HJ0
        by_cases hlt : j < n
        · go_wp2_with fail
          refine Calls.mono (vote_any wr S R _ HJ.out.sat) ?_
          rintro e w1 ⟨x, rfl, hw, hva, hvn, h1, h2⟩
          obtain ⟨ht, hj1⟩ := HJ.out.next hw hva hvn h1 h2 HGS.out HGR.out (Nat.lt_of_lt_of_le HLT.out HJ.out.kept.size) hlt
          have HTH := Lib.hid ht
          have HJ1 := Lib.hid hj1
          clear h1 h2 ht hj1 HJ hw hva hvn
          generalize (pVt (pN pVt s j).2).1.c = xc at *
          go_wp2_with (first | (refine wpList_store_mid rfl 32 (.tmp 40) (.tmp 39) rfl g (j * 7) x.cells.toArray (by first | rfl | simp) rfl HTH.out size32' (all_oneCell_toArray (Vt.one x)) ?_; refine Hid.out ?_) | go_in)
          refine Lib.hid ?_
          generalize w1.setCells g (j * 7) x.cells = w9 at *
          clear HTH
          go_wp2_with fail
          go_round
          case rel => exact ⟨j + 1, by omega, by go_num, _, HJ1⟩
          case measure => simp [intOf]; omega
        · obtain rfl : j = n := by omega
          go_wp2_with fail
          go_ret
          refine ⟨⟨some ⟨g, 0, none⟩, j, j⟩, vl, rfl, ⟨row_of_range (enc := vcell) (k := 7) (fun x => rfl) HJ.out.len HJ.out.ra (show j ≤ 1000 by omega), fun x hx => (HJ.out.each x hx).1⟩, HJ.out.pure, ⟨(fun ad e => by injection e with e; subst e; exact HG.out), fun x hx => ?_⟩, HJ.out.sat, ?_⟩
          · obtain ⟨n1, n2, n3⟩ := (HJ.out.each x hx).2
            have hg := HG.out
            exact ⟨fun ad e => by have := n1 ad e; omega, fun ad e => by have := n2 ad e; omega, fun ad e => by have := n3 ad e; omega⟩
          · exact ((Kept.ofBelow (S := TG S R g) HBL.out).trans HJ.out.kept (fun _ _ h => h)).new2 HG.out
    · rw [if_neg hk]
      simp only
      clear h hf
      go_enter Tryz.func88, Tryz.ntmps88
      go_wp2_with fail
      go_ret
      exact ⟨⟨none, 0, 0⟩, [], rfl, ⟨Row.nil _ _ _, fun x hx => by cases hx⟩, rfl, ⟨(fun ad e => by cases e), fun x hx => by cases hx⟩, H.out.fault 30, Kept.sf ((Kept.refl _ _).setCell _ _ (fun _ => rfl))⟩
  · rw [if_neg hf]
    have hf2 : (s.f == 0) = false := by simp [hf]
    simp only
    clear h hf
    by_cases hk : n ≤ most
    · go_enter Tryz.func88, Tryz.ntmps88
      go_wp2_with fail
      go_ret
      exact ⟨⟨none, 0, 0⟩, [], rfl, ⟨Row.nil _ _ _, fun x hx => by cases hx⟩, rfl, ⟨(fun ad e => by cases e), fun x hx => by cases hx⟩, H.out, Kept.refl _ _⟩
    · go_enter Tryz.func88, Tryz.ntmps88
      go_wp2_with fail
      go_ret
      exact ⟨⟨none, 0, 0⟩, [], rfl, ⟨Row.nil _ _ _, fun x hx => by cases hx⟩, rfl, ⟨(fun ad e => by cases e), fun x hx => by cases hx⟩, H.out, Kept.refl _ _⟩

/-- bytes with their number ahead, 64 at most -/
def pDt (s : Sr) : List Int × Sr :=
  if s.f = 0 then
    (if 2 ≤ s.l.length then
      (if 64 < rd16 s.l then ([], ⟨s.l, 21⟩) else if 2 + (rd16 s.l).toNat ≤ s.l.length then ((s.l.drop 2).take (rd16 s.l).toNat, ⟨s.l.drop (2 + (rd16 s.l).toNat), 0⟩) else ([], ⟨s.l, 20⟩))
    else ([], ⟨s.l, 20⟩))
  else ([], s)
theorem dt_nil (w : World) : DtAt w ⟨none, 0, 0⟩ [] := ⟨rfl, fun i hi => by simp at hi, fun _ => rfl, Nat.le_refl _, by simp, fun x hx => by cases hx⟩

set_option maxHeartbeats 1600000 in
/-- the function within: it hands on what the reader tells -/
theorem in78 (w : World) (S R cb : Nat) (s : Sr) (h : Sat w S R s) (hc : w.cell? ⟨cb, 0, none⟩ = some (.pointer (some ⟨S, 0, none⟩))) {Q : Value → Int → World → Prop} (C : Calls Tryz.prog 92 #[.pointer (some ⟨R, 0, none⟩), .int .i64 64] w fun e w' => ∃ (v : Sl) (f : Int), e = .returned (.tuple #[.slice v.a v.n v.c, .int .i64 f]) ∧ Q v.val f w') :
    Calls Tryz.prog 91 #[.pointer (some ⟨cb, 0, none⟩)] w fun e w' => ∃ (v : Sl) (f : Int), e = .returned (.tuple #[.slice v.a v.n v.c, .int .i64 f]) ∧ Q v.val f w' := by
  have q0 := h.cell0
  have C := Lib.hid C
  clear h
  go_enter Tryz.func91, Tryz.ntmps91
  go_wp2_with fail
  refine Calls.mono C.out ?_
  rintro e w1 ⟨v, f, rfl, hq⟩
  have HQ := Lib.hid hq
  clear hq
  go_wp2_with fail
  exact bodyPost_ret (v := .tuple #[.slice v.a v.n v.c, .int .i64 f]) (by simp [results, Tryz.results91, go_sem]) rfl ⟨v, f, rfl, HQ.out⟩

/-- what the reader's call tells and leaves -/
def Dq (w : World) (S R : Nat) (s : Sr) (v : Value) (f : Int) (w' : World) : Prop :=
  ∃ u : Sl, v = u.val ∧ ((f ≠ 0 ∧ u = ⟨none, 0, 0⟩ ∧ (pDt s).1 = [] ∧ (pDt s).2 = ⟨s.l, f⟩ ∧ Sat w' S R s) ∨ (f = 0 ∧ DtAt w' u (pDt s).1 ∧ (∀ ad, u.a = some ad → w.heap.size ≤ ad.block) ∧ Sat w' S R (pDt s).2)) ∧ Kept (SR S R) w w'

theorem in79 (w : World) (S R : Nat) (s : Sr) (h : Sat w S R s) (hf : s.f = 0) :
    Calls Tryz.prog 92 #[.pointer (some ⟨R, 0, none⟩), .int .i64 64] w fun e w' => ∃ (v : Sl) (f : Int), e = .returned (.tuple #[.slice v.a v.n v.c, .int .i64 f]) ∧ Dq w S R s v.val f w' := by
  have hlen : s.l.length ≤ 1000000 := Nat.le_trans h.len (by decide)
  by_cases h2 : 2 ≤ s.l.length
  · have hr := rd16_range h.rd.toRd h2
    obtain ⟨k, hk⟩ := Int.eq_ofNat_of_zero_le hr.1
    by_cases hl : 64 < rd16 s.l
    · refine (rb_long w R s.l 64 h.rd.toRd h2 hlen k hk (by omega)).mono ?_
      rintro e w' ⟨rfl, n, rfl⟩
      exact ⟨⟨none, 0, 0⟩, 21, rfl, ⟨none, 0, 0⟩, rfl, .inl ⟨by decide, rfl, by simp [pDt, hf, h2, hl], by simp [pDt, hf, h2, hl], h.drewN n⟩, (Kept.refl _ w).drewN n⟩
    · have hkt : (rd16 s.l).toNat = k := by omega
      by_cases hc : 2 + k ≤ s.l.length
      · refine (rb_b w R s.l 64 h.rd h2 hlen k hk (by omega) hc).mono ?_
        rintro e w' ⟨ao, c, rfl, hnew, hrb, hkp⟩
        have e1 : (pDt s).1 = (s.l.drop 2).take k := by simp [pDt, hf, h2, hl, hkt, hc]
        have e2 : (pDt s).2 = ⟨s.l.drop (2 + k), 0⟩ := by simp [pDt, hf, h2, hl, hkt, hc]
        have hl2 : ((s.l.drop 2).take k).length = k := by rw [List.length_take, List.length_drop]; omega
        refine ⟨⟨ao, k, c⟩, 0, rfl, ⟨ao, k, c⟩, rfl, .inr ⟨rfl, ?_, ?_, ?_⟩, hkp.sr⟩
        · rw [e1]
          have hn1 := hnew.1
          refine ⟨hl2.symm, ?_, ?_, ?_, by omega, ?_⟩
          · exact own_bytes hn1
          · intro e; exact (hnew.none e).2
          · show ((s.l.drop 2).take k).length ≤ c
            rcases hn1.2 with ⟨hv, h0⟩ | ⟨g, c3, cur, hv, _, _, h1, _⟩
            · injection hv with _ _ hv; omega
            · injection hv with _ _ hv; omega
          · intro x hx
            obtain ⟨i, hi, rfl⟩ := List.getElem_of_mem (List.mem_of_mem_drop (List.mem_of_mem_take hx))
            have := h.rd.byte i hi
            rwa [List.getD_eq_getElem?_getD, List.getElem?_eq_getElem hi] at this
        · intro ad e
          exact hnew.2 ad e
        · rw [e2]
          have := h.read hrb hkp (by simp)
          rw [hf] at this
          exact this
      · refine (rb_cut w R s.l 64 h.rd.toRd h2 hlen k hk (by omega) (by omega)).mono ?_
        rintro e w' ⟨rfl, n, rfl⟩
        exact ⟨⟨none, 0, 0⟩, 20, rfl, ⟨none, 0, 0⟩, rfl, .inl ⟨by decide, rfl, by simp [pDt, hf, h2, hl, hkt, hc], by simp [pDt, hf, h2, hl, hkt, hc], h.drewN n⟩, (Kept.refl _ w).drewN n⟩
  · refine (rb_short w R s.l 64 h.rd.toRd (by omega)).mono ?_
    rintro e w' ⟨rfl, rfl⟩
    exact ⟨⟨none, 0, 0⟩, 20, rfl, ⟨none, 0, 0⟩, rfl, .inl ⟨by decide, rfl, by simp [pDt, hf, h2], by simp [pDt, hf, h2], h⟩, Kept.refl _ _⟩

set_option maxHeartbeats 1600000 in
theorem data_any (w : World) (S R cb : Nat) (s : Sr) (h : Sat w S R s) (hc : w.cell? ⟨cb, 0, none⟩ = some (.pointer (some ⟨S, 0, none⟩))) :
    Calls Tryz.prog 90 #[.pointer (some ⟨S, 0, none⟩), .func (.func 91) #[] #[.pointer (some ⟨cb, 0, none⟩)]] w fun e w' => ∃ v : Sl, e = .returned (.slice v.a v.n v.c) ∧ DtAt w' v (pDt s).1 ∧ (∀ ad, v.a = some ad → w.heap.size ≤ ad.block) ∧ Sat w' S R (pDt s).2 ∧ Kept (SR S R) w w' := by
  have q1 := h.cell1
  have H := Lib.hid h
  by_cases hf : s.f = 0
  · rw [hf] at q1
    have C := Lib.hid (in78 w S R cb s h hc (in79 w S R s h hf))
    clear h hf hc
    go_enter Tryz.func90, Tryz.ntmps90
    go_wp2_with fail
    refine Calls.mono C.out ?_
    rintro e w1 ⟨v, f, rfl, u, huv, hcase, hk⟩
    have huv2 : v = u := by
      obtain ⟨a1, n1, c1⟩ := v
      obtain ⟨a2, n2, c2⟩ := u
      injection huv with e1 e2 e3
      subst e1 e2 e3
      rfl
    subst huv2
    have HK := Lib.hid hk
    rcases hcase with ⟨hf, rfl, e1, e2, hs⟩ | ⟨rfl, hd, hnw, hs⟩
    · have hf2 : (f == 0) = false := by simp [hf]
      have p1 := hs.cell1
      have z1 := hs.free1
      have HS := Lib.hid hs
      have E1 := Lib.hid e1
      have E2 := Lib.hid e2
      clear hs e1 e2 hk hf huv
      go_wp2_with fail
      go_ret
      refine ⟨⟨none, 0, 0⟩, rfl, by rw [E1.out]; exact dt_nil _, (fun ad e => by cases e), by rw [E2.out]; exact HS.out.fault f, ?_⟩
      exact HK.out.trans (Kept.sf ((Kept.refl _ _).setCell _ _ (fun _ => rfl))) (fun _ _ h => h)
    · have HS := Lib.hid hs
      have HD := Lib.hid hd
      have HN := Lib.hid hnw
      clear hs hd hnw hk huv
      go_wp2_with fail
      go_ret
      exact ⟨v, rfl, HD.out, HN.out, HS.out, HK.out⟩
  · have hf2 : (s.f == 0) = false := by simp [hf]
    have e1 : pDt s = ([], s) := by simp [pDt, hf]
    rw [e1]
    clear h hf hc
    go_enter Tryz.func90, Tryz.ntmps90
    go_wp2_with fail
    go_ret
    exact ⟨⟨none, 0, 0⟩, rfl, dt_nil _, (fun ad e => by cases e), H.out, Kept.refl _ _⟩
end Go.Proofs.YtbpfkeeikhhlnaaGreatDoor
