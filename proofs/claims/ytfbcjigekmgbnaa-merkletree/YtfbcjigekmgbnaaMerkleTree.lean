/- A root is made of groups, a group of leaves, two by two, in their order, for every input (MerkleTree). -/
import Derived.Test.YtfbcjigekmgbnaaRows
import Derived.Test.YtfbcjigekmgbnaaKno
import Derived.Test.YtfbcjigekmgbnaaArr8
import Derived.Test.YtfbcjigekmgbnaaHeld
import Derived.Test.YtfbcjigekmgbnaaOpen
import Derived.WalkKit
import Derived.ProofKit
import Derived.OpenShut
import Derived.ShutString
import Derived.ChangeOld
import Derived.Below
import Derived.Deep.AppendLies
namespace Go.Proofs.Ytfbcjigekmgbnaa.merkleTree
open Go.ChangeShapes Go.WideShapes Go.ChangeAt Go.RowKit
set_option maxRecDepth 100000

theorem own : ownKnob Try.prog.godebug = none := by kernel_rfl
theorem laidOut : laidOutB Try.prog = true := by kernel_rfl

/-- the first k of four groups, the others 0 -/
def upG (l : List Int) (k : Nat) : List Int := (List.range 4).map fun p => if p < k then groupI l p else 0
theorem upG_get (l : List Int) (k i : Nat) : (qv (upG l k))[i]? = if i < 4 then some (.int .u64 (if i < k then groupI l i else 0)) else none := by
  unfold qv upG
  by_cases h : i < 4
  · simp [h]
  · simp [h]
theorem upG_set (l : List Int) (k : Nat) (hk : k < 4) : (qv (upG l k)).set k (.int .u64 (groupI l k)) = qv (upG l (k + 1)) := by
  refine List.ext_getElem? fun i => ?_
  rw [List.getElem?_set, upG_get, upG_get]
  have hl : (qv (upG l k)).length = 4 := by simp [qv, upG]
  rw [hl]
  by_cases e : k = i
  · subst e; simp [hk]
  · simp only [e, if_false]
    by_cases h8 : i < 4
    · simp only [h8, if_true]
      by_cases h1 : i < k
      · rw [if_pos h1, if_pos (by omega)]
      · rw [if_neg h1, if_neg (by omega)]
    · simp [h8]
/-- block E holds the array of the first k groups -/
def G4 (w : World) (E : Nat) (l : List Int) (k : Nat) : Prop := w.heap[E]? = some (.cells (qv (upG l k)).toArray 57 (0, 0))
theorem G4.lt {w : World} {E k : Nat} {l : List Int} (h : G4 w E l k) : E < w.heap.size := lt_of_block h
theorem G4.kept {S : Nat → Prop} {w w' : World} {E k : Nat} {l : List Int} (h : G4 w E l k) (b : Kept S w w') (hS : ¬ S E) : G4 w' E l k := by
  unfold G4
  rw [b.block E h.lt hS]; exact h
theorem G4.below {w w' : World} {E k : Nat} {l : List Int} (h : G4 w E l k) (b : Below w.heap.size w w') : G4 w' E l k :=
  h.kept (Kept.ofBelow (S := fun _ => False) b) (fun h => h)
theorem G4.cell {w : World} {E k : Nat} {l : List Int} (h : G4 w E l k) (i : Nat) (hk : i < 4) : w.cell? ⟨E, i, none⟩ = some (.int .u64 (if i < k then groupI l i else 0)) := by
  rw [cell_of_row w E i _ 57 (0, 0) h]
  simp [upG_get, hk]
theorem G4.frozen {w : World} {E k : Nat} {l : List Int} (h : G4 w E l k) (i : Nat) : w.frozen? ⟨E, i, none⟩ = false := frozen_of_row w E i _ 57 h
theorem G4.set {w : World} {E k : Nat} {l : List Int} (h : G4 w E l k) (hk : k < 4) : G4 (w.setCell ⟨E, k, none⟩ (.int .u64 (groupI l k))) E l (k + 1) := by
  unfold G4
  rw [heap_setCell_same w E k _ 57 _ h, List.setIfInBounds_toArray, upG_set l k hk]
theorem G4.new (w : World) (l : List Int) : G4 (w.alloc (.cells #[.int .u64 0, .int .u64 0, .int .u64 0, .int .u64 0] 57)) w.heap.size l 0 := heap_alloc_new w _

theorem rowK_open {w w' : World} {e : TypeId} {ao : Option Addr} {n c : Nat} {vs : List Value} (ho : w'.ownsRow 0 e 1 (.slice ao n c) n vs) (hn : 0 < n) (hg : (Value.slice ao n c).ownBlock = (Value.slice none 0 0).ownBlock ∨ (Value.slice ao n c).ownBlock = some w.heap.size) :
    ∃ T, ao = some ⟨T, 0, none⟩ ∧ w.heap.size ≤ T := by
  obtain ⟨g, c2, e, hbg, hlt2⟩ := ho.form hn
  injection e with e1 e2 e3
  subst e1 e3
  refine ⟨g, rfl, ?_⟩
  rcases hg with e | e
  · simp [Value.ownBlock] at e
  · simp [Value.ownBlock] at e; omega
theorem rowK_cell {w : World} {T n c i : Nat} {l : List Int} (h : w.ownsRow 0 40 1 (.slice (some ⟨T, 0, none⟩) n c) n (kv .u64 l)) (hl : l.length = n) (hi : i < n) : w.cell? ⟨T, i, none⟩ = some (.int .u64 (l.getD i 0)) := by
  rw [h.cellAt i (by omega)]; simp [kv, List.getElem?_eq_getElem (show i < l.length by omega), List.getD_eq_getElem?_getD]
theorem rowK_set {w : World} {T n c i : Nat} {l : List Int} (h : w.ownsRow 0 40 1 (.slice (some ⟨T, 0, none⟩) n c) n (kv .u64 l)) (x : Int) : (w.setCell ⟨T, i, none⟩ (.int .u64 x)).ownsRow 0 40 1 (.slice (some ⟨T, 0, none⟩) n c) n (kv .u64 (l.set i x)) := by
  have h1 := (h.stored i (.int .u64 x)).1
  have e : (kv .u64 l).set i (.int .u64 x) = kv .u64 (l.set i x) := by simp [kv, List.map_set]
  rwa [e] at h1
/-- two places changed about -/
def swap (l : List Int) (x y : Nat) : List Int := (l.set x (l.getD y 0)).set y (l.getD x 0)
theorem swap_get (l : List Int) (x y i : Nat) (hx : x < l.length) (hy : y < l.length) : (swap l x y).getD i 0 = if i = y then l.getD x 0 else if i = x then l.getD y 0 else l.getD i 0 := by
  unfold swap
  simp only [List.getD_eq_getElem?_getD, List.getElem?_set, List.length_set]
  by_cases h1 : i = y
  · subst h1; simp [hy]
  · have h1' : ¬ y = i := fun e => h1 e.symm
    rw [if_neg h1, if_neg h1']
    by_cases h2 : i = x
    · subst h2; simp [hx]
    · have h2' : ¬ x = i := fun e => h2 e.symm
      rw [if_neg h2, if_neg h2']
theorem two_places : ∀ x y : Fin 8, x ≠ y → ((List.range 8).filter (fun p => decide (p = x.1 ∨ p = y.1))).length = 2 := by decide
theorem unl_swap (l : List Int) (x y : Nat) (hl : l.length = 8) (hx : x < 8) (hy : y < 8) : (unlTo l (swap l x y) 8).length = if l.getD x 0 = l.getD y 0 then 0 else 2 := by
  have hs : (swap l x y).length = 8 := by simp [swap, hl]
  have g := fun i => swap_get l x y i (by omega) (by omega)
  unfold unlTo
  rw [List.length_map]
  by_cases e : l.getD x 0 = l.getD y 0
  · rw [if_pos e, List.filter_eq_nil_iff.2]
    · rfl
    · intro p _
      rw [unlP_in hl hs, g p]
      by_cases h1 : p = y
      · rw [if_pos h1, h1, e]; simp
      · rw [if_neg h1]
        by_cases h2 : p = x
        · rw [if_pos h2, h2, e]; simp
        · rw [if_neg h2]; simp
  · rw [if_neg e]
    have hxy : x ≠ y := fun h => e (by rw [h])
    have hf : (List.range 8).filter (unlP l (swap l x y)) = (List.range 8).filter (fun p => decide (p = x ∨ p = y)) := by
      refine List.filter_congr fun p _ => ?_
      rw [unlP_in hl hs, g p]
      by_cases h1 : p = y
      · subst h1
        have e' : ¬ l.getD p 0 = l.getD x 0 := fun h => e h.symm
        rw [if_pos rfl, decide_eq_true (.inr rfl)]
        simp only [bne_iff_ne]; exact e'
      · rw [if_neg h1]
        by_cases h2 : p = x
        · subst h2
          rw [if_pos rfl, decide_eq_true (.inl rfl)]
          simp only [bne_iff_ne]; exact e
        · rw [if_neg h2, decide_eq_false (by omega)]; simp
    rw [hf]
    exact two_places ⟨x, hx⟩ ⟨y, hy⟩ (fun h => hxy (by simpa using congrArg Fin.val h))

/-- in the loop: the sums at L, the groups at G -/
def TI (w wr : World) (L G : Nat) (l : List Int) (k : Nat) : Prop :=
  wr.heap[L]? = some (.cells (qv l).toArray 56 (0, 0)) ∧ G4 wr G l k ∧ Below w.heap.size w wr ∧ w.heap.size ≤ L ∧ w.heap.size ≤ G ∧ L ≠ G
theorem TI.below {w wr w' : World} {L G k : Nat} {l : List Int} (h : TI w wr L G l k) (b : Below wr.heap.size wr w') : TI w w' L G l k :=
  ⟨by rw [b.block L (lt_of_block h.1)]; exact h.1, h.2.1.below b, h.2.2.1.trans (b.mono h.2.2.1.size), h.2.2.2⟩
theorem TI.drew {w wr : World} {L G k : Nat} {l : List Int} (h : TI w wr L G l k) : TI w wr.drew L G l k := ⟨h.1, h.2.1, h.2.2.1.drew, h.2.2.2⟩
theorem TI.set {w wr : World} {L G k : Nat} {l : List Int} (h : TI w wr L G l k) (hk : k < 4) : TI w (wr.setCell ⟨G, k, none⟩ (.int .u64 (groupI l k))) L G l (k + 1) := by
  obtain ⟨h1, h2, h3, h4, h5, h6⟩ := h
  refine ⟨?_, h2.set hk, h3.setCell h5 _, h4, h5, h6⟩
  rw [Below.heap_setCell _ _ _ _ (fun e => h6 e)]; exact h1
theorem TI.sum {w wr : World} {L G k : Nat} {l : List Int} (h : TI w wr L G l k) (i : Nat) (hi : i < l.length) : wr.cell? ⟨L, i, none⟩ = some (.int .u64 (l.getD i 0)) := qs_cell (qs_block h.1) i hi

set_option maxHeartbeats 16000000 in
theorem core (l : List Int) (a b : Nat) (w : World) (hl : l.length = 8) (ha : a ≤ 255) (hb : b ≤ 255) :
    Calls Try.prog 6 #[.agg (qv l).toArray, .int .u8 a, .int .u8 b] w fun e w' => e = .returned (.bool true) ∧ Below w.heap.size w w' := by
  have KN := fun w => known_any w
  replace KN := Lib.hid KN
  have HL := Lib.hid hl
  have HLab := Lib.hid (And.intro ha hb)
  obtain ⟨x0, x1, x2, x3, x4, x5, x6, x7, ex⟩ := len8 hl
  have ev : (qv l).toArray = #[.int .u64 x0, .int .u64 x1, .int .u64 x2, .int .u64 x3, .int .u64 x4, .int .u64 x5, .int .u64 x6, .int .u64 x7] := by rw [ex]; rfl
  have hbx : (w.alloc (.cells (qv l).toArray 56)).heap[w.heap.size]? = some (.cells (qv l).toArray 56 (0, 0)) := heap_alloc_new w _
  have hbb := (Below.refl w.heap.size w).alloc (Nat.le_refl _) (.cells (qv l).toArray 56)
  have hs0 : (w.alloc (.cells (qv l).toArray 56)).heap.size = w.heap.size + 1 := by simp
  generalize hw0 : w.alloc (.cells (qv l).toArray 56) = w0 at *
  have HW0 := Lib.hid hw0
  have H0 := Lib.hid (And.intro hbx (And.intro hbb hs0))
  rw [ev]
  have EV := Lib.hid ev
  rw [ev] at HW0
  clear hl ha hb ex ev hw0 hbx hbb hs0
  go_enter Try.func6, Try.ntmps6
  go_wp2_with fail
  rw [HW0.out]
  refine (KN.out w0).mono ?_
  rintro e w1 ⟨rfl, b1⟩
  have h1 := H0.out.1
  have hs1 := H0.out.2.2
  have T0 : TI w (w1.alloc (.cells #[.int .u64 0, .int .u64 0, .int .u64 0, .int .u64 0] 57)) w.heap.size w1.heap.size l 0 := by
    refine ⟨?_, G4.new w1 l, ((H0.out.2.1.trans (b1.mono H0.out.2.1.size))).alloc (by have := b1.size; omega) _, Nat.le_refl _, by have := b1.size; omega, by have := b1.size; omega⟩
    rw [Below.heap_alloc _ _ _ (by have := b1.size; omega), b1.block _ (by omega)]; exact h1
  have HT := Lib.hid T0
  clear b1 h1 hs1 T0 KN
  generalize hL : w.heap.size = L at *
  replace hL := Lib.hid hL
  go_wp2_with fail
  generalize hG : w1.heap.size = G at *
  clear hG
  generalize w1.alloc (.cells #[.int .u64 0, .int .u64 0, .int .u64 0, .int .u64 0] 57) = w2 at *
  go_loopw [9] (fun v9 wr => ∃ k : Nat, v9 = .int .i64 k ∧ k ≤ 4 ∧ Hid (TI w wr L G l k)) (fun v9 _ => 4 - (intOf v9).toNat)
  case atStart => exact ⟨0, rfl, by omega, HT⟩
  case round =>
    obtain ⟨k, rfl, hk, I⟩ := hrel
    by_cases hlt : k < 4
    · have hlt' : (k : Int) < 4 := by omega
      obtain ⟨m, hm⟩ : ∃ m, m = 2 * k := ⟨_, rfl⟩
      obtain ⟨q, hq⟩ : ∃ q, q = 2 * k + 1 := ⟨_, rfl⟩
      have hm8 : m < 8 := by omega
      have hq8 : q < 8 := by omega
      have hm8' : (m : Int) < 8 := by omega
      have hq8' : (q : Int) < 8 := by omega
      have f0 : IntKind.i64.wrap (2 * (k : Int)) = (m : Int) := by rw [hm]; simp [IntKind.wrap, IntKind.signed, IntKind.bits]; omega
      have f1 : IntKind.i64.wrap ((m : Int) + 1) = (q : Int) := by rw [hm, hq]; simp [IntKind.wrap, IntKind.signed, IntKind.bits]; omega
      have hgr : mixI (l.getD m 0) (l.getD q 0) = groupI l k := by rw [hm, hq]; rfl
      have c1 : ∀ w', (∃ j, TI w w' L G l j) → w'.cell? ⟨L, m, none⟩ = some (.int .u64 (l.getD m 0)) := fun w' ⟨_, h⟩ => h.sum m (by have := HL.out; omega)
      have c2 : ∀ w', (∃ j, TI w w' L G l j) → w'.cell? ⟨L, q, none⟩ = some (.int .u64 (l.getD q 0)) := fun w' ⟨_, h⟩ => h.sum q (by have := HL.out; omega)
      generalize l.getD m 0 = x at *
      generalize l.getD q 0 = y at *
      have M := refMix_any x y wr.drew
      rw [hgr] at M
      replace M := Lib.hid M
      have Hmq := Lib.hid (And.intro hm (And.intro hq hgr))
      clear hm hq hgr
      go_wp2_with fail
      refine wp_region_held_drew (S := fun w' => ∃ j, TI w w' L G l j) (by kernel_rfl) (⟨k, I.out.drew⟩) (fun hS => ?_)
      refine takeA (i := 0) (v := .int .i64 ↑k) ({ tmps := #[.agg #[.int .u64 x0, .int .u64 x1, .int .u64 x2, .int .u64 x3, .int .u64 x4, .int .u64 x5, .int .u64 x6, .int .u64 x7], .int .u8 ↑a, .int .u8 ↑b, .pointer (some ⟨L, 0, none⟩), undef, undef, u6, .slice (some ⟨L, 0, none⟩) 8 8, .pointer (some ⟨G, 0, none⟩), .int .i64 ↑k, undef, undef, undef, undef, .bool true, .bool false, .slice (some ⟨L, 0, none⟩) 8 8, .agg #[.int .u64 0, .int .u64 0, .int .u64 0, .int .u64 0], .int .i64 ↑k, .bool true, u20, u21, .int .i64 ↑k, u23, u24, u25, u26, u27, u28, u29, u30, u31, u32, u33, u34, u35, u36, u37, u38, u39, u40, undef, undef, undef, undef, undef, undef, undef, undef, undef, undef, undef, undef, undef, undef, undef, undef, undef, undef, undef, undef, undef, undef, undef, undef, undef, undef, undef, undef, undef, undef, undef, undef, undef, undef, undef, undef, undef, undef, undef, undef, undef, undef, undef, undef, undef, undef, undef, undef, undef, undef, undef, undef, undef, undef, undef, undef, undef, undef, undef, undef, undef, undef, undef, undef], defers := [] }) rfl (by kernel_rfl) (by kernel_rfl) (by kernel_rfl) (fun _ _ _ h => h) (.inl ⟨rfl, fun _ _ => rfl⟩) hS rfl ?_
      refine takeA (i := 1) (v := .int .i64 ↑k) ({ tmps := #[.agg #[.int .u64 x0, .int .u64 x1, .int .u64 x2, .int .u64 x3, .int .u64 x4, .int .u64 x5, .int .u64 x6, .int .u64 x7], .int .u8 ↑a, .int .u8 ↑b, .pointer (some ⟨L, 0, none⟩), undef, undef, u6, .slice (some ⟨L, 0, none⟩) 8 8, .pointer (some ⟨G, 0, none⟩), .int .i64 ↑k, undef, undef, undef, undef, .bool true, .bool false, .slice (some ⟨L, 0, none⟩) 8 8, .agg #[.int .u64 0, .int .u64 0, .int .u64 0, .int .u64 0], .int .i64 ↑k, .bool true, u20, u21, .int .i64 ↑k, .int .i64 ↑k, u24, u25, u26, u27, u28, u29, u30, u31, u32, u33, u34, u35, u36, u37, u38, u39, u40, undef, undef, undef, undef, undef, undef, undef, undef, undef, undef, undef, undef, undef, undef, undef, undef, undef, undef, undef, undef, undef, undef, undef, undef, undef, undef, undef, undef, undef, undef, undef, undef, undef, undef, undef, undef, undef, undef, undef, undef, undef, undef, undef, undef, undef, undef, undef, undef, undef, undef, undef, undef, undef, undef, undef, undef, undef, undef, undef, undef, undef, undef, undef, undef], defers := [] }) rfl (by kernel_rfl) (by kernel_rfl) (by kernel_rfl) (fun _ _ _ h => h) (.inl ⟨rfl, fun _ _ => rfl⟩) hS rfl ?_
      refine takeA (i := 2) (v := .int .i64 ↑m) ({ tmps := #[.agg #[.int .u64 x0, .int .u64 x1, .int .u64 x2, .int .u64 x3, .int .u64 x4, .int .u64 x5, .int .u64 x6, .int .u64 x7], .int .u8 ↑a, .int .u8 ↑b, .pointer (some ⟨L, 0, none⟩), undef, undef, u6, .slice (some ⟨L, 0, none⟩) 8 8, .pointer (some ⟨G, 0, none⟩), .int .i64 ↑k, undef, undef, undef, undef, .bool true, .bool false, .slice (some ⟨L, 0, none⟩) 8 8, .agg #[.int .u64 0, .int .u64 0, .int .u64 0, .int .u64 0], .int .i64 ↑k, .bool true, u20, u21, .int .i64 ↑k, .int .i64 ↑k, .int .i64 ↑m, u25, u26, u27, u28, u29, u30, u31, u32, u33, u34, u35, u36, u37, u38, u39, u40, undef, undef, undef, undef, undef, undef, undef, undef, undef, undef, undef, undef, undef, undef, undef, undef, undef, undef, undef, undef, undef, undef, undef, undef, undef, undef, undef, undef, undef, undef, undef, undef, undef, undef, undef, undef, undef, undef, undef, undef, undef, undef, undef, undef, undef, undef, undef, undef, undef, undef, undef, undef, undef, undef, undef, undef, undef, undef, undef, undef, undef, undef, undef, undef], defers := [] }) rfl (by kernel_rfl) (by kernel_rfl) (by kernel_rfl) (fun _ _ _ h => h) (.inl ⟨rfl, fun _ _ => by go_simp <;> exact f0⟩) hS rfl ?_
      refine takeA (i := 3) (v := .pointer (some ⟨L, m, none⟩)) ({ tmps := #[.agg #[.int .u64 x0, .int .u64 x1, .int .u64 x2, .int .u64 x3, .int .u64 x4, .int .u64 x5, .int .u64 x6, .int .u64 x7], .int .u8 ↑a, .int .u8 ↑b, .pointer (some ⟨L, 0, none⟩), undef, undef, u6, .slice (some ⟨L, 0, none⟩) 8 8, .pointer (some ⟨G, 0, none⟩), .int .i64 ↑k, undef, undef, undef, undef, .bool true, .bool false, .slice (some ⟨L, 0, none⟩) 8 8, .agg #[.int .u64 0, .int .u64 0, .int .u64 0, .int .u64 0], .int .i64 ↑k, .bool true, u20, u21, .int .i64 ↑k, .int .i64 ↑k, .int .i64 ↑m, .pointer (some ⟨L, m, none⟩), u26, u27, u28, u29, u30, u31, u32, u33, u34, u35, u36, u37, u38, u39, u40, undef, undef, undef, undef, undef, undef, undef, undef, undef, undef, undef, undef, undef, undef, undef, undef, undef, undef, undef, undef, undef, undef, undef, undef, undef, undef, undef, undef, undef, undef, undef, undef, undef, undef, undef, undef, undef, undef, undef, undef, undef, undef, undef, undef, undef, undef, undef, undef, undef, undef, undef, undef, undef, undef, undef, undef, undef, undef, undef, undef, undef, undef, undef, undef], defers := [] }) rfl (by kernel_rfl) (by kernel_rfl) (by kernel_rfl) (fun _ _ _ h => h) (.inl ⟨rfl, fun _ _ => by go_simp⟩) hS rfl ?_
      refine takeA (i := 4) (v := .int .u64 x) ({ tmps := #[.agg #[.int .u64 x0, .int .u64 x1, .int .u64 x2, .int .u64 x3, .int .u64 x4, .int .u64 x5, .int .u64 x6, .int .u64 x7], .int .u8 ↑a, .int .u8 ↑b, .pointer (some ⟨L, 0, none⟩), undef, undef, u6, .slice (some ⟨L, 0, none⟩) 8 8, .pointer (some ⟨G, 0, none⟩), .int .i64 ↑k, undef, undef, undef, undef, .bool true, .bool false, .slice (some ⟨L, 0, none⟩) 8 8, .agg #[.int .u64 0, .int .u64 0, .int .u64 0, .int .u64 0], .int .i64 ↑k, .bool true, u20, u21, .int .i64 ↑k, .int .i64 ↑k, .int .i64 ↑m, .pointer (some ⟨L, m, none⟩), .int .u64 x, u27, u28, u29, u30, u31, u32, u33, u34, u35, u36, u37, u38, u39, u40, undef, undef, undef, undef, undef, undef, undef, undef, undef, undef, undef, undef, undef, undef, undef, undef, undef, undef, undef, undef, undef, undef, undef, undef, undef, undef, undef, undef, undef, undef, undef, undef, undef, undef, undef, undef, undef, undef, undef, undef, undef, undef, undef, undef, undef, undef, undef, undef, undef, undef, undef, undef, undef, undef, undef, undef, undef, undef, undef, undef, undef, undef, undef, undef], defers := [] }) rfl (by kernel_rfl) (by kernel_rfl) (by kernel_rfl) (fun _ _ _ h => h) (yi_load 40 _ (.pointer (some ⟨L, m, none⟩)) rfl rfl rfl (fun w hw => by have q := c1 w hw; go_simp)) hS rfl ?_
      refine takeA (i := 5) (v := .int .i64 ↑k) ({ tmps := #[.agg #[.int .u64 x0, .int .u64 x1, .int .u64 x2, .int .u64 x3, .int .u64 x4, .int .u64 x5, .int .u64 x6, .int .u64 x7], .int .u8 ↑a, .int .u8 ↑b, .pointer (some ⟨L, 0, none⟩), undef, undef, u6, .slice (some ⟨L, 0, none⟩) 8 8, .pointer (some ⟨G, 0, none⟩), .int .i64 ↑k, undef, undef, undef, undef, .bool true, .bool false, .slice (some ⟨L, 0, none⟩) 8 8, .agg #[.int .u64 0, .int .u64 0, .int .u64 0, .int .u64 0], .int .i64 ↑k, .bool true, u20, u21, .int .i64 ↑k, .int .i64 ↑k, .int .i64 ↑m, .pointer (some ⟨L, m, none⟩), .int .u64 x, .int .i64 ↑k, u28, u29, u30, u31, u32, u33, u34, u35, u36, u37, u38, u39, u40, undef, undef, undef, undef, undef, undef, undef, undef, undef, undef, undef, undef, undef, undef, undef, undef, undef, undef, undef, undef, undef, undef, undef, undef, undef, undef, undef, undef, undef, undef, undef, undef, undef, undef, undef, undef, undef, undef, undef, undef, undef, undef, undef, undef, undef, undef, undef, undef, undef, undef, undef, undef, undef, undef, undef, undef, undef, undef, undef, undef, undef, undef, undef, undef], defers := [] }) rfl (by kernel_rfl) (by kernel_rfl) (by kernel_rfl) (fun _ _ _ h => h) (.inl ⟨rfl, fun _ _ => rfl⟩) hS rfl ?_
      refine takeA (i := 6) (v := .int .i64 ↑m) ({ tmps := #[.agg #[.int .u64 x0, .int .u64 x1, .int .u64 x2, .int .u64 x3, .int .u64 x4, .int .u64 x5, .int .u64 x6, .int .u64 x7], .int .u8 ↑a, .int .u8 ↑b, .pointer (some ⟨L, 0, none⟩), undef, undef, u6, .slice (some ⟨L, 0, none⟩) 8 8, .pointer (some ⟨G, 0, none⟩), .int .i64 ↑k, undef, undef, undef, undef, .bool true, .bool false, .slice (some ⟨L, 0, none⟩) 8 8, .agg #[.int .u64 0, .int .u64 0, .int .u64 0, .int .u64 0], .int .i64 ↑k, .bool true, u20, u21, .int .i64 ↑k, .int .i64 ↑k, .int .i64 ↑m, .pointer (some ⟨L, m, none⟩), .int .u64 x, .int .i64 ↑k, .int .i64 ↑m, u29, u30, u31, u32, u33, u34, u35, u36, u37, u38, u39, u40, undef, undef, undef, undef, undef, undef, undef, undef, undef, undef, undef, undef, undef, undef, undef, undef, undef, undef, undef, undef, undef, undef, undef, undef, undef, undef, undef, undef, undef, undef, undef, undef, undef, undef, undef, undef, undef, undef, undef, undef, undef, undef, undef, undef, undef, undef, undef, undef, undef, undef, undef, undef, undef, undef, undef, undef, undef, undef, undef, undef, undef, undef, undef, undef], defers := [] }) rfl (by kernel_rfl) (by kernel_rfl) (by kernel_rfl) (fun _ _ _ h => h) (.inl ⟨rfl, fun _ _ => by go_simp <;> exact f0⟩) hS rfl ?_
      refine takeA (i := 7) (v := .int .i64 ↑q) ({ tmps := #[.agg #[.int .u64 x0, .int .u64 x1, .int .u64 x2, .int .u64 x3, .int .u64 x4, .int .u64 x5, .int .u64 x6, .int .u64 x7], .int .u8 ↑a, .int .u8 ↑b, .pointer (some ⟨L, 0, none⟩), undef, undef, u6, .slice (some ⟨L, 0, none⟩) 8 8, .pointer (some ⟨G, 0, none⟩), .int .i64 ↑k, undef, undef, undef, undef, .bool true, .bool false, .slice (some ⟨L, 0, none⟩) 8 8, .agg #[.int .u64 0, .int .u64 0, .int .u64 0, .int .u64 0], .int .i64 ↑k, .bool true, u20, u21, .int .i64 ↑k, .int .i64 ↑k, .int .i64 ↑m, .pointer (some ⟨L, m, none⟩), .int .u64 x, .int .i64 ↑k, .int .i64 ↑m, .int .i64 ↑q, u30, u31, u32, u33, u34, u35, u36, u37, u38, u39, u40, undef, undef, undef, undef, undef, undef, undef, undef, undef, undef, undef, undef, undef, undef, undef, undef, undef, undef, undef, undef, undef, undef, undef, undef, undef, undef, undef, undef, undef, undef, undef, undef, undef, undef, undef, undef, undef, undef, undef, undef, undef, undef, undef, undef, undef, undef, undef, undef, undef, undef, undef, undef, undef, undef, undef, undef, undef, undef, undef, undef, undef, undef, undef, undef], defers := [] }) rfl (by kernel_rfl) (by kernel_rfl) (by kernel_rfl) (fun _ _ _ h => h) (.inl ⟨rfl, fun _ _ => by go_simp <;> exact f1⟩) hS rfl ?_
      refine takeA (i := 8) (v := .pointer (some ⟨L, q, none⟩)) ({ tmps := #[.agg #[.int .u64 x0, .int .u64 x1, .int .u64 x2, .int .u64 x3, .int .u64 x4, .int .u64 x5, .int .u64 x6, .int .u64 x7], .int .u8 ↑a, .int .u8 ↑b, .pointer (some ⟨L, 0, none⟩), undef, undef, u6, .slice (some ⟨L, 0, none⟩) 8 8, .pointer (some ⟨G, 0, none⟩), .int .i64 ↑k, undef, undef, undef, undef, .bool true, .bool false, .slice (some ⟨L, 0, none⟩) 8 8, .agg #[.int .u64 0, .int .u64 0, .int .u64 0, .int .u64 0], .int .i64 ↑k, .bool true, u20, u21, .int .i64 ↑k, .int .i64 ↑k, .int .i64 ↑m, .pointer (some ⟨L, m, none⟩), .int .u64 x, .int .i64 ↑k, .int .i64 ↑m, .int .i64 ↑q, .pointer (some ⟨L, q, none⟩), u31, u32, u33, u34, u35, u36, u37, u38, u39, u40, undef, undef, undef, undef, undef, undef, undef, undef, undef, undef, undef, undef, undef, undef, undef, undef, undef, undef, undef, undef, undef, undef, undef, undef, undef, undef, undef, undef, undef, undef, undef, undef, undef, undef, undef, undef, undef, undef, undef, undef, undef, undef, undef, undef, undef, undef, undef, undef, undef, undef, undef, undef, undef, undef, undef, undef, undef, undef, undef, undef, undef, undef, undef, undef], defers := [] }) rfl (by kernel_rfl) (by kernel_rfl) (by kernel_rfl) (fun _ _ _ h => h) (.inl ⟨rfl, fun _ _ => by go_simp⟩) hS rfl ?_
      refine takeA (i := 9) (v := .int .u64 y) ({ tmps := #[.agg #[.int .u64 x0, .int .u64 x1, .int .u64 x2, .int .u64 x3, .int .u64 x4, .int .u64 x5, .int .u64 x6, .int .u64 x7], .int .u8 ↑a, .int .u8 ↑b, .pointer (some ⟨L, 0, none⟩), undef, undef, u6, .slice (some ⟨L, 0, none⟩) 8 8, .pointer (some ⟨G, 0, none⟩), .int .i64 ↑k, undef, undef, undef, undef, .bool true, .bool false, .slice (some ⟨L, 0, none⟩) 8 8, .agg #[.int .u64 0, .int .u64 0, .int .u64 0, .int .u64 0], .int .i64 ↑k, .bool true, u20, u21, .int .i64 ↑k, .int .i64 ↑k, .int .i64 ↑m, .pointer (some ⟨L, m, none⟩), .int .u64 x, .int .i64 ↑k, .int .i64 ↑m, .int .i64 ↑q, .pointer (some ⟨L, q, none⟩), .int .u64 y, u32, u33, u34, u35, u36, u37, u38, u39, u40, undef, undef, undef, undef, undef, undef, undef, undef, undef, undef, undef, undef, undef, undef, undef, undef, undef, undef, undef, undef, undef, undef, undef, undef, undef, undef, undef, undef, undef, undef, undef, undef, undef, undef, undef, undef, undef, undef, undef, undef, undef, undef, undef, undef, undef, undef, undef, undef, undef, undef, undef, undef, undef, undef, undef, undef, undef, undef, undef, undef, undef, undef, undef, undef], defers := [] }) rfl (by kernel_rfl) (by kernel_rfl) (by kernel_rfl) (fun _ _ _ h => h) (yi_load 40 _ (.pointer (some ⟨L, q, none⟩)) rfl rfl rfl (fun w hw => by have q := c2 w hw; go_simp)) hS rfl ?_
      refine wpAnyH_ready (rs := [10]) (by kernel_rfl) (by simp) ?_
      refine AllReadyH.cons rfl (fun K hK => ?_) AllReadyH.nil
      rw [if_pos (by rfl)]
      go_simp
      refine Calls.mono (M.out) ?_
      rintro e w5 ⟨rfl, b5⟩
      have h5 := I.out.drew.below b5
      have z1 := h5.2.1.cell k hlt
      have z2 := h5.2.1.frozen k
      simp only [Nat.lt_irrefl, if_false] at z1
      clear b5
      refine hK.out ({ tmps := #[.agg #[.int .u64 x0, .int .u64 x1, .int .u64 x2, .int .u64 x3, .int .u64 x4, .int .u64 x5, .int .u64 x6, .int .u64 x7], .int .u8 ↑a, .int .u8 ↑b, .pointer (some ⟨L, 0, none⟩), undef, undef, u6, .slice (some ⟨L, 0, none⟩) 8 8, .pointer (some ⟨G, 0, none⟩), .int .i64 ↑k, undef, undef, undef, undef, .bool true, .bool false, .slice (some ⟨L, 0, none⟩) 8 8, .agg #[.int .u64 0, .int .u64 0, .int .u64 0, .int .u64 0], .int .i64 ↑k, .bool true, u20, u21, .int .i64 ↑k, .int .i64 ↑k, .int .i64 ↑m, .pointer (some ⟨L, m, none⟩), .int .u64 x, .int .i64 ↑k, .int .i64 ↑m, .int .i64 ↑q, .pointer (some ⟨L, q, none⟩), .int .u64 y, .int .u64 (groupI l k), u33, u34, u35, u36, u37, u38, u39, u40, undef, undef, undef, undef, undef, undef, undef, undef, undef, undef, undef, undef, undef, undef, undef, undef, undef, undef, undef, undef, undef, undef, undef, undef, undef, undef, undef, undef, undef, undef, undef, undef, undef, undef, undef, undef, undef, undef, undef, undef, undef, undef, undef, undef, undef, undef, undef, undef, undef, undef, undef, undef, undef, undef, undef, undef, undef, undef, undef, undef, undef, undef, undef, undef], defers := [] }) _ (⟨k, h5⟩) (fun hS => ?_)
      clear hK K
      refine takeA (i := 11) (v := .pointer (some ⟨G, k, none⟩)) ({ tmps := #[.agg #[.int .u64 x0, .int .u64 x1, .int .u64 x2, .int .u64 x3, .int .u64 x4, .int .u64 x5, .int .u64 x6, .int .u64 x7], .int .u8 ↑a, .int .u8 ↑b, .pointer (some ⟨L, 0, none⟩), undef, undef, u6, .slice (some ⟨L, 0, none⟩) 8 8, .pointer (some ⟨G, 0, none⟩), .int .i64 ↑k, undef, undef, undef, undef, .bool true, .bool false, .slice (some ⟨L, 0, none⟩) 8 8, .agg #[.int .u64 0, .int .u64 0, .int .u64 0, .int .u64 0], .int .i64 ↑k, .bool true, u20, u21, .int .i64 ↑k, .int .i64 ↑k, .int .i64 ↑m, .pointer (some ⟨L, m, none⟩), .int .u64 x, .int .i64 ↑k, .int .i64 ↑m, .int .i64 ↑q, .pointer (some ⟨L, q, none⟩), .int .u64 y, .int .u64 (groupI l k), .pointer (some ⟨G, k, none⟩), u34, u35, u36, u37, u38, u39, u40, undef, undef, undef, undef, undef, undef, undef, undef, undef, undef, undef, undef, undef, undef, undef, undef, undef, undef, undef, undef, undef, undef, undef, undef, undef, undef, undef, undef, undef, undef, undef, undef, undef, undef, undef, undef, undef, undef, undef, undef, undef, undef, undef, undef, undef, undef, undef, undef, undef, undef, undef, undef, undef, undef, undef, undef, undef, undef, undef, undef, undef, undef, undef, undef], defers := [] }) rfl (by kernel_rfl) (by kernel_rfl) (by kernel_rfl) (fun _ _ _ h => h) (.inl ⟨rfl, fun _ _ => by go_simp⟩) hS rfl ?_
      refine wpAnyH_ready (rs := [12]) (by kernel_rfl) (by simp) ?_
      refine AllReadyH.cons rfl (fun K hK => ?_) AllReadyH.nil
      rw [if_pos (by rfl)]
      go_simp
      refine hK.out ({ tmps := #[.agg #[.int .u64 x0, .int .u64 x1, .int .u64 x2, .int .u64 x3, .int .u64 x4, .int .u64 x5, .int .u64 x6, .int .u64 x7], .int .u8 ↑a, .int .u8 ↑b, .pointer (some ⟨L, 0, none⟩), undef, undef, u6, .slice (some ⟨L, 0, none⟩) 8 8, .pointer (some ⟨G, 0, none⟩), .int .i64 ↑k, undef, undef, undef, undef, .bool true, .bool false, .slice (some ⟨L, 0, none⟩) 8 8, .agg #[.int .u64 0, .int .u64 0, .int .u64 0, .int .u64 0], .int .i64 ↑k, .bool true, u20, u21, .int .i64 ↑k, .int .i64 ↑k, .int .i64 ↑m, .pointer (some ⟨L, m, none⟩), .int .u64 x, .int .i64 ↑k, .int .i64 ↑m, .int .i64 ↑q, .pointer (some ⟨L, q, none⟩), .int .u64 y, .int .u64 (groupI l k), .pointer (some ⟨G, k, none⟩), u34, u35, u36, u37, u38, u39, u40, undef, undef, undef, undef, undef, undef, undef, undef, undef, undef, undef, undef, undef, undef, undef, undef, undef, undef, undef, undef, undef, undef, undef, undef, undef, undef, undef, undef, undef, undef, undef, undef, undef, undef, undef, undef, undef, undef, undef, undef, undef, undef, undef, undef, undef, undef, undef, undef, undef, undef, undef, undef, undef, undef, undef, undef, undef, undef, undef, undef, undef, undef, undef, undef], defers := [] }) _ (⟨k + 1, h5.set hlt⟩) (fun hS => ?_)
      clear hK K
      refine wpAnyH_done (by kernel_rfl) ?_ _
      have h6 := Lib.hid (h5.set hlt)
      clear hS h5 z1 z2 M c1 c2 f0 f1
      generalize w5.setCell _ _ = w6 at *
      have N6 := tgroup_any w6.drew (some ⟨L, 0, none⟩) 8 8 l (qs_block h6.out.drew.1) HL.out k
      have eg : gI l k = groupI l k := by unfold gI; rw [if_pos ⟨HL.out, by omega, hlt'⟩]; rfl
      rw [eg] at N6
      replace N6 := Lib.hid N6
      have c6 : ∀ w', TI w w' L G l (k + 1) → w'.cell? ⟨G, k, none⟩ = some (.int .u64 (groupI l k)) := fun w' h => by
        have := h.2.1.cell k hlt
        rwa [if_pos (by omega)] at this
      clear eg
      generalize groupI l k = gk at *
      go_wp2_with fail
      refine wp_region_held_drew (S := fun w' => TI w w' L G l (k + 1)) (by kernel_rfl) (h6.out.drew) (fun hS => ?_)
      refine takeA (i := 0) (v := .slice (some ⟨L, 0, none⟩) 8 8) ({ tmps := #[.agg #[.int .u64 x0, .int .u64 x1, .int .u64 x2, .int .u64 x3, .int .u64 x4, .int .u64 x5, .int .u64 x6, .int .u64 x7], .int .u8 ↑a, .int .u8 ↑b, .pointer (some ⟨L, 0, none⟩), undef, undef, u6, .slice (some ⟨L, 0, none⟩) 8 8, .pointer (some ⟨G, 0, none⟩), .int .i64 ↑k, undef, undef, undef, undef, .bool true, .bool false, .slice (some ⟨L, 0, none⟩) 8 8, .agg #[.int .u64 0, .int .u64 0, .int .u64 0, .int .u64 0], .int .i64 ↑k, .bool true, u20, u21, .int .i64 ↑k, .int .i64 ↑k, .int .i64 ↑m, .pointer (some ⟨L, m, none⟩), .int .u64 x, .int .i64 ↑k, .int .i64 ↑m, .int .i64 ↑q, .pointer (some ⟨L, q, none⟩), .int .u64 y, .int .u64 gk, .pointer (some ⟨G, k, none⟩), .slice (some ⟨L, 0, none⟩) 8 8, u35, u36, u37, u38, u39, u40, undef, undef, undef, undef, undef, undef, undef, undef, undef, undef, undef, undef, undef, undef, undef, undef, undef, undef, undef, undef, undef, undef, undef, undef, undef, undef, undef, undef, undef, undef, undef, undef, undef, undef, undef, undef, undef, undef, undef, undef, undef, undef, undef, undef, undef, undef, undef, undef, undef, undef, undef, undef, undef, undef, undef, undef, undef, undef, undef, undef, undef, undef, undef, undef], defers := [] }) rfl (by kernel_rfl) (by kernel_rfl) (by kernel_rfl) (fun _ _ _ h => h) (.inl ⟨rfl, fun _ _ => rfl⟩) hS rfl ?_
      refine takeA (i := 1) (v := .int .i64 ↑k) ({ tmps := #[.agg #[.int .u64 x0, .int .u64 x1, .int .u64 x2, .int .u64 x3, .int .u64 x4, .int .u64 x5, .int .u64 x6, .int .u64 x7], .int .u8 ↑a, .int .u8 ↑b, .pointer (some ⟨L, 0, none⟩), undef, undef, u6, .slice (some ⟨L, 0, none⟩) 8 8, .pointer (some ⟨G, 0, none⟩), .int .i64 ↑k, undef, undef, undef, undef, .bool true, .bool false, .slice (some ⟨L, 0, none⟩) 8 8, .agg #[.int .u64 0, .int .u64 0, .int .u64 0, .int .u64 0], .int .i64 ↑k, .bool true, u20, u21, .int .i64 ↑k, .int .i64 ↑k, .int .i64 ↑m, .pointer (some ⟨L, m, none⟩), .int .u64 x, .int .i64 ↑k, .int .i64 ↑m, .int .i64 ↑q, .pointer (some ⟨L, q, none⟩), .int .u64 y, .int .u64 gk, .pointer (some ⟨G, k, none⟩), .slice (some ⟨L, 0, none⟩) 8 8, .int .i64 ↑k, u36, u37, u38, u39, u40, undef, undef, undef, undef, undef, undef, undef, undef, undef, undef, undef, undef, undef, undef, undef, undef, undef, undef, undef, undef, undef, undef, undef, undef, undef, undef, undef, undef, undef, undef, undef, undef, undef, undef, undef, undef, undef, undef, undef, undef, undef, undef, undef, undef, undef, undef, undef, undef, undef, undef, undef, undef, undef, undef, undef, undef, undef, undef, undef, undef, undef, undef, undef, undef], defers := [] }) rfl (by kernel_rfl) (by kernel_rfl) (by kernel_rfl) (fun _ _ _ h => h) (.inl ⟨rfl, fun _ _ => rfl⟩) hS rfl ?_
      refine takeA (i := 3) (v := .int .i64 ↑k) ({ tmps := #[.agg #[.int .u64 x0, .int .u64 x1, .int .u64 x2, .int .u64 x3, .int .u64 x4, .int .u64 x5, .int .u64 x6, .int .u64 x7], .int .u8 ↑a, .int .u8 ↑b, .pointer (some ⟨L, 0, none⟩), undef, undef, u6, .slice (some ⟨L, 0, none⟩) 8 8, .pointer (some ⟨G, 0, none⟩), .int .i64 ↑k, undef, undef, undef, undef, .bool true, .bool false, .slice (some ⟨L, 0, none⟩) 8 8, .agg #[.int .u64 0, .int .u64 0, .int .u64 0, .int .u64 0], .int .i64 ↑k, .bool true, u20, u21, .int .i64 ↑k, .int .i64 ↑k, .int .i64 ↑m, .pointer (some ⟨L, m, none⟩), .int .u64 x, .int .i64 ↑k, .int .i64 ↑m, .int .i64 ↑q, .pointer (some ⟨L, q, none⟩), .int .u64 y, .int .u64 gk, .pointer (some ⟨G, k, none⟩), .slice (some ⟨L, 0, none⟩) 8 8, .int .i64 ↑k, u36, .int .i64 ↑k, u38, u39, u40, undef, undef, undef, undef, undef, undef, undef, undef, undef, undef, undef, undef, undef, undef, undef, undef, undef, undef, undef, undef, undef, undef, undef, undef, undef, undef, undef, undef, undef, undef, undef, undef, undef, undef, undef, undef, undef, undef, undef, undef, undef, undef, undef, undef, undef, undef, undef, undef, undef, undef, undef, undef, undef, undef, undef, undef, undef, undef, undef, undef, undef, undef, undef, undef], defers := [] }) rfl (by kernel_rfl) (by kernel_rfl) (by kernel_rfl) (fun _ _ _ h => h) (.inl ⟨rfl, fun _ _ => rfl⟩) hS rfl ?_
      refine takeA (i := 4) (v := .pointer (some ⟨G, k, none⟩)) ({ tmps := #[.agg #[.int .u64 x0, .int .u64 x1, .int .u64 x2, .int .u64 x3, .int .u64 x4, .int .u64 x5, .int .u64 x6, .int .u64 x7], .int .u8 ↑a, .int .u8 ↑b, .pointer (some ⟨L, 0, none⟩), undef, undef, u6, .slice (some ⟨L, 0, none⟩) 8 8, .pointer (some ⟨G, 0, none⟩), .int .i64 ↑k, undef, undef, undef, undef, .bool true, .bool false, .slice (some ⟨L, 0, none⟩) 8 8, .agg #[.int .u64 0, .int .u64 0, .int .u64 0, .int .u64 0], .int .i64 ↑k, .bool true, u20, u21, .int .i64 ↑k, .int .i64 ↑k, .int .i64 ↑m, .pointer (some ⟨L, m, none⟩), .int .u64 x, .int .i64 ↑k, .int .i64 ↑m, .int .i64 ↑q, .pointer (some ⟨L, q, none⟩), .int .u64 y, .int .u64 gk, .pointer (some ⟨G, k, none⟩), .slice (some ⟨L, 0, none⟩) 8 8, .int .i64 ↑k, u36, .int .i64 ↑k, .pointer (some ⟨G, k, none⟩), u39, u40, undef, undef, undef, undef, undef, undef, undef, undef, undef, undef, undef, undef, undef, undef, undef, undef, undef, undef, undef, undef, undef, undef, undef, undef, undef, undef, undef, undef, undef, undef, undef, undef, undef, undef, undef, undef, undef, undef, undef, undef, undef, undef, undef, undef, undef, undef, undef, undef, undef, undef, undef, undef, undef, undef, undef, undef, undef, undef, undef, undef, undef, undef, undef, undef], defers := [] }) rfl (by kernel_rfl) (by kernel_rfl) (by kernel_rfl) (fun _ _ _ h => h) (.inl ⟨rfl, fun _ _ => by go_simp⟩) hS rfl ?_
      refine takeA (i := 5) (v := .int .u64 gk) ({ tmps := #[.agg #[.int .u64 x0, .int .u64 x1, .int .u64 x2, .int .u64 x3, .int .u64 x4, .int .u64 x5, .int .u64 x6, .int .u64 x7], .int .u8 ↑a, .int .u8 ↑b, .pointer (some ⟨L, 0, none⟩), undef, undef, u6, .slice (some ⟨L, 0, none⟩) 8 8, .pointer (some ⟨G, 0, none⟩), .int .i64 ↑k, undef, undef, undef, undef, .bool true, .bool false, .slice (some ⟨L, 0, none⟩) 8 8, .agg #[.int .u64 0, .int .u64 0, .int .u64 0, .int .u64 0], .int .i64 ↑k, .bool true, u20, u21, .int .i64 ↑k, .int .i64 ↑k, .int .i64 ↑m, .pointer (some ⟨L, m, none⟩), .int .u64 x, .int .i64 ↑k, .int .i64 ↑m, .int .i64 ↑q, .pointer (some ⟨L, q, none⟩), .int .u64 y, .int .u64 gk, .pointer (some ⟨G, k, none⟩), .slice (some ⟨L, 0, none⟩) 8 8, .int .i64 ↑k, u36, .int .i64 ↑k, .pointer (some ⟨G, k, none⟩), .int .u64 gk, u40, undef, undef, undef, undef, undef, undef, undef, undef, undef, undef, undef, undef, undef, undef, undef, undef, undef, undef, undef, undef, undef, undef, undef, undef, undef, undef, undef, undef, undef, undef, undef, undef, undef, undef, undef, undef, undef, undef, undef, undef, undef, undef, undef, undef, undef, undef, undef, undef, undef, undef, undef, undef, undef, undef, undef, undef, undef, undef, undef, undef, undef, undef, undef, undef], defers := [] }) rfl (by kernel_rfl) (by kernel_rfl) (by kernel_rfl) (fun _ _ _ h => h) (yi_load 40 _ (.pointer (some ⟨G, k, none⟩)) rfl rfl rfl (fun w hw => by have q := c6 w hw; go_simp)) hS rfl ?_
      refine wpAnyH_ready (rs := [2]) (by kernel_rfl) (by simp) ?_
      refine AllReadyH.cons rfl (fun K hK => ?_) AllReadyH.nil
      rw [if_pos (by rfl)]
      go_simp
      refine Calls.mono (N6.out) ?_
      rintro e w7 ⟨rfl, b7⟩
      have h7 := h6.out.drew.below b7
      clear b7
      refine hK.out ({ tmps := #[.agg #[.int .u64 x0, .int .u64 x1, .int .u64 x2, .int .u64 x3, .int .u64 x4, .int .u64 x5, .int .u64 x6, .int .u64 x7], .int .u8 ↑a, .int .u8 ↑b, .pointer (some ⟨L, 0, none⟩), undef, undef, u6, .slice (some ⟨L, 0, none⟩) 8 8, .pointer (some ⟨G, 0, none⟩), .int .i64 ↑k, undef, undef, undef, undef, .bool true, .bool false, .slice (some ⟨L, 0, none⟩) 8 8, .agg #[.int .u64 0, .int .u64 0, .int .u64 0, .int .u64 0], .int .i64 ↑k, .bool true, u20, u21, .int .i64 ↑k, .int .i64 ↑k, .int .i64 ↑m, .pointer (some ⟨L, m, none⟩), .int .u64 x, .int .i64 ↑k, .int .i64 ↑m, .int .i64 ↑q, .pointer (some ⟨L, q, none⟩), .int .u64 y, .int .u64 gk, .pointer (some ⟨G, k, none⟩), .slice (some ⟨L, 0, none⟩) 8 8, .int .i64 ↑k, .int .u64 gk, .int .i64 ↑k, .pointer (some ⟨G, k, none⟩), .int .u64 gk, u40, undef, undef, undef, undef, undef, undef, undef, undef, undef, undef, undef, undef, undef, undef, undef, undef, undef, undef, undef, undef, undef, undef, undef, undef, undef, undef, undef, undef, undef, undef, undef, undef, undef, undef, undef, undef, undef, undef, undef, undef, undef, undef, undef, undef, undef, undef, undef, undef, undef, undef, undef, undef, undef, undef, undef, undef, undef, undef, undef, undef, undef, undef, undef, undef], defers := [] }) _ (h7) (fun hS => ?_)
      clear hK K
      refine takeA (i := 6) (v := .bool false) ({ tmps := #[.agg #[.int .u64 x0, .int .u64 x1, .int .u64 x2, .int .u64 x3, .int .u64 x4, .int .u64 x5, .int .u64 x6, .int .u64 x7], .int .u8 ↑a, .int .u8 ↑b, .pointer (some ⟨L, 0, none⟩), undef, undef, u6, .slice (some ⟨L, 0, none⟩) 8 8, .pointer (some ⟨G, 0, none⟩), .int .i64 ↑k, undef, undef, undef, undef, .bool true, .bool false, .slice (some ⟨L, 0, none⟩) 8 8, .agg #[.int .u64 0, .int .u64 0, .int .u64 0, .int .u64 0], .int .i64 ↑k, .bool true, u20, u21, .int .i64 ↑k, .int .i64 ↑k, .int .i64 ↑m, .pointer (some ⟨L, m, none⟩), .int .u64 x, .int .i64 ↑k, .int .i64 ↑m, .int .i64 ↑q, .pointer (some ⟨L, q, none⟩), .int .u64 y, .int .u64 gk, .pointer (some ⟨G, k, none⟩), .slice (some ⟨L, 0, none⟩) 8 8, .int .i64 ↑k, .int .u64 gk, .int .i64 ↑k, .pointer (some ⟨G, k, none⟩), .int .u64 gk, .bool false, undef, undef, undef, undef, undef, undef, undef, undef, undef, undef, undef, undef, undef, undef, undef, undef, undef, undef, undef, undef, undef, undef, undef, undef, undef, undef, undef, undef, undef, undef, undef, undef, undef, undef, undef, undef, undef, undef, undef, undef, undef, undef, undef, undef, undef, undef, undef, undef, undef, undef, undef, undef, undef, undef, undef, undef, undef, undef, undef, undef, undef, undef, undef, undef], defers := [] }) rfl (by kernel_rfl) (by kernel_rfl) (by kernel_rfl) (fun _ _ _ h => h) (.inl ⟨rfl, fun _ _ => by go_simp⟩) hS rfl ?_
      refine wpAnyH_done (by kernel_rfl) ?_ _
      have h8 := Lib.hid h7
      clear hS h7 c6 N6 h6
      go_wp2_with fail
      exact ⟨⟨k + 1, by go_num, by omega, h8⟩, by simp [intOf]; omega⟩
    · have e4 : k = 4 := by omega
      have hlt' : ¬ (k : Int) < 4 := by omega
      have I4 : Hid (TI w wr L G l 4) := by rw [← e4]; exact I
      have RA := root_any wr.drew (some ⟨L, 0, none⟩) 8 8 l (qs_block I4.out.drew.1) HL.out
      have er : mixI (mixI (groupI l 0) (groupI l 1)) (mixI (groupI l 2) (groupI l 3)) = rI l := (if_pos HL.out).symm
      have gc : ∀ i, i < 4 → ∀ w', TI w w' L G l 4 → w'.cell? ⟨G, i, none⟩ = some (.int .u64 (groupI l i)) := fun i hi w' h => by
        have := h.2.1.cell i hi
        rwa [if_pos (by omega)] at this
      have g0c := gc 0 (by omega)
      have g1c := gc 1 (by omega)
      have g2c := gc 2 (by omega)
      have g3c := gc 3 (by omega)
      have M3 := fun w => refMix_any (mixI (groupI l 0) (groupI l 1)) (mixI (groupI l 2) (groupI l 3)) w
      rw [er] at M3
      replace M3 := Lib.hid M3
      replace RA := Lib.hid RA
      clear gc I HT e4 er
      generalize groupI l 0 = g0 at *
      generalize groupI l 1 = g1 at *
      generalize groupI l 2 = g2 at *
      generalize groupI l 3 = g3 at *
      generalize rI l = r at *
      go_wp2_with fail
      refine wp_region_held_drew (S := fun w' => TI w w' L G l 4) (by kernel_rfl) (I4.out.drew) (fun hS => ?_)
      refine takeA (i := 0) (v := .slice (some ⟨L, 0, none⟩) 8 8) ({ tmps := #[.agg #[.int .u64 x0, .int .u64 x1, .int .u64 x2, .int .u64 x3, .int .u64 x4, .int .u64 x5, .int .u64 x6, .int .u64 x7], .int .u8 ↑a, .int .u8 ↑b, .pointer (some ⟨L, 0, none⟩), undef, undef, u6, .slice (some ⟨L, 0, none⟩) 8 8, .pointer (some ⟨G, 0, none⟩), .int .i64 ↑k, undef, undef, undef, undef, .bool true, .bool false, .slice (some ⟨L, 0, none⟩) 8 8, .agg #[.int .u64 0, .int .u64 0, .int .u64 0, .int .u64 0], .int .i64 ↑k, .bool false, u20, u21, u22, u23, u24, u25, u26, u27, u28, u29, u30, u31, u32, u33, u34, u35, u36, u37, u38, u39, u40, .slice (some ⟨L, 0, none⟩) 8 8, undef, undef, undef, undef, undef, undef, undef, undef, undef, undef, undef, undef, undef, undef, undef, undef, undef, undef, undef, undef, undef, undef, undef, undef, undef, undef, undef, undef, undef, undef, undef, undef, undef, undef, undef, undef, undef, undef, undef, undef, undef, undef, undef, undef, undef, undef, undef, undef, undef, undef, undef, undef, undef, undef, undef, undef, undef, undef, undef, undef, undef, undef, undef], defers := [] }) rfl (by kernel_rfl) (by kernel_rfl) (by kernel_rfl) (fun _ _ _ h => h) (.inl ⟨rfl, fun _ _ => rfl⟩) hS rfl ?_
      refine takeA (i := 2) (v := .pointer (some ⟨G, 0, none⟩)) ({ tmps := #[.agg #[.int .u64 x0, .int .u64 x1, .int .u64 x2, .int .u64 x3, .int .u64 x4, .int .u64 x5, .int .u64 x6, .int .u64 x7], .int .u8 ↑a, .int .u8 ↑b, .pointer (some ⟨L, 0, none⟩), undef, undef, u6, .slice (some ⟨L, 0, none⟩) 8 8, .pointer (some ⟨G, 0, none⟩), .int .i64 ↑k, undef, undef, undef, undef, .bool true, .bool false, .slice (some ⟨L, 0, none⟩) 8 8, .agg #[.int .u64 0, .int .u64 0, .int .u64 0, .int .u64 0], .int .i64 ↑k, .bool false, u20, u21, u22, u23, u24, u25, u26, u27, u28, u29, u30, u31, u32, u33, u34, u35, u36, u37, u38, u39, u40, .slice (some ⟨L, 0, none⟩) 8 8, undef, .pointer (some ⟨G, 0, none⟩), undef, undef, undef, undef, undef, undef, undef, undef, undef, undef, undef, undef, undef, undef, undef, undef, undef, undef, undef, undef, undef, undef, undef, undef, undef, undef, undef, undef, undef, undef, undef, undef, undef, undef, undef, undef, undef, undef, undef, undef, undef, undef, undef, undef, undef, undef, undef, undef, undef, undef, undef, undef, undef, undef, undef, undef, undef, undef, undef, undef, undef], defers := [] }) rfl (by kernel_rfl) (by kernel_rfl) (by kernel_rfl) (fun _ _ _ h => h) (.inl ⟨rfl, fun _ _ => by go_simp⟩) hS rfl ?_
      refine takeA (i := 3) (v := .int .u64 g0) ({ tmps := #[.agg #[.int .u64 x0, .int .u64 x1, .int .u64 x2, .int .u64 x3, .int .u64 x4, .int .u64 x5, .int .u64 x6, .int .u64 x7], .int .u8 ↑a, .int .u8 ↑b, .pointer (some ⟨L, 0, none⟩), undef, undef, u6, .slice (some ⟨L, 0, none⟩) 8 8, .pointer (some ⟨G, 0, none⟩), .int .i64 ↑k, undef, undef, undef, undef, .bool true, .bool false, .slice (some ⟨L, 0, none⟩) 8 8, .agg #[.int .u64 0, .int .u64 0, .int .u64 0, .int .u64 0], .int .i64 ↑k, .bool false, u20, u21, u22, u23, u24, u25, u26, u27, u28, u29, u30, u31, u32, u33, u34, u35, u36, u37, u38, u39, u40, .slice (some ⟨L, 0, none⟩) 8 8, undef, .pointer (some ⟨G, 0, none⟩), .int .u64 g0, undef, undef, undef, undef, undef, undef, undef, undef, undef, undef, undef, undef, undef, undef, undef, undef, undef, undef, undef, undef, undef, undef, undef, undef, undef, undef, undef, undef, undef, undef, undef, undef, undef, undef, undef, undef, undef, undef, undef, undef, undef, undef, undef, undef, undef, undef, undef, undef, undef, undef, undef, undef, undef, undef, undef, undef, undef, undef, undef, undef], defers := [] }) rfl (by kernel_rfl) (by kernel_rfl) (by kernel_rfl) (fun _ _ _ h => h) (yi_load 40 _ (.pointer (some ⟨G, 0, none⟩)) rfl rfl rfl (fun w hw => by have q := g0c w hw; go_simp)) hS rfl ?_
      refine takeA (i := 4) (v := .pointer (some ⟨G, 1, none⟩)) ({ tmps := #[.agg #[.int .u64 x0, .int .u64 x1, .int .u64 x2, .int .u64 x3, .int .u64 x4, .int .u64 x5, .int .u64 x6, .int .u64 x7], .int .u8 ↑a, .int .u8 ↑b, .pointer (some ⟨L, 0, none⟩), undef, undef, u6, .slice (some ⟨L, 0, none⟩) 8 8, .pointer (some ⟨G, 0, none⟩), .int .i64 ↑k, undef, undef, undef, undef, .bool true, .bool false, .slice (some ⟨L, 0, none⟩) 8 8, .agg #[.int .u64 0, .int .u64 0, .int .u64 0, .int .u64 0], .int .i64 ↑k, .bool false, u20, u21, u22, u23, u24, u25, u26, u27, u28, u29, u30, u31, u32, u33, u34, u35, u36, u37, u38, u39, u40, .slice (some ⟨L, 0, none⟩) 8 8, undef, .pointer (some ⟨G, 0, none⟩), .int .u64 g0, .pointer (some ⟨G, 1, none⟩), undef, undef, undef, undef, undef, undef, undef, undef, undef, undef, undef, undef, undef, undef, undef, undef, undef, undef, undef, undef, undef, undef, undef, undef, undef, undef, undef, undef, undef, undef, undef, undef, undef, undef, undef, undef, undef, undef, undef, undef, undef, undef, undef, undef, undef, undef, undef, undef, undef, undef, undef, undef, undef, undef, undef, undef, undef, undef, undef], defers := [] }) rfl (by kernel_rfl) (by kernel_rfl) (by kernel_rfl) (fun _ _ _ h => h) (.inl ⟨rfl, fun _ _ => by go_simp⟩) hS rfl ?_
      refine takeA (i := 5) (v := .int .u64 g1) ({ tmps := #[.agg #[.int .u64 x0, .int .u64 x1, .int .u64 x2, .int .u64 x3, .int .u64 x4, .int .u64 x5, .int .u64 x6, .int .u64 x7], .int .u8 ↑a, .int .u8 ↑b, .pointer (some ⟨L, 0, none⟩), undef, undef, u6, .slice (some ⟨L, 0, none⟩) 8 8, .pointer (some ⟨G, 0, none⟩), .int .i64 ↑k, undef, undef, undef, undef, .bool true, .bool false, .slice (some ⟨L, 0, none⟩) 8 8, .agg #[.int .u64 0, .int .u64 0, .int .u64 0, .int .u64 0], .int .i64 ↑k, .bool false, u20, u21, u22, u23, u24, u25, u26, u27, u28, u29, u30, u31, u32, u33, u34, u35, u36, u37, u38, u39, u40, .slice (some ⟨L, 0, none⟩) 8 8, undef, .pointer (some ⟨G, 0, none⟩), .int .u64 g0, .pointer (some ⟨G, 1, none⟩), .int .u64 g1, undef, undef, undef, undef, undef, undef, undef, undef, undef, undef, undef, undef, undef, undef, undef, undef, undef, undef, undef, undef, undef, undef, undef, undef, undef, undef, undef, undef, undef, undef, undef, undef, undef, undef, undef, undef, undef, undef, undef, undef, undef, undef, undef, undef, undef, undef, undef, undef, undef, undef, undef, undef, undef, undef, undef, undef, undef, undef], defers := [] }) rfl (by kernel_rfl) (by kernel_rfl) (by kernel_rfl) (fun _ _ _ h => h) (yi_load 40 _ (.pointer (some ⟨G, 1, none⟩)) rfl rfl rfl (fun w hw => by have q := g1c w hw; go_simp)) hS rfl ?_
      refine takeA (i := 7) (v := .pointer (some ⟨G, 2, none⟩)) ({ tmps := #[.agg #[.int .u64 x0, .int .u64 x1, .int .u64 x2, .int .u64 x3, .int .u64 x4, .int .u64 x5, .int .u64 x6, .int .u64 x7], .int .u8 ↑a, .int .u8 ↑b, .pointer (some ⟨L, 0, none⟩), undef, undef, u6, .slice (some ⟨L, 0, none⟩) 8 8, .pointer (some ⟨G, 0, none⟩), .int .i64 ↑k, undef, undef, undef, undef, .bool true, .bool false, .slice (some ⟨L, 0, none⟩) 8 8, .agg #[.int .u64 0, .int .u64 0, .int .u64 0, .int .u64 0], .int .i64 ↑k, .bool false, u20, u21, u22, u23, u24, u25, u26, u27, u28, u29, u30, u31, u32, u33, u34, u35, u36, u37, u38, u39, u40, .slice (some ⟨L, 0, none⟩) 8 8, undef, .pointer (some ⟨G, 0, none⟩), .int .u64 g0, .pointer (some ⟨G, 1, none⟩), .int .u64 g1, undef, .pointer (some ⟨G, 2, none⟩), undef, undef, undef, undef, undef, undef, undef, undef, undef, undef, undef, undef, undef, undef, undef, undef, undef, undef, undef, undef, undef, undef, undef, undef, undef, undef, undef, undef, undef, undef, undef, undef, undef, undef, undef, undef, undef, undef, undef, undef, undef, undef, undef, undef, undef, undef, undef, undef, undef, undef, undef, undef, undef, undef, undef, undef], defers := [] }) rfl (by kernel_rfl) (by kernel_rfl) (by kernel_rfl) (fun _ _ _ h => h) (.inl ⟨rfl, fun _ _ => by go_simp⟩) hS rfl ?_
      refine takeA (i := 8) (v := .int .u64 g2) ({ tmps := #[.agg #[.int .u64 x0, .int .u64 x1, .int .u64 x2, .int .u64 x3, .int .u64 x4, .int .u64 x5, .int .u64 x6, .int .u64 x7], .int .u8 ↑a, .int .u8 ↑b, .pointer (some ⟨L, 0, none⟩), undef, undef, u6, .slice (some ⟨L, 0, none⟩) 8 8, .pointer (some ⟨G, 0, none⟩), .int .i64 ↑k, undef, undef, undef, undef, .bool true, .bool false, .slice (some ⟨L, 0, none⟩) 8 8, .agg #[.int .u64 0, .int .u64 0, .int .u64 0, .int .u64 0], .int .i64 ↑k, .bool false, u20, u21, u22, u23, u24, u25, u26, u27, u28, u29, u30, u31, u32, u33, u34, u35, u36, u37, u38, u39, u40, .slice (some ⟨L, 0, none⟩) 8 8, undef, .pointer (some ⟨G, 0, none⟩), .int .u64 g0, .pointer (some ⟨G, 1, none⟩), .int .u64 g1, undef, .pointer (some ⟨G, 2, none⟩), .int .u64 g2, undef, undef, undef, undef, undef, undef, undef, undef, undef, undef, undef, undef, undef, undef, undef, undef, undef, undef, undef, undef, undef, undef, undef, undef, undef, undef, undef, undef, undef, undef, undef, undef, undef, undef, undef, undef, undef, undef, undef, undef, undef, undef, undef, undef, undef, undef, undef, undef, undef, undef, undef, undef, undef, undef, undef], defers := [] }) rfl (by kernel_rfl) (by kernel_rfl) (by kernel_rfl) (fun _ _ _ h => h) (yi_load 40 _ (.pointer (some ⟨G, 2, none⟩)) rfl rfl rfl (fun w hw => by have q := g2c w hw; go_simp)) hS rfl ?_
      refine takeA (i := 9) (v := .pointer (some ⟨G, 3, none⟩)) ({ tmps := #[.agg #[.int .u64 x0, .int .u64 x1, .int .u64 x2, .int .u64 x3, .int .u64 x4, .int .u64 x5, .int .u64 x6, .int .u64 x7], .int .u8 ↑a, .int .u8 ↑b, .pointer (some ⟨L, 0, none⟩), undef, undef, u6, .slice (some ⟨L, 0, none⟩) 8 8, .pointer (some ⟨G, 0, none⟩), .int .i64 ↑k, undef, undef, undef, undef, .bool true, .bool false, .slice (some ⟨L, 0, none⟩) 8 8, .agg #[.int .u64 0, .int .u64 0, .int .u64 0, .int .u64 0], .int .i64 ↑k, .bool false, u20, u21, u22, u23, u24, u25, u26, u27, u28, u29, u30, u31, u32, u33, u34, u35, u36, u37, u38, u39, u40, .slice (some ⟨L, 0, none⟩) 8 8, undef, .pointer (some ⟨G, 0, none⟩), .int .u64 g0, .pointer (some ⟨G, 1, none⟩), .int .u64 g1, undef, .pointer (some ⟨G, 2, none⟩), .int .u64 g2, .pointer (some ⟨G, 3, none⟩), undef, undef, undef, undef, undef, undef, undef, undef, undef, undef, undef, undef, undef, undef, undef, undef, undef, undef, undef, undef, undef, undef, undef, undef, undef, undef, undef, undef, undef, undef, undef, undef, undef, undef, undef, undef, undef, undef, undef, undef, undef, undef, undef, undef, undef, undef, undef, undef, undef, undef, undef, undef, undef, undef], defers := [] }) rfl (by kernel_rfl) (by kernel_rfl) (by kernel_rfl) (fun _ _ _ h => h) (.inl ⟨rfl, fun _ _ => by go_simp⟩) hS rfl ?_
      refine takeA (i := 10) (v := .int .u64 g3) ({ tmps := #[.agg #[.int .u64 x0, .int .u64 x1, .int .u64 x2, .int .u64 x3, .int .u64 x4, .int .u64 x5, .int .u64 x6, .int .u64 x7], .int .u8 ↑a, .int .u8 ↑b, .pointer (some ⟨L, 0, none⟩), undef, undef, u6, .slice (some ⟨L, 0, none⟩) 8 8, .pointer (some ⟨G, 0, none⟩), .int .i64 ↑k, undef, undef, undef, undef, .bool true, .bool false, .slice (some ⟨L, 0, none⟩) 8 8, .agg #[.int .u64 0, .int .u64 0, .int .u64 0, .int .u64 0], .int .i64 ↑k, .bool false, u20, u21, u22, u23, u24, u25, u26, u27, u28, u29, u30, u31, u32, u33, u34, u35, u36, u37, u38, u39, u40, .slice (some ⟨L, 0, none⟩) 8 8, undef, .pointer (some ⟨G, 0, none⟩), .int .u64 g0, .pointer (some ⟨G, 1, none⟩), .int .u64 g1, undef, .pointer (some ⟨G, 2, none⟩), .int .u64 g2, .pointer (some ⟨G, 3, none⟩), .int .u64 g3, undef, undef, undef, undef, undef, undef, undef, undef, undef, undef, undef, undef, undef, undef, undef, undef, undef, undef, undef, undef, undef, undef, undef, undef, undef, undef, undef, undef, undef, undef, undef, undef, undef, undef, undef, undef, undef, undef, undef, undef, undef, undef, undef, undef, undef, undef, undef, undef, undef, undef, undef, undef, undef], defers := [] }) rfl (by kernel_rfl) (by kernel_rfl) (by kernel_rfl) (fun _ _ _ h => h) (yi_load 40 _ (.pointer (some ⟨G, 3, none⟩)) rfl rfl rfl (fun w hw => by have q := g3c w hw; go_simp)) hS rfl ?_
      refine wpAnyH_ready (rs := [1]) (by kernel_rfl) (by simp) ?_
      refine AllReadyH.cons rfl (fun K hK => ?_) AllReadyH.nil
      rw [if_pos (by rfl)]
      go_simp
      refine Calls.mono (RA.out) ?_
      rintro e w4 ⟨rfl, b4⟩
      have h4 := hS.below b4
      clear b4
      refine hK.out ({ tmps := #[.agg #[.int .u64 x0, .int .u64 x1, .int .u64 x2, .int .u64 x3, .int .u64 x4, .int .u64 x5, .int .u64 x6, .int .u64 x7], .int .u8 ↑a, .int .u8 ↑b, .pointer (some ⟨L, 0, none⟩), undef, undef, u6, .slice (some ⟨L, 0, none⟩) 8 8, .pointer (some ⟨G, 0, none⟩), .int .i64 ↑k, undef, undef, undef, undef, .bool true, .bool false, .slice (some ⟨L, 0, none⟩) 8 8, .agg #[.int .u64 0, .int .u64 0, .int .u64 0, .int .u64 0], .int .i64 ↑k, .bool false, u20, u21, u22, u23, u24, u25, u26, u27, u28, u29, u30, u31, u32, u33, u34, u35, u36, u37, u38, u39, u40, .slice (some ⟨L, 0, none⟩) 8 8, .int .u64 r, .pointer (some ⟨G, 0, none⟩), .int .u64 g0, .pointer (some ⟨G, 1, none⟩), .int .u64 g1, undef, .pointer (some ⟨G, 2, none⟩), .int .u64 g2, .pointer (some ⟨G, 3, none⟩), .int .u64 g3, undef, undef, undef, undef, undef, undef, undef, undef, undef, undef, undef, undef, undef, undef, undef, undef, undef, undef, undef, undef, undef, undef, undef, undef, undef, undef, undef, undef, undef, undef, undef, undef, undef, undef, undef, undef, undef, undef, undef, undef, undef, undef, undef, undef, undef, undef, undef, undef, undef, undef, undef, undef, undef], defers := [] }) _ (h4) (fun hS => ?_)
      clear hK K
      refine wpAnyH_ready (rs := [6]) (by kernel_rfl) (by simp) ?_
      refine AllReadyH.cons rfl (fun K hK => ?_) AllReadyH.nil
      rw [if_pos (by rfl)]
      go_simp
      refine Calls.mono (refMix_any _ _ _) ?_
      rintro e w5 ⟨rfl, b5⟩
      have h5 := hS.below b5
      clear b5
      refine hK.out ({ tmps := #[.agg #[.int .u64 x0, .int .u64 x1, .int .u64 x2, .int .u64 x3, .int .u64 x4, .int .u64 x5, .int .u64 x6, .int .u64 x7], .int .u8 ↑a, .int .u8 ↑b, .pointer (some ⟨L, 0, none⟩), undef, undef, u6, .slice (some ⟨L, 0, none⟩) 8 8, .pointer (some ⟨G, 0, none⟩), .int .i64 ↑k, undef, undef, undef, undef, .bool true, .bool false, .slice (some ⟨L, 0, none⟩) 8 8, .agg #[.int .u64 0, .int .u64 0, .int .u64 0, .int .u64 0], .int .i64 ↑k, .bool false, u20, u21, u22, u23, u24, u25, u26, u27, u28, u29, u30, u31, u32, u33, u34, u35, u36, u37, u38, u39, u40, .slice (some ⟨L, 0, none⟩) 8 8, .int .u64 r, .pointer (some ⟨G, 0, none⟩), .int .u64 g0, .pointer (some ⟨G, 1, none⟩), .int .u64 g1, .int .u64 (mixI g0 g1), .pointer (some ⟨G, 2, none⟩), .int .u64 g2, .pointer (some ⟨G, 3, none⟩), .int .u64 g3, undef, undef, undef, undef, undef, undef, undef, undef, undef, undef, undef, undef, undef, undef, undef, undef, undef, undef, undef, undef, undef, undef, undef, undef, undef, undef, undef, undef, undef, undef, undef, undef, undef, undef, undef, undef, undef, undef, undef, undef, undef, undef, undef, undef, undef, undef, undef, undef, undef, undef, undef, undef, undef], defers := [] }) _ (h5) (fun hS => ?_)
      clear hK K
      refine wpAnyH_ready (rs := [11]) (by kernel_rfl) (by simp) ?_
      refine AllReadyH.cons rfl (fun K hK => ?_) AllReadyH.nil
      rw [if_pos (by rfl)]
      go_simp
      refine Calls.mono (refMix_any _ _ _) ?_
      rintro e w6 ⟨rfl, b6⟩
      have h6 := hS.below b6
      clear b6
      refine hK.out ({ tmps := #[.agg #[.int .u64 x0, .int .u64 x1, .int .u64 x2, .int .u64 x3, .int .u64 x4, .int .u64 x5, .int .u64 x6, .int .u64 x7], .int .u8 ↑a, .int .u8 ↑b, .pointer (some ⟨L, 0, none⟩), undef, undef, u6, .slice (some ⟨L, 0, none⟩) 8 8, .pointer (some ⟨G, 0, none⟩), .int .i64 ↑k, undef, undef, undef, undef, .bool true, .bool false, .slice (some ⟨L, 0, none⟩) 8 8, .agg #[.int .u64 0, .int .u64 0, .int .u64 0, .int .u64 0], .int .i64 ↑k, .bool false, u20, u21, u22, u23, u24, u25, u26, u27, u28, u29, u30, u31, u32, u33, u34, u35, u36, u37, u38, u39, u40, .slice (some ⟨L, 0, none⟩) 8 8, .int .u64 r, .pointer (some ⟨G, 0, none⟩), .int .u64 g0, .pointer (some ⟨G, 1, none⟩), .int .u64 g1, .int .u64 (mixI g0 g1), .pointer (some ⟨G, 2, none⟩), .int .u64 g2, .pointer (some ⟨G, 3, none⟩), .int .u64 g3, .int .u64 (mixI g2 g3), undef, undef, undef, undef, undef, undef, undef, undef, undef, undef, undef, undef, undef, undef, undef, undef, undef, undef, undef, undef, undef, undef, undef, undef, undef, undef, undef, undef, undef, undef, undef, undef, undef, undef, undef, undef, undef, undef, undef, undef, undef, undef, undef, undef, undef, undef, undef, undef, undef, undef, undef, undef], defers := [] }) _ (h6) (fun hS => ?_)
      clear hK K
      refine wpAnyH_ready (rs := [12]) (by kernel_rfl) (by simp) ?_
      refine AllReadyH.cons rfl (fun K hK => ?_) AllReadyH.nil
      rw [if_pos (by rfl)]
      go_simp
      refine Calls.mono (M3.out _) ?_
      rintro e w7 ⟨rfl, b7⟩
      have h7 := hS.below b7
      clear b7
      refine hK.out ({ tmps := #[.agg #[.int .u64 x0, .int .u64 x1, .int .u64 x2, .int .u64 x3, .int .u64 x4, .int .u64 x5, .int .u64 x6, .int .u64 x7], .int .u8 ↑a, .int .u8 ↑b, .pointer (some ⟨L, 0, none⟩), undef, undef, u6, .slice (some ⟨L, 0, none⟩) 8 8, .pointer (some ⟨G, 0, none⟩), .int .i64 ↑k, undef, undef, undef, undef, .bool true, .bool false, .slice (some ⟨L, 0, none⟩) 8 8, .agg #[.int .u64 0, .int .u64 0, .int .u64 0, .int .u64 0], .int .i64 ↑k, .bool false, u20, u21, u22, u23, u24, u25, u26, u27, u28, u29, u30, u31, u32, u33, u34, u35, u36, u37, u38, u39, u40, .slice (some ⟨L, 0, none⟩) 8 8, .int .u64 r, .pointer (some ⟨G, 0, none⟩), .int .u64 g0, .pointer (some ⟨G, 1, none⟩), .int .u64 g1, .int .u64 (mixI g0 g1), .pointer (some ⟨G, 2, none⟩), .int .u64 g2, .pointer (some ⟨G, 3, none⟩), .int .u64 g3, .int .u64 (mixI g2 g3), .int .u64 r, undef, undef, undef, undef, undef, undef, undef, undef, undef, undef, undef, undef, undef, undef, undef, undef, undef, undef, undef, undef, undef, undef, undef, undef, undef, undef, undef, undef, undef, undef, undef, undef, undef, undef, undef, undef, undef, undef, undef, undef, undef, undef, undef, undef, undef, undef, undef, undef, undef, undef, undef], defers := [] }) _ (h7) (fun hS => ?_)
      clear hK K
      refine takeA (i := 13) (v := .bool false) ({ tmps := #[.agg #[.int .u64 x0, .int .u64 x1, .int .u64 x2, .int .u64 x3, .int .u64 x4, .int .u64 x5, .int .u64 x6, .int .u64 x7], .int .u8 ↑a, .int .u8 ↑b, .pointer (some ⟨L, 0, none⟩), undef, undef, u6, .slice (some ⟨L, 0, none⟩) 8 8, .pointer (some ⟨G, 0, none⟩), .int .i64 ↑k, undef, undef, undef, undef, .bool true, .bool false, .slice (some ⟨L, 0, none⟩) 8 8, .agg #[.int .u64 0, .int .u64 0, .int .u64 0, .int .u64 0], .int .i64 ↑k, .bool false, u20, u21, u22, u23, u24, u25, u26, u27, u28, u29, u30, u31, u32, u33, u34, u35, u36, u37, u38, u39, u40, .slice (some ⟨L, 0, none⟩) 8 8, .int .u64 r, .pointer (some ⟨G, 0, none⟩), .int .u64 g0, .pointer (some ⟨G, 1, none⟩), .int .u64 g1, .int .u64 (mixI g0 g1), .pointer (some ⟨G, 2, none⟩), .int .u64 g2, .pointer (some ⟨G, 3, none⟩), .int .u64 g3, .int .u64 (mixI g2 g3), .int .u64 r, .bool false, undef, undef, undef, undef, undef, undef, undef, undef, undef, undef, undef, undef, undef, undef, undef, undef, undef, undef, undef, undef, undef, undef, undef, undef, undef, undef, undef, undef, undef, undef, undef, undef, undef, undef, undef, undef, undef, undef, undef, undef, undef, undef, undef, undef, undef, undef, undef, undef, undef, undef], defers := [] }) rfl (by kernel_rfl) (by kernel_rfl) (by kernel_rfl) (fun _ _ _ h => h) (.inl ⟨rfl, fun _ _ => by go_simp⟩) hS rfl ?_
      refine wpAnyH_done (by kernel_rfl) ?_ _
      have J := Lib.hid hS
      have NO := Lib.hid (rowK_nil w7 40 .u64)
      have HQ : Hid (Ns .u64 w7 (some ⟨L, 0, none⟩) l) := Lib.hid (qs_block J.out.1)
      clear hS RA M3 g0c g1c g2c g3c I4
      generalize hx : a % 8 = xa at *
      generalize hy : b % 8 = yb at *
      have ea : ((a : Int) % 8) = (xa : Int) := by omega
      have eb : ((b : Int) % 8) = (yb : Int) := by omega
      have hx8 : xa < 8 := by omega
      have hy8 : yb < 8 := by omega
      have hx8' : (xa : Int) < 8 := by omega
      have hy8' : (yb : Int) < 8 := by omega
      clear hx hy
      go_wp2_with (at_builtin
                   refine wpList_appK .u64 24 40 _ Try.underlying24 info40 rfl (.const (.slice none 0 0)) (.tmp 55) rfl (.slice none 0 0) 0 [] rfl NO.out (some ⟨L, 0, none⟩) 8 8 l rfl HL.out HQ.out (by intro h; cases h) (by omega) ?_
                   intro ao' cap' w8 ho' hk' hg'
                   rw [Nat.zero_add] at ho' hg'
                   obtain ⟨T, rfl, hT⟩ := rowK_open ho' (by omega) hg'
                   have hk8 := hk'.below (B := w7.heap.size) (Nat.le_refl _) (fun k e => by simp [Value.ownBlock] at e)
                   have J8 := Lib.hid (J.out.below hk8)
                   have O8 := Lib.hid ho'
                   have HT8 := Lib.hid (And.intro hT (And.intro (lt_of_block J.out.1) J.out.2.2.1.size))
                   have cx : w8.cell? ⟨T, xa, none⟩ = some (.int .u64 (l.getD xa 0)) := rowK_cell ho' HL.out hx8
                   have cy : w8.cell? ⟨T, yb, none⟩ = some (.int .u64 (l.getD yb 0)) := rowK_cell ho' HL.out hy8
                   have fx := ho'.frozenAt xa
                   have fy := ho'.frozenAt yb
                   clear ho' hk' hg' hT hk8)
      generalize hlx : l.getD xa 0 = lx at *
      generalize hly : l.getD yb 0 = ly at *
      replace hlx := Lib.hid hlx
      replace hly := Lib.hid hly
      by_cases hxy : xa = yb
      · subst hxy
        obtain rfl : lx = ly := hlx.out.symm.trans hly.out
        go_region
        have hSW : swap l xa xa = (l.set xa lx).set xa lx := by unfold swap; rw [hlx.out]
        have o9 := rowK_set (i := xa) (rowK_set (i := xa) (l := l) O8.out lx) lx
        have k9 : Kept (fun i => i = T) w8 ((w8.setCell ⟨T, xa, none⟩ (.int .u64 lx)).setCell ⟨T, xa, none⟩ (.int .u64 lx)).drew := (((Kept.refl (fun i => i = T) w8).setCell ⟨T, xa, none⟩ _ (fun _ => rfl)).setCell ⟨T, xa, none⟩ _ (fun _ => rfl)).drew
        have o9' := rowK_kept o9 ((Kept.refl (fun _ => False) _).drew) (fun _ _ h => h)
        rw [← hSW] at o9'
        have q9 : Qs _ (some ⟨T, 0, none⟩) (swap l xa xa) := rowK_ns o9'
        have hLT : L ≠ T := by have := HT8.out; omega
        have ql : Qs ((w8.setCell ⟨T, xa, none⟩ (.int .u64 lx)).setCell ⟨T, xa, none⟩ (.int .u64 lx)).drew (some ⟨L, 0, none⟩) l := qs_kept (qs_block J8.out.1) k9 (fun ad e _ => by injection e with e; subst e; exact hLT)
        have b9 := J8.out.2.2.1.trans (k9.below J8.out.2.2.1.size (fun k e => by have := HT8.out; omega))
        generalize ((w8.setCell ⟨T, xa, none⟩ (.int .u64 lx)).setCell ⟨T, xa, none⟩ (.int .u64 lx)).drew = w9 at *
        have U := unlike_any w9 (some ⟨L, 0, none⟩) (some ⟨T, 0, none⟩) 8 8 8 cap' l (swap l xa xa) ql q9 HL.out (by unfold swap; simp [HL.out])
        have hn := unl_swap l xa xa HL.out hx8 hy8
        rw [hlx.out, if_pos rfl] at hn
        replace U := Lib.hid U
        have H9 := Lib.hid (And.intro ql b9)
        have HNN := Lib.hid hn
        clear hSW o9 o9' k9 q9 ql b9 hn hLT O8 J8 fx fy cx cy hS h4 h5 h6 h7 NO HQ J
        go_wp2_with fail
        refine U.out.mono ?_
        rintro e w10 ⟨ao, c, rfl, -, -, b10⟩
        rw [HNN.out]
        have l1 := qs_cell (qs_below H9.out.1 b10) xa (by have := HL.out; omega)
        have l2 := qs_cell (qs_below H9.out.1 b10) xa (by have := HL.out; omega)
        rw [hlx.out] at l1
        rw [hly.out] at l2
        have B10 := Lib.hid (H9.out.2.trans (b10.mono H9.out.2.size))
        skip
        clear U b10
        go_wp2_with fail
        go_quiet (fail)
        have B11 := Lib.hid (B10.out.trans (((Kept.refl (fun _ => False) w10).drewN nq).below B10.out.size (fun _ h => h.elim)))
        go_wp2_with fail
        go_ret
        exact ⟨rfl, B11.out⟩
      · go_region
        by_cases hll : lx = ly
        · subst hll
          have hSW : swap l xa yb = (l.set xa lx).set yb lx := by unfold swap; rw [hlx.out, hly.out]
          have o9 := rowK_set (i := yb) (rowK_set (i := xa) (l := l) O8.out lx) lx
          have k9 : Kept (fun i => i = T) w8 ((w8.setCell ⟨T, xa, none⟩ (.int .u64 lx)).setCell ⟨T, yb, none⟩ (.int .u64 lx)).drew := (((Kept.refl (fun i => i = T) w8).setCell ⟨T, xa, none⟩ _ (fun _ => rfl)).setCell ⟨T, yb, none⟩ _ (fun _ => rfl)).drew
          have o9' := rowK_kept o9 ((Kept.refl (fun _ => False) _).drew) (fun _ _ h => h)
          rw [← hSW] at o9'
          have q9 : Qs _ (some ⟨T, 0, none⟩) (swap l xa yb) := rowK_ns o9'
          have hLT : L ≠ T := by have := HT8.out; omega
          have ql : Qs ((w8.setCell ⟨T, xa, none⟩ (.int .u64 lx)).setCell ⟨T, yb, none⟩ (.int .u64 lx)).drew (some ⟨L, 0, none⟩) l := qs_kept (qs_block J8.out.1) k9 (fun ad e _ => by injection e with e; subst e; exact hLT)
          have b9 := J8.out.2.2.1.trans (k9.below J8.out.2.2.1.size (fun k e => by have := HT8.out; omega))
          generalize ((w8.setCell ⟨T, xa, none⟩ (.int .u64 lx)).setCell ⟨T, yb, none⟩ (.int .u64 lx)).drew = w9 at *
          have U := unlike_any w9 (some ⟨L, 0, none⟩) (some ⟨T, 0, none⟩) 8 8 8 cap' l (swap l xa yb) ql q9 HL.out (by unfold swap; simp [HL.out])
          have hn := unl_swap l xa yb HL.out hx8 hy8
          rw [hlx.out, hly.out, if_pos rfl] at hn
          replace U := Lib.hid U
          have H9 := Lib.hid (And.intro ql b9)
          have HNN := Lib.hid hn
          clear hSW o9 o9' k9 q9 ql b9 hn hLT O8 J8 fx fy cx cy hS h4 h5 h6 h7 NO HQ J
          go_wp2_with fail
          refine U.out.mono ?_
          rintro e w10 ⟨ao, c, rfl, -, -, b10⟩
          rw [HNN.out]
          have l1 := qs_cell (qs_below H9.out.1 b10) xa (by have := HL.out; omega)
          have l2 := qs_cell (qs_below H9.out.1 b10) yb (by have := HL.out; omega)
          rw [hlx.out] at l1
          rw [hly.out] at l2
          have B10 := Lib.hid (H9.out.2.trans (b10.mono H9.out.2.size))
          skip
          clear U b10
          go_wp2_with fail
          go_quiet (fail)
          have B11 := Lib.hid (B10.out.trans (((Kept.refl (fun _ => False) w10).drewN nq).below B10.out.size (fun _ h => h.elim)))
          go_wp2_with fail
          go_ret
          exact ⟨rfl, B11.out⟩
        ·
          have hSW : swap l xa yb = (l.set xa ly).set yb lx := by unfold swap; rw [hlx.out, hly.out]
          have o9 := rowK_set (i := yb) (rowK_set (i := xa) (l := l) O8.out ly) lx
          have k9 : Kept (fun i => i = T) w8 ((w8.setCell ⟨T, xa, none⟩ (.int .u64 ly)).setCell ⟨T, yb, none⟩ (.int .u64 lx)).drew := (((Kept.refl (fun i => i = T) w8).setCell ⟨T, xa, none⟩ _ (fun _ => rfl)).setCell ⟨T, yb, none⟩ _ (fun _ => rfl)).drew
          have o9' := rowK_kept o9 ((Kept.refl (fun _ => False) _).drew) (fun _ _ h => h)
          rw [← hSW] at o9'
          have q9 : Qs _ (some ⟨T, 0, none⟩) (swap l xa yb) := rowK_ns o9'
          have hLT : L ≠ T := by have := HT8.out; omega
          have ql : Qs ((w8.setCell ⟨T, xa, none⟩ (.int .u64 ly)).setCell ⟨T, yb, none⟩ (.int .u64 lx)).drew (some ⟨L, 0, none⟩) l := qs_kept (qs_block J8.out.1) k9 (fun ad e _ => by injection e with e; subst e; exact hLT)
          have b9 := J8.out.2.2.1.trans (k9.below J8.out.2.2.1.size (fun k e => by have := HT8.out; omega))
          generalize ((w8.setCell ⟨T, xa, none⟩ (.int .u64 ly)).setCell ⟨T, yb, none⟩ (.int .u64 lx)).drew = w9 at *
          have U := unlike_any w9 (some ⟨L, 0, none⟩) (some ⟨T, 0, none⟩) 8 8 8 cap' l (swap l xa yb) ql q9 HL.out (by unfold swap; simp [HL.out])
          have hn := unl_swap l xa yb HL.out hx8 hy8
          rw [hlx.out, hly.out, if_neg hll] at hn
          replace U := Lib.hid U
          have H9 := Lib.hid (And.intro ql b9)
          have HNN := Lib.hid hn
          clear hSW o9 o9' k9 q9 ql b9 hn hLT O8 J8 fx fy cx cy hS h4 h5 h6 h7 NO HQ J
          go_wp2_with fail
          refine U.out.mono ?_
          rintro e w10 ⟨ao, c, rfl, -, -, b10⟩
          rw [HNN.out]
          have l1 := qs_cell (qs_below H9.out.1 b10) xa (by have := HL.out; omega)
          have l2 := qs_cell (qs_below H9.out.1 b10) yb (by have := HL.out; omega)
          rw [hlx.out] at l1
          rw [hly.out] at l2
          have B10 := Lib.hid (H9.out.2.trans (b10.mono H9.out.2.size))
          have hne : (lx != ly) = true := by simpa using hll
          clear U b10
          go_wp2_with fail
          go_quiet (fail)
          have B11 := Lib.hid (B10.out.trans (((Kept.refl (fun _ => False) w10).drewN nq).below B10.out.size (fun _ h => h.elim)))
          go_wp2_with fail
          go_ret
          exact ⟨rfl, B11.out⟩

theorem walk (a0 : List Int) (a1 a2 : Int) (w : World) (h8 : a0.length = 8) (h1 : 0 ≤ a1 ∧ a1 ≤ 255) (h2 : 0 ≤ a2 ∧ a2 ≤ 255) :
    Calls Try.prog 6 #[.agg (qv a0).toArray, .int .u8 a1, .int .u8 a2] w fun e w' => e = .returned (.bool true) ∧ Below w.heap.size w w' := by
  obtain ⟨a, rfl⟩ := Int.eq_ofNat_of_zero_le h1.1
  obtain ⟨b, rfl⟩ := Int.eq_ofNat_of_zero_le h2.1
  exact core a0 a b w h8 (by omega) (by omega)


theorem lifted (os : Os) (started : os.Started) (H : Type) (enc : TypeId × Value → H) :
    ReturnsInHanded {} Try.checked os 6 .any (Rows.merkleTreeSpec.pre6 enc Try.prog Try.f6 Rows.merkleTreeRow.domain false) (Rows.merkleTreeSpec.post enc Try.prog Try.f6 false true false false) := by
  refine returnsInHanded_of_change (C := Try.checked) own started (by kernel_rfl) Try.func6
    (ChangeSpec.witness6 (enc := enc) (C := Try.checked) false ⟨#[], #[.agg #[.int .u64 0, .int .u64 0, .int .u64 0, .int .u64 0, .int .u64 0, .int .u64 0, .int .u64 0, .int .u64 0], .int .u8 0, .int .u8 0], []⟩ 8 (by kernel_rfl) (by kernel_rfl) (by kernel_rfl) (by kernel_rfl)) ?_
  intro W base args ds gs before hval0 hW hcnd _
  have hval : ∀ (j : Nat) t v, Try.f6.params[j]? = some t → args[j]? = some v → Value.okWide Try.prog W .any base t v := hval0
  have hW' := hW
  obtain ⟨p, q, hA0, hV, rfl, hfz, hnd⟩ := hW
  have hA : DataW.TrodAll enc Try.prog W 0 (fun _ => true) true Try.f6.params.toList args.toList ds p := hA0
  rw [Try.params6] at hA hval
  obtain ⟨v0, vs0, d0, ds0, p0, q0, hargs, rfl, rfl, h0, r0⟩ := trodAll_cons hA
  obtain ⟨v1, vs1, d1, ds1, p1, q1, rfl, rfl, rfl, h1, r1⟩ := trodAll_cons r0
  obtain ⟨v2, vs2, d2, ds2, p2, q2, rfl, rfl, rfl, h2, r2⟩ := trodAll_cons r1
  obtain ⟨rfl, rfl, rfl⟩ := trodAll_nil r2
  obtain rfl : args = #[v0, v1, v2] := by cases args; simp_all
  obtain ⟨rfl, rfl⟩ := trodVars_none hV
  have k0 := h0
  have lt0 : ∀ x ∈ p0, x.block < W.heap.size := by obtain ⟨m, hm⟩ := k0; exact DataW.trod_lt m _ _ _ hm
  obtain ⟨T0, rfl, hT0⟩ := open_arr8 (hval 0 56 v0 rfl rfl) h0
  obtain ⟨a1, rfl, rfl, rfl, w1⟩ := open_int Try.underlying5 (hval 1 5 v1 rfl rfl) h1
  have b1 : 0 ≤ a1 ∧ a1 ≤ 255 := by simpa [Lit.wf, IntKind.min, IntKind.max, IntKind.signed, IntKind.bits] using w1
  obtain ⟨a2, rfl, rfl, rfl, w2⟩ := open_int Try.underlying5 (hval 2 5 v2 rfl rfl) h2
  have b2 : 0 ≤ a2 ∧ a2 ≤ 255 := by simpa [Lit.wf, IntKind.min, IntKind.max, IntKind.signed, IntKind.bits] using w2
  clear hA0 hval0
  refine (walk T0 a1 a2 W hT0 b1 b2).mono fun e W' ⟨he, bel⟩ => ?_
  subst he
  exact ⟨_, rfl, _, _, _, [], _, [], hW', trodAll_mk1 (shut_bool Try.underlying4 _), (trodAll_cons_mk (Below.trod laidOut (by kernel_rfl) (of_decide_eq_true (by kernel_rfl)) k0 bel lt0) (trodAll_cons_mk (shut_int Try.underlying5 w1) (trodAll_cons_mk (shut_int Try.underlying5 w2) trodAll_mk0))), rfl, bel.frame _, fun h => by cases h⟩

theorem over : Rows.merkleTreeRow.holds Try.pinned (OpenSpec.ofChange Rows.merkleTreeSpec) :=
  OpenClaim.holds_of_wide 6 Try.f6 rfl rfl rfl rfl rfl rfl rfl ⟨rfl, rfl, rfl, rfl, rfl⟩ rfl rfl rfl rfl rfl (by kernel_rfl) Try.func6 (by kernel_rfl)
    (of_decide_eq_true (by kernel_rfl)) (by unfold Func.isWrapper; first | (rw [if_pos (by decide +kernel)]; kernel_rfl) | (rw [if_neg (by decide +kernel)]; exact ⟨rfl, rfl⟩))
    (fun os started H enc _ => lifted os started H enc)

theorem proved : Rows.MerkleTreeSaid := over
#print axioms proved
end Go.Proofs.Ytfbcjigekmgbnaa.merkleTree
