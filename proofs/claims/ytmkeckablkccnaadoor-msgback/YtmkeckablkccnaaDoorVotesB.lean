/- Votes of marks or entries at given places: whether they are votes. -/
import Derived.Test.YtmkeckablkccnaaDoorKindsB
namespace Go.Proofs.YtmkeckablkccnaaDoor
open Go.RowKit
set_option maxRecDepth 100000

def vr : Rq := ⟨1, 1, 1, 2, 3⟩
def vMk (s : Int) : Mk := ⟨s, 0⟩
def vEn (s : Int) : En := ⟨s, 0, vr⟩
/-- the i-th stands above the one ahead, and is a place -/
def upS (l : List Int) (z : Bool) (i : Nat) : Bool := (decide (i = 0) || decide (l.getD (i - 1) 0 < l.getD i 0)) && (decide (0 < l.getD i 0) || z)
def okTo (l : List Int) (z : Bool) : Nat → Bool
  | 0 => decide (l.length ≤ 40)
  | j + 1 => okTo l z j && upS l z j

theorem okTo_all (l : List Int) (z : Bool) (j : Nat) : okTo l z j = (decide (l.length ≤ 40) && (List.range j).all (upS l z)) := by
  induction j with
  | zero => simp [okTo]
  | succ j ih => rw [okTo, ih, List.range_succ, List.all_append]; simp [Bool.and_assoc]

theorem getD_at {l : List Int} {i : Nat} {x : Int} (h : l[i]? = some x) : l.getD i 0 = x := by simp [List.getD_eq_getElem?_getD, h]

theorem all_congr {n : Nat} {f g : Nat → Bool} (h : ∀ i, i < n → f i = g i) : (List.range n).all f = (List.range n).all g := by
  have : ∀ l : List Nat, (∀ i ∈ l, f i = g i) → l.all f = l.all g := by
    intro l
    induction l with
    | nil => intro _; rfl
    | cons a r ih => intro h; rw [List.all_cons, List.all_cons, h a (by simp), ih (fun i hi => h i (by simp [hi]))]
  exact this _ (fun i hi => h i (List.mem_range.1 hi))

theorem up_of {α : Type} {ok : α → Bool} {ab : α → α → Bool} {f : Int → α} {l : List Int} {z : Bool} (hok : ∀ x ∈ l, ok (f x) = (decide (0 < x) || z)) (hab : ∀ x y, ab (f x) (f y) = decide (y < x)) : upB ok ab (l.map f) = okTo l z l.length := by
  rw [okTo_all]
  unfold upB
  rw [List.length_map]
  congr 1
  apply all_congr
  intro i hi
  obtain ⟨x, hx⟩ : ∃ x, l[i]? = some x := ⟨_, List.getElem?_eq_getElem hi⟩
  have hm : (l.map f)[i]? = some (f x) := by simp [hx]
  cases i with
  | zero =>
    rw [stepB_zero hm, hok x (List.mem_of_getElem? hx)]
    simp only [upS, getD_at hx]
    simp
  | succ j =>
    obtain ⟨y, hy⟩ : ∃ y, l[j]? = some y := ⟨_, List.getElem?_eq_getElem (by omega)⟩
    have hm2 : (l.map f)[j]? = some (f y) := by simp [hy]
    rw [stepB_succ hm hm2, hok x (List.mem_of_getElem? hx), hab]
    have e : j + 1 - 1 = j := by omega
    simp only [upS, e, getD_at hx, getD_at hy]
    simp [Bool.and_comm]

theorem up_marks (l : List Int) (h : ∀ x ∈ l, isByte x) : upB mkOk mkAb (l.map vMk) = okTo l true l.length :=
  up_of (fun x hx => by
    have := h x hx; unfold isByte at this
    show decide (x ≤ 1073741824) = _
    rw [decide_eq_true (by omega)]; simp) (fun x y => rfl)
theorem vr_is : vr.is = true := by decide
theorem up_p (l : List Int) (h : ∀ x ∈ l, isByte x) : upB enOk enAb (l.map vEn) = okTo l false l.length :=
  up_of (fun x hx => by
    have := h x hx; unfold isByte at this
    show ((decide (1 ≤ x) && decide (x ≤ 1073741824)) && (decide ((0 : Int) ≤ 1048576) && vr.is)) = _
    rw [decide_eq_true (show x ≤ 1073741824 by omega), vr_is]
    by_cases hx0 : 0 < x
    · rw [decide_eq_true hx0, decide_eq_true (show 1 ≤ x by omega)]; rfl
    · rw [decide_eq_false hx0, decide_eq_false (show ¬ 1 ≤ x by omega)]; rfl) (fun x y => rfl)
theorem textGt_self (r : Rq) : textGt r r = false := by simp [textGt]
theorem up_q (l : List Int) (h : ∀ x ∈ l, isByte x) : upB enOk enAt (l.map vEn) = okTo l false l.length :=
  up_of (fun x hx => by
    have := h x hx; unfold isByte at this
    show ((decide (1 ≤ x) && decide (x ≤ 1073741824)) && (decide ((0 : Int) ≤ 1048576) && vr.is)) = _
    rw [decide_eq_true (show x ≤ 1073741824 by omega), vr_is]
    by_cases hx0 : 0 < x
    · rw [decide_eq_true hx0, decide_eq_true (show 1 ≤ x by omega)]; rfl
    · rw [decide_eq_false hx0, decide_eq_false (show ¬ 1 ≤ x by omega)]; rfl) (fun x y => by
    show (if x = y then textGt vr vr else decide (y < x)) = decide (y < x)
    by_cases hxy : x = y
    · subst hxy; rw [if_pos rfl, textGt_self, decide_eq_false (by omega)]
    · rw [if_neg hxy])

/-- the vote, its lists where they lie -/
def vv (a b c : Sl) : Vt := ⟨1, 1, 1, 0, a, b, c⟩
def vcT (t : Nat) (l : List Int) : Vc := if t = 0 then ⟨l.map vMk, [], []⟩ else if t = 1 then ⟨[], l.map vEn, []⟩ else ⟨[], [], l.map vEn⟩
theorem up_nil {α : Type} (ok : α → Bool) (ab : α → α → Bool) : upB ok ab [] = true := rfl
theorem vv_vote (t : Nat) (l : List Int) (h : ∀ x ∈ l, isByte x) (a b c : Sl) : voteB (vv a b c) (vcT t l) = okTo l (decide (t = 0)) l.length := by
  unfold voteB vcT
  have e1 : isRp 1 = true := rfl
  have e2 : isEp 1 = true := rfl
  have e3 : isNv 1 = true := rfl
  have e4 : isSq 0 = true := rfl
  by_cases h0 : t = 0
  · subst h0
    simp only [vv, e1, e2, e3, e4, if_true, up_marks l h, up_nil]; simp
  · by_cases h1 : t = 1
    · subst h1
      simp only [vv, e1, e2, e3, e4, if_neg h0, if_true, up_p l h, up_nil]; simp
    · simp only [vv, e1, e2, e3, e4, if_neg h0, if_neg h1, up_q l h, up_nil]; simp [h0]
def vm (v : Vt) : Mg := { hm 6 1 2 1 with vt := v }
theorem vm_is (a b c : Sl) (vc : Vc) : isM (vm (vv a b c)) { Mc.nil with vt := vc } = voteB (vv a b c) vc := by
  cases hb : voteB (vv a b c) vc with
  | true =>
    refine yes_all (ps := [7]) rfl (by simp) rfl ?_ ?_
    · simp [sameM, sameV, sameVs, Mg.bare, Mc.bare, Mg.step, Mc.step, Mg.head, vm, hm, Mc.nil]
    · intro p hp
      simp at hp
      subst hp
      have e : (vm (vv a b c)).vt = vv a b c := rfl
      simp only [fitB, e, hb]
      simp [vv, vm, hm]
  | false =>
    refine no_fit (p := 7) (by simp [vm, hm, partsOf]) ?_
    have e : (vm (vv a b c)).vt = vv a b c := rfl
    simp only [fitB, e, hb]
    simp
theorem vr_ok : vr.ok := by unfold Rq.ok vr; simp
theorem vcT_ok (t : Nat) (l : List Int) : VcOk (vcT t l) := by
  unfold vcT VcOk
  split
  · exact ⟨fun x hx => (by cases hx), fun x hx => (by cases hx)⟩
  split
  · exact ⟨fun x hx => by obtain ⟨y, _, rfl⟩ := List.mem_map.1 hx; exact vr_ok, fun x hx => (by cases hx)⟩
  · exact ⟨fun x hx => (by cases hx), fun x hx => by obtain ⟨y, _, rfl⟩ := List.mem_map.1 hx; exact vr_ok⟩

/-- a row that a call made is a list in memory -/
theorem row_of_own {α : Type} {w : World} {e k n : Nat} {enc : α → List Value} {ao : Option Addr} {cap : Nat} {xs : List α} (hk : ∀ x ∈ xs, (enc x).length = k) (h : w.ownsRow 0 e k (.slice ao n cap) n (xs.flatMap enc)) (hn : xs.length = n) (hl : n ≤ 1000000) : Row w k enc (.slice ao n cap) xs := by
  have key : ∀ (xs : List α) (j i : Nat) (x : α) (u : Value), (∀ x ∈ xs, (enc x).length = k) → xs[j]? = some x → (enc x)[i]? = some u → (xs.flatMap enc)[j * k + i]? = some u := by
    intro xs
    induction xs with
    | nil => intro j i x u _ hx _; simp at hx
    | cons y r ih =>
      intro j i x u hk hx hu
      rw [List.flatMap_cons]
      have hy := hk y (by simp)
      cases j with
      | zero =>
        simp at hx; subst hx
        have hi : i < (enc y).length := (List.getElem?_eq_some_iff.1 hu).1
        rw [Nat.zero_mul, Nat.zero_add, List.getElem?_append_left hi]; exact hu
      | succ j =>
        have h2 := ih j i x u (fun z hz => hk z (by simp [hz])) (by simpa using hx) hu
        rw [List.getElem?_append_right (by rw [hy, Nat.succ_mul]; omega), hy]
        have e : (j + 1) * k + i - k = j * k + i := by rw [Nat.succ_mul]; omega
        rw [e]; exact h2
  rcases h.2 with ⟨hv, h0⟩ | ⟨g, cap', cur, hv, _, _, hnc, _⟩
  · injection hv with h1 h2 h3
    subst h1 h3
    obtain rfl : xs = [] := List.eq_nil_of_length_eq_zero (by omega)
    subst h0
    exact ⟨none, 0, rfl, fun _ => rfl, Nat.le_refl _, by simp, fun j x hj => by simp at hj⟩
  · injection hv with h1 h2 h3
    subst h1 h3
    refine ⟨some ⟨g, 0, none⟩, cap, by rw [hn], (fun e => by cases e), by omega, by omega, fun j x hj => ⟨g, 0, rfl, fun i u hu => ?_⟩⟩
    have h7 := h.cells (g := g) rfl (j * k + i) u (key xs j i x u hk hj hu)
    have e7 : (⟨g, 0, none⟩ : Addr).add (j * k + i) = ⟨g, 0 + j * k + i, none⟩ := by
      unfold Addr.add
      split
      · rename_i h8; simp at h8; simp
      · simp
    rw [e7] at h7; exact h7
end Go.Proofs.YtmkeckablkccnaaDoor
