/- What rows of things are written as, and that it is read again. -/
import Derived.Test.YthnebpbmhgmcmaaItems
namespace Go.Proofs.Ythnebpbmhgmcmaa
open Go.RowKit

/-- what a thing is written as -/
def enc1 (x : It) : List Int :=
  if bits .and .i64 x.what 7 = 0 then be (x.n % 256) 1 else if bits .and .i64 x.what 7 = 1 then be (x.n % 65536) 2 else if bits .and .i64 x.what 7 = 2 then be (x.n % 4294967296) 4 else if bits .and .i64 x.what 7 = 3 then be x.n 8 else be (x.bs.length : Int) 2 ++ x.bs
def encs : List It → List Int
  | [] => []
  | x :: l => enc1 x ++ encs l

theorem encs_append (l r : List It) : encs (l ++ r) = encs l ++ encs r := by
  induction l with
  | nil => rfl
  | cons x l ih => simp [encs, ih]

theorem encs_next (its : List It) (k : Nat) (x : It) (hk : k < its.length) (hx : x = its[k]) : encs (its.take (k + 1)) = encs (its.take k) ++ enc1 x := by
  rw [List.take_succ_eq_append_getElem hk, encs_append, ← hx]; simp [encs]

theorem be_one (x : Int) : [x % 256] = be (x % 256) 1 := by simp [be, byteAt]
theorem be_two (x : Int) : [x / 256 % 256, x % 256] = be x 2 := by simp [be, byteAt]
theorem be_four (x : Int) : [x / 16777216 % 256, x / 65536 % 256, x / 256 % 256, x % 256] = be x 4 := by simp [be, byteAt]
theorem be_eight (x : Int) : be8 x = be x 8 := by simp [be8, be, byteAt]
theorem be_len (l : List Int) : lenBytes l = be (l.length : Int) 2 ++ l := by simp [lenBytes, be, byteAt]

theorem cell29 {w : World} {X : Nat} {v0 v1 v2 v3 : Value} (h : w.heap[X]? = some (.cells #[v0, v1, v2, v3] 29 (0, 0))) :
    w.cell? ⟨X, 0, none⟩ = some v0 ∧ w.cell? ⟨X, 1, none⟩ = some v1 ∧ w.cell? ⟨X, 2, none⟩ = some v2 ∧ w.cell? ⟨X, 3, none⟩ = some v3 := by
  refine ⟨?_, ?_, ?_, ?_⟩ <;> rw [cell_of_row w X _ _ 29 (0, 0) h] <;> rfl

/-- the end of a round -/
theorem both_next {H : Nat} {w0 w : World} {B X n : Nat} {v : Value} {o : Obj} {its : List It} {k : Nat} {x : It} {e e' : List Int} (h : BothX H w0 w B v (encs (its.take k) ++ e) (encs (its.take k) ++ e') X o) (hk : k < its.length) (hx : x = its[k]) (he : e = enc1 x) (he' : e' = enc1 x) (hn : n = (encs (its.take k)).length) :
    n + (enc1 x).length = (encs (its.take (k + 1))).length ∧ Both H w0 w B v (encs (its.take (k + 1))) (encs (its.take (k + 1))) := by
  subst he he'
  rw [encs_next its k x hk hx]
  exact ⟨by rw [List.length_append, hn], h.drop⟩

theorem u16_wrap (x : Int) : IntKind.u16.wrap x = x % 65536 := by simp [IntKind.wrap, IntKind.signed, IntKind.bits]

theorem enc1_0 {x : It} (h : bits .and .i64 x.what 7 = 0) : be (x.n % 256) 1 = enc1 x := by simp [enc1, h]
theorem enc1_0' {x : It} (h : bits .and .i64 x.what 7 = 0) : be (x.n % 256) 1 = enc1 x := enc1_0 h
theorem enc1_1' {x : It} (h : bits .and .i64 x.what 7 = 1) : be (IntKind.u16.wrap x.n) 2 = enc1 x := by simp [enc1, h, u16_wrap]
theorem enc1_1 {x : It} (h : bits .and .i64 x.what 7 = 1) : be (IntKind.u64.wrap (IntKind.u16.wrap x.n)) 2 = enc1 x := by
  rw [← enc1_1' h, u16_wrap, IntKind.wrap_u64]
  congr 1
  omega
theorem enc1_2 {x : It} (h : bits .and .i64 x.what 7 = 2) : be (x.n % 4294967296) 4 = enc1 x := by simp [enc1, h]
theorem enc1_2' {x : It} (h : bits .and .i64 x.what 7 = 2) : be (x.n % 4294967296) 4 = enc1 x := enc1_2 h
theorem enc1_3 {x : It} (h : bits .and .i64 x.what 7 = 3) : be x.n 8 = enc1 x := by simp [enc1, h]
theorem enc1_3' {x : It} (h : bits .and .i64 x.what 7 = 3) : be x.n 8 = enc1 x := enc1_3 h
theorem enc1_d {x : It} (h0 : ¬ bits .and .i64 x.what 7 = 0) (h1 : ¬ bits .and .i64 x.what 7 = 1) (h2 : ¬ bits .and .i64 x.what 7 = 2) (h3 : ¬ bits .and .i64 x.what 7 = 3) : be (x.bs.length : Int) 2 ++ x.bs = enc1 x := by simp [enc1, h0, h1, h2, h3]

/-- the first k have three hundred bytes at most -/
def Small (its : List It) (k : Nat) : Prop := ∀ i, i < k → ∀ (h : i < its.length), (its[i]).bs.length ≤ 300

theorem small_next (its : List It) (k : Nat) (x : It) (h : Small its k) (hk : k < its.length) (hx : x = its[k]) (hl : x.bs.length ≤ 300) : Small its (k + 1) := by
  intro i hi hi'
  rcases Nat.lt_or_ge i k with h1 | h1
  · exact h i h1 hi'
  · obtain rfl : i = k := by omega
    rw [← hx]; exact hl
end Go.Proofs.Ythnebpbmhgmcmaa
