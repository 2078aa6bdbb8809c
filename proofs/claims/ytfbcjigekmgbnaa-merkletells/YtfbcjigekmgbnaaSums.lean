/- Sums of bytes: what both functions answer; one byte changed is another sum. -/
import Derived.Test.YtfbcjigekmgbnaaOwn
namespace Go.Proofs.Ytfbcjigekmgbnaa
open Go.RowKit
set_option maxRecDepth 100000

def stepI (s c : Int) : Int := IntKind.u64.wrap (bits .xor .u64 s (IntKind.u64.wrap c) * 1099511628211)
def sumI (l : List Int) : Int := l.foldl stepI 14695981039346656037

theorem sumI_next (l : List Int) (k : Nat) (h : k < l.length) : sumI (l.take (k + 1)) = stepI (sumI (l.take k)) l[k] := by
  unfold sumI; rw [List.take_succ_eq_append_getElem h, List.foldl_append]; rfl

set_option maxHeartbeats 400000 in
theorem sum_any (A : Option Addr) (l : List Int) (cap : Nat) (w : World) (h : Bytes w A l) (hl : l.length ≤ maxLen) :
    Calls Try.prog 36 #[.slice A l.length cap] w fun e w' => e = .returned (.int .u64 (sumI l)) ∧ w = w' := by
  unfold maxLen at hl
  have H := Lib.hid h
  clear h
  go_enter Try.func36, Try.ntmps36
  go_wp2
  go_loop [3, 8] (fun s i => ∃ k : Nat, k ≤ l.length ∧ i = .int .i64 k ∧ s = .int .u64 (sumI (l.take k))) (fun _ i => l.length - (intOf i).toNat)
  case atStart => exact ⟨0, Nat.zero_le _, rfl, rfl⟩
  case round =>
    obtain ⟨k, hk, rfl, rfl⟩ := hrel
    by_cases hlt : k < l.length
    · have HS := Lib.hid (sumI_next l k hlt)
      obtain ⟨ad, rfl, hc⟩ := H.out k hlt
      go_wp2
      go_round
      case rel => exact ⟨k + 1, by omega, by go_num, by rw [HS.out, stepI]⟩
      case measure => simp [intOf]; omega
    · go_wp2
      go_ret
      exact ⟨ret_int (by rw [List.take_of_length_le (by omega)]), rfl⟩

set_option maxHeartbeats 400000 in
theorem refSum_any (A : Option Addr) (l : List Int) (cap : Nat) (w : World) (h : Bytes w A l) (hl : l.length ≤ maxLen) :
    Calls Try.prog 33 #[.slice A l.length cap] w fun e w' => e = .returned (.int .u64 (sumI l)) ∧ w = w' := by
  unfold maxLen at hl
  have H := Lib.hid h
  clear h
  go_enter Try.func33, Try.ntmps33
  go_wp2
  go_loop [3, 4] (fun s i => ∃ k : Nat, k ≤ l.length ∧ i = .int .i64 k ∧ s = .int .u64 (sumI (l.take k))) (fun _ i => l.length - (intOf i).toNat)
  case atStart => exact ⟨0, Nat.zero_le _, rfl, rfl⟩
  case round =>
    obtain ⟨k, hk, rfl, rfl⟩ := hrel
    by_cases hlt : k < l.length
    · have HS := Lib.hid (sumI_next l k hlt)
      obtain ⟨ad, rfl, hc⟩ := H.out k hlt
      go_wp2
      go_round
      case rel => exact ⟨k + 1, by omega, by go_num, by rw [HS.out, stepI]⟩
      case measure => simp [intOf]; omega
    · go_wp2
      go_ret
      exact ⟨ret_int (by rw [List.take_of_length_le (by omega)]), rfl⟩

def stepN (s c : Nat) : Nat := (s ^^^ c) * 1099511628211 % 18446744073709551616

theorem step_nat (s c : Nat) (hs : s < 18446744073709551616) (hc : c < 256) : stepI (s : Int) (c : Int) = ((stepN s c : Nat) : Int) := by
  unfold stepI stepN
  have e : IntKind.u64.wrap (c : Int) = (c : Int) := by rw [IntKind.wrap_u64]; omega
  rw [e, u64_xor_nat s c hs (by omega), IntKind.wrap_u64]
  omega

theorem times_inj (a b : Nat) (ha : a < 18446744073709551616) (hb : b < 18446744073709551616) (h : a * 1099511628211 % 18446744073709551616 = b * 1099511628211 % 18446744073709551616) : a = b := by
  have e : ∀ x : Nat, x < 18446744073709551616 → (x * 1099511628211 % 18446744073709551616) * 14886173955864302971 % 18446744073709551616 = x := by
    intro x hx
    rw [Nat.mul_mod, Nat.mod_mod, ← Nat.mul_mod, Nat.mul_assoc]
    have : (1099511628211 * 14886173955864302971 : Nat) = 18446744073709551616 * 887285111055 + 1 := by decide
    rw [this, Nat.mul_add, ← Nat.mul_assoc, Nat.mul_comm x, Nat.mul_assoc, Nat.mul_one, Nat.mul_add_mod]
    exact Nat.mod_eq_of_lt hx
  rw [← e a ha, ← e b hb, h]

theorem xor_lt (s c : Nat) (hs : s < 18446744073709551616) (hc : c < 256) : s ^^^ c < 18446744073709551616 :=
  Nat.xor_lt_two_pow (n := 64) hs (by omega)

theorem stepN_lt (s c : Nat) : stepN s c < 18446744073709551616 := Nat.mod_lt _ (by omega)

theorem xor_cancel (a b c : Nat) (h : a ^^^ c = b ^^^ c) : a = b := by
  have := congrArg (· ^^^ c) h
  simpa [Nat.xor_assoc] using this

theorem stepN_inj (s t c : Nat) (hs : s < 18446744073709551616) (ht : t < 18446744073709551616) (hc : c < 256) (h : stepN s c = stepN t c) : s = t :=
  xor_cancel s t c (times_inj _ _ (xor_lt s c hs hc) (xor_lt t c ht hc) h)

theorem stepN_inj2 (s c d : Nat) (hs : s < 18446744073709551616) (hc : c < 256) (hd : d < 256) (h : stepN s c = stepN s d) : c = d := by
  have := times_inj _ _ (xor_lt s c hs hc) (xor_lt s d hs hd) h
  rw [Nat.xor_comm s c, Nat.xor_comm s d] at this
  exact xor_cancel c d s this

theorem step_range (s c : Int) (hs : 0 ≤ s ∧ s < 18446744073709551616) (hc : isByte c) : 0 ≤ stepI s c ∧ stepI s c < 18446744073709551616 := by
  obtain ⟨s, rfl⟩ := Int.eq_ofNat_of_zero_le hs.1
  obtain ⟨c, rfl⟩ := Int.eq_ofNat_of_zero_le hc.1
  rw [step_nat s c (by omega) (by have := hc.2; omega)]
  have := stepN_lt s c
  omega

theorem step_inj (s t c : Int) (hs : 0 ≤ s ∧ s < 18446744073709551616) (ht : 0 ≤ t ∧ t < 18446744073709551616) (hc : isByte c) (h : stepI s c = stepI t c) : s = t := by
  obtain ⟨s, rfl⟩ := Int.eq_ofNat_of_zero_le hs.1
  obtain ⟨t, rfl⟩ := Int.eq_ofNat_of_zero_le ht.1
  obtain ⟨c, rfl⟩ := Int.eq_ofNat_of_zero_le hc.1
  have hc' := hc.2
  rw [step_nat s c (by omega) (by omega), step_nat t c (by omega) (by omega)] at h
  have := stepN_inj s t c (by omega) (by omega) (by omega) (by omega)
  omega

theorem step_inj2 (s c d : Int) (hs : 0 ≤ s ∧ s < 18446744073709551616) (hc : isByte c) (hd : isByte d) (h : stepI s c = stepI s d) : c = d := by
  obtain ⟨s, rfl⟩ := Int.eq_ofNat_of_zero_le hs.1
  obtain ⟨d, rfl⟩ := Int.eq_ofNat_of_zero_le hd.1
  obtain ⟨c, rfl⟩ := Int.eq_ofNat_of_zero_le hc.1
  have hc' := hc.2
  have hd' := hd.2
  rw [step_nat s c (by omega) (by omega), step_nat s d (by omega) (by omega)] at h
  have := stepN_inj2 s c d (by omega) (by omega) (by omega) (by omega)
  omega

theorem fold_range (l : List Int) : ∀ (s : Int), (∀ x ∈ l, isByte x) → (0 ≤ s ∧ s < 18446744073709551616) → 0 ≤ l.foldl stepI s ∧ l.foldl stepI s < 18446744073709551616 := by
  induction l with
  | nil => intro s _ h; exact h
  | cons x l ih => intro s hl hs; exact ih _ (fun y hy => hl y (by simp [hy])) (step_range s x hs (hl x (by simp)))

theorem fold_inj (l : List Int) : ∀ (s t : Int), (∀ x ∈ l, isByte x) → (0 ≤ s ∧ s < 18446744073709551616) → (0 ≤ t ∧ t < 18446744073709551616) → l.foldl stepI s = l.foldl stepI t → s = t := by
  induction l with
  | nil => intro s t _ _ _ h; exact h
  | cons x l ih =>
    intro s t hl hs ht h
    have hx := hl x (by simp)
    exact step_inj s t x hs ht hx (ih _ _ (fun y hy => hl y (by simp [hy])) (step_range s x hs hx) (step_range t x ht hx) h)

theorem sum_range (l : List Int) (hl : ∀ x ∈ l, isByte x) : 0 ≤ sumI l ∧ sumI l < 18446744073709551616 := fold_range l _ hl (by omega)

/-- one byte changed is another sum -/
theorem sum_changed (l : List Int) (i : Nat) (y : Int) (hl : ∀ x ∈ l, isByte x) (hi : i < l.length) (hy : isByte y) (hne : y ≠ l[i]) : sumI (l.set i y) ≠ sumI l := by
  intro h
  have e1 : l.set i y = l.take i ++ y :: l.drop (i + 1) := List.set_eq_take_append_cons_drop.trans (if_pos hi)
  have e2 : l = l.take i ++ l[i] :: l.drop (i + 1) := by simp
  have hr := sum_range (l.take i) (fun x hx => hl x (List.mem_of_mem_take hx))
  have hb : isByte l[i] := hl _ (List.getElem_mem hi)
  rw [e1] at h
  have h2 : sumI (l.take i ++ y :: l.drop (i + 1)) = sumI (l.take i ++ l[i] :: l.drop (i + 1)) := by rw [h]; exact congrArg sumI e2
  unfold sumI at h2 hr
  rw [List.foldl_append, List.foldl_append, List.foldl_cons, List.foldl_cons] at h2
  have h3 := fold_inj _ _ _ (fun x hx => hl x (List.mem_of_mem_drop hx)) (step_range _ y hr hy) (step_range _ _ hr hb) h2
  exact hne (step_inj2 _ _ _ hr hy hb h3)

end Go.Proofs.Ytfbcjigekmgbnaa
