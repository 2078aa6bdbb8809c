/- What each function of package bits, and each of the document's beside it, returns: a contract a function, over every argument; memory stays as it was. -/
import Derived.Test.YtbnbmclndcnfeaaRows
import Derived.Test.YtbnbmclndcnfeaaMath
import Derived.WalkKit
import Derived.WalkSpells
import Derived.WalkLawsBesides
import Derived.Lib.Hide
namespace Go.Proofs.Ytbnbmclndcnfeaa
open Go.RowKit

set_option maxHeartbeats 400000 in
theorem pack_raw (a b c d : Int) (w : World) :
    Calls Try.prog 12 #[.int .u8 a, .int .u8 b, .int .u16 c, .int .u32 d] w fun e w' => e = .returned (.int .u64 (packRaw a b c d)) ∧ w = w' := by
  go_enter Try.func12, Try.ntmps12
  go_wp2
  go_ret
  exact ⟨rfl, rfl⟩

theorem pack_any (a b c d : Int) (w : World) (ha : 0 ≤ a ∧ a ≤ 255) (hb : 0 ≤ b ∧ b ≤ 255) (hc : 0 ≤ c ∧ c ≤ 65535) (hd : 0 ≤ d ∧ d ≤ 4294967295) :
    Calls Try.prog 12 #[.int .u8 a, .int .u8 b, .int .u16 c, .int .u32 d] w fun e w' => e = .returned (.int .u64 (packI a b c d)) ∧ w = w' := by
  rw [← pack_eq a b c d ha hb hc hd]; exact pack_raw a b c d w

set_option maxHeartbeats 400000 in
theorem unpack_any (x : Int) (w : World) :
    Calls Try.prog 21 #[.int .u64 x] w fun e w' => e = .returned (.tuple #[.int .u8 (x / 72057594037927936 % 256), .int .u8 (x / 281474976710656 % 256), .int .u16 (IntKind.u16.wrap (x / 4294967296)), .int .u32 (x % 4294967296)]) ∧ w = w' := by
  go_enter Try.func21, Try.ntmps21
  go_wp2
  exact bodyPost_ret (v := .tuple #[.int .u8 (x / 72057594037927936 % 256), .int .u8 (x / 281474976710656 % 256), .int .u16 (IntKind.u16.wrap (x / 4294967296)), .int .u32 (x % 4294967296)]) (by simp [results, Try.results21, go_sem]) rfl ⟨rfl, rfl⟩

theorem ret_int {k : IntKind} {a b : Int} (h : a = b) : Ending.returned (.int k a) = .returned (.int k b) := by rw [h]

set_option maxHeartbeats 400000 in
theorem rotl_nat (x k : Nat) (n : Int) (w : World) (hx : x < 18446744073709551616) (hk : k ≤ 63) (hb : bits .and .u64 (IntKind.u64.wrap n) 63 = (k : Int)) :
    Calls Try.prog 10 #[.int .u64 (x : Int), .int .i64 n] w fun e w' => e = .returned (.int .u64 (rotN x k : Nat)) ∧ w = w' := by
  have hr := rot_or x k (by omega) hx
  have HR := Lib.hid hr
  clear hr
  go_enter Try.func10, Try.ntmps10
  go_wp2
  go_ret
  exact ⟨ret_int HR.out, rfl⟩

theorem rotl_any (x n : Int) (w : World) (hx : 0 ≤ x ∧ x ≤ 18446744073709551615)  :
    Calls Try.prog 10 #[.int .u64 x, .int .i64 n] w fun e w' => e = .returned (.int .u64 (rotlI x n)) ∧ w = w' := by
  have h := rotl_nat x.toNat (n % 64).toNat n w (by omega) (by omega) (by rw [and63]; omega)
  rw [Int.toNat_of_nonneg hx.1] at h
  exact h

theorem tmod64 (n : Int) : (n.tmod 64 + 64).tmod 64 = n % 64 := by
  have h1 := Int.tmod_eq_emod (a := n) (b := 64)
  have h2 := Int.tmod_eq_emod (a := n.tmod 64 + 64) (b := 64)
  split at h1 <;> split at h2 <;> omega

theorem refRotl_k (n : Int) : IntKind.u64.wrap ((wrap64 (n.tmod 64 + 64)).tmod 64) = n % 64 := by
  have h1 := Int.tmod_eq_emod (a := n) (b := 64)
  have h2 : wrap64 (n.tmod 64 + 64) = n.tmod 64 + 64 := by unfold wrap64; split at h1 <;> omega
  rw [h2, tmod64, IntKind.wrap_u64]; omega

set_option maxHeartbeats 400000 in
theorem refRotl_nat0 (x : Nat) (n : Int) (w : World) (hx : x < 18446744073709551616) (hb : IntKind.u64.wrap ((wrap64 (n.tmod 64 + 64)).tmod 64) = 0) :
    Calls Try.prog 11 #[.int .u64 (x : Int), .int .i64 n] w fun e w' => e = .returned (.int .u64 (rotN x 0 : Nat)) ∧ w = w' := by
  have hr := rot_zero x hx
  have HR := Lib.hid hr
  clear hr
  go_enter Try.func11, Try.ntmps11
  go_wp2
  go_ret
  exact ⟨ret_int (by rw [HR.out]), rfl⟩

set_option maxHeartbeats 400000 in
theorem refRotl_nat (x k : Nat) (n : Int) (w : World) (hx : x < 18446744073709551616) (hk : k ≤ 63) (hk0 : 1 ≤ k) (hb : IntKind.u64.wrap ((wrap64 (n.tmod 64 + 64)).tmod 64) = (k : Int)) :
    Calls Try.prog 11 #[.int .u64 (x : Int), .int .i64 n] w fun e w' => e = .returned (.int .u64 (rotN x k : Nat)) ∧ w = w' := by
  have hr := rot_or x k (by omega) hx
  have HR := Lib.hid hr
  clear hr
  have h0 : ((k : Int) == 0) = false := beq_eq_false_iff_ne.2 (by omega)
  go_enter Try.func11, Try.ntmps11
  go_wp2
  go_ret
  exact ⟨ret_int HR.out, rfl⟩

theorem refRotl_any (x n : Int) (w : World) (hx : 0 ≤ x ∧ x ≤ 18446744073709551615)  :
    Calls Try.prog 11 #[.int .u64 x, .int .i64 n] w fun e w' => e = .returned (.int .u64 (rotlI x n)) ∧ w = w' := by
  by_cases h0 : n % 64 = 0
  · have h := refRotl_nat0 x.toNat n w (by omega) (by rw [refRotl_k, h0])
    rw [Int.toNat_of_nonneg hx.1] at h
    unfold rotlI
    rw [h0]; exact h
  · have h := refRotl_nat x.toNat (n % 64).toNat n w (by omega) (by omega) (by omega) (by rw [refRotl_k]; omega)
    rw [Int.toNat_of_nonneg hx.1] at h
    exact h

theorem narrow_mid_eq (x n : Int) (h1 : 1 ≤ n) (h2 : n ≤ 64) : wrap64 (x * 2 ^ (64 - n).toNat) / 2 ^ (64 - n).toNat = narrowI x n := by
  rw [narrow_eq x (64 - n).toNat (by omega), show 63 - (64 - n).toNat = n.toNat - 1 from by omega]
  unfold narrowI half
  rw [if_neg (by omega), if_neg (by omega)]

theorem narrow_low_eq (x n : Int) (h1 : n < 1) : wrap64 (x * 9223372036854775808) / 9223372036854775808 = narrowI x n := by
  have h := narrow_eq x 63 (by omega)
  unfold narrowI half
  rw [if_pos h1]
  exact h

theorem narrow_high_eq (x n : Int) (h1 : 64 < n) : wrap64 x = narrowI x n := by
  unfold narrowI half wrap64
  rw [if_neg (by omega), if_pos h1]
  rfl

theorem wrap_twice (x m : Int) : wrap64 (IntKind.u64.wrap (IntKind.u64.wrap x * m)) = wrap64 (x * m) := by
  rw [IntKind.wrap_u64, IntKind.wrap_u64, Int.mul_emod, Int.emod_emod, ← Int.mul_emod]
  unfold wrap64
  omega

set_option maxHeartbeats 400000 in
theorem narrow_any (x n : Int) (w : World) :
    Calls Try.prog 13 #[.int .i64 x, .int .i64 n] w fun e w' => e = .returned (.int .i64 (narrowI x n)) ∧ w = w' := by
  by_cases h1 : n < 1
  · have H := Lib.hid (narrow_low_eq x n h1)
    go_enter Try.func13, Try.ntmps13
    go_wp2
    go_ret
    exact ⟨ret_int H.out, rfl⟩
  · by_cases h2 : 64 < n
    · have H := Lib.hid (narrow_high_eq x n h2)
      go_enter Try.func13, Try.ntmps13
      go_wp2
      go_ret
      exact ⟨ret_int H.out, rfl⟩
    · have H := Lib.hid (narrow_mid_eq x n (by omega) (by omega))
      have h1' : 1 ≤ n := by omega
      have h2' : n ≤ 64 := by omega
      go_enter Try.func13, Try.ntmps13
      go_wp2
      go_ret
      exact ⟨ret_int H.out, rfl⟩

set_option maxHeartbeats 400000 in
theorem refNarrow_any (x n : Int) (w : World) :
    Calls Try.prog 14 #[.int .i64 x, .int .i64 n] w fun e w' => e = .returned (.int .i64 (narrowI x n)) ∧ w = w' := by
  have W := Lib.hid (wrap_twice x)
  by_cases h1 : n < 1
  · have H := Lib.hid (narrow_low_eq x n h1)
    go_enter Try.func14, Try.ntmps14
    go_wp2
    go_ret
    exact ⟨ret_int (by rw [W.out, H.out]), rfl⟩
  · by_cases h2 : 64 < n
    · have H := Lib.hid (narrow_high_eq x n h2)
      go_enter Try.func14, Try.ntmps14
      go_wp2
      go_ret
      exact ⟨ret_int (by rw [← H.out, ← Int.mul_one x, ← W.out]; simp), rfl⟩
    · have H := Lib.hid (narrow_mid_eq x n (by omega) (by omega))
      have h1' : 1 ≤ n := by omega
      have h2' : n ≤ 64 := by omega
      by_cases h3 : 1 < n
      · go_enter Try.func14, Try.ntmps14
        go_wp2
        go_ret
        exact ⟨ret_int (by rw [W.out, H.out]), rfl⟩
      · obtain rfl : n = 1 := by omega
        go_enter Try.func14, Try.ntmps14
        go_wp2
        go_ret
        exact ⟨ret_int (by rw [← H.out, W.out]; rfl), rfl⟩

theorem seven (n : Int) (h1 : 0 ≤ n) (h2 : n ≤ 6) : n = 0 ∨ n = 1 ∨ n = 2 ∨ n = 3 ∨ n = 4 ∨ n = 5 ∨ n = 6 := by omega

theorem doubleI_low (t k : Int) (h : k < 0) : doubleI t k = doubleI t 0 := by
  have h' : ¬ 6 < k := by omega
  simp [doubleI, h, h']
theorem doubleI_high (t k : Int) (h : 6 < k) : doubleI t k = doubleI t 6 := by simp [doubleI, h]

set_option maxHeartbeats 400000 in
theorem double_mid (x n : Int) (w : World) (h1 : 0 ≤ n) (h2 : n ≤ 6) (hx : 0 ≤ x) (hx' : x ≤ 4294967295) :
    Calls Try.prog 19 #[.int .u32 x, .int .i64 n] w fun e w' => e = .returned (.int .u32 (doubleI x n)) ∧ w = w' := by
  rcases seven n h1 h2 with rfl | rfl | rfl | rfl | rfl | rfl | rfl
  all_goals
    go_enter Try.func19, Try.ntmps19
    go_wp2
    all_goals
      go_ret
      refine ⟨ret_int ?_, rfl⟩
      simp [doubleI]
      omega

set_option maxHeartbeats 400000 in
theorem double_any (x n : Int) (w : World) (hx : 0 ≤ x) (hx' : x ≤ 4294967295) :
    Calls Try.prog 19 #[.int .u32 x, .int .i64 n] w fun e w' => e = .returned (.int .u32 (doubleI x n)) ∧ w = w' := by
  by_cases h1 : n < 0
  · rw [doubleI_low x n h1]
    go_enter Try.func19, Try.ntmps19
    go_wp2
    all_goals
      go_ret
      refine ⟨ret_int ?_, rfl⟩
      simp [doubleI]
      omega
  · by_cases h2 : 6 < n
    · rw [doubleI_high x n h2]
      go_enter Try.func19, Try.ntmps19
      go_wp2
      all_goals
        go_ret
        refine ⟨ret_int ?_, rfl⟩
        simp [doubleI]
        omega
    · exact double_mid x n w (by omega) (by omega) hx hx'

set_option maxHeartbeats 400000 in
theorem refDouble_mid (x n : Int) (w : World) (h1 : 0 ≤ n) (h2 : n ≤ 6) (hx : 0 ≤ x) (hx' : x ≤ 4294967295) :
    Calls Try.prog 20 #[.int .u32 x, .int .i64 n] w fun e w' => e = .returned (.int .u32 (doubleI x n)) ∧ w = w' := by
  rcases seven n h1 h2 with rfl | rfl | rfl | rfl | rfl | rfl | rfl
  all_goals
    go_enter Try.func20, Try.ntmps20
    go_wp2
    all_goals
      go_ret
      refine ⟨ret_int ?_, rfl⟩
      simp [doubleI]
      omega

set_option maxHeartbeats 400000 in
theorem refDouble_any (x n : Int) (w : World) (hx : 0 ≤ x) (hx' : x ≤ 4294967295) :
    Calls Try.prog 20 #[.int .u32 x, .int .i64 n] w fun e w' => e = .returned (.int .u32 (doubleI x n)) ∧ w = w' := by
  by_cases h1 : n < 0
  · rw [doubleI_low x n h1]
    go_enter Try.func20, Try.ntmps20
    go_wp2
    all_goals
      go_ret
      refine ⟨ret_int ?_, rfl⟩
      simp [doubleI]
      omega
  · by_cases h2 : 6 < n
    · rw [doubleI_high x n h2]
      go_enter Try.func20, Try.ntmps20
      go_wp2
      all_goals
        go_ret
        refine ⟨ret_int ?_, rfl⟩
        simp [doubleI]
        omega
    · exact refDouble_mid x n w (by omega) (by omega) hx hx'

/-- the bytes l lie at A, one behind the other (of no bytes nothing is said) -/
def Bytes (w : World) (A : Option Addr) (l : List Int) : Prop := ∀ i, i < l.length → ∃ ad, A = some ad ∧ w.cell? (ad.add i) = some (.int .u8 (l.getD i 0))

def stepI (s c : Int) : Int := IntKind.u64.wrap (bits .xor .u64 s (IntKind.u64.wrap c) * 1099511628211)
def sumI (l : List Int) : Int := l.foldl stepI 14695981039346656037

theorem sumI_next (l : List Int) (k : Nat) (h : k < l.length) : sumI (l.take (k + 1)) = stepI (sumI (l.take k)) l[k] := by
  unfold sumI; rw [List.take_succ_eq_append_getElem h, List.foldl_append]; rfl

set_option maxHeartbeats 400000 in
theorem sum_any (A : Option Addr) (l : List Int) (cap : Nat) (w : World) (h : Bytes w A l) (hl : l.length ≤ maxLen) :
    Calls Try.prog 15 #[.slice A l.length cap] w fun e w' => e = .returned (.int .u64 (sumI l)) ∧ w = w' := by
  unfold maxLen at hl
  have H := Lib.hid h
  clear h
  go_enter Try.func15, Try.ntmps15
  go_wp2
  go_loop [3, 8] (fun s i => ∃ k : Nat, k ≤ l.length ∧ i = .int .i64 k ∧ s = .int .u64 (sumI (l.take k))) (fun _ i => l.length - (intOf i).toNat)
  case atStart => exact ⟨0, Nat.zero_le _, rfl, rfl⟩
  case round =>
    obtain ⟨k, hk, rfl, rfl⟩ := hrel
    by_cases hlt : k < l.length
    · have HS := Lib.hid (sumI_next l k hlt)
      obtain ⟨ad, rfl, hc⟩ := H.out k hlt
      go_wp2
      go_round
      case rel => exact ⟨k + 1, by omega, by go_num, by rw [HS.out, stepI]⟩
      case measure => simp [intOf]; omega
    · go_wp2
      go_ret
      exact ⟨ret_int (by rw [List.take_of_length_le (by omega)]), rfl⟩

set_option maxHeartbeats 400000 in
theorem refSum_any (A : Option Addr) (l : List Int) (cap : Nat) (w : World) (h : Bytes w A l) (hl : l.length ≤ maxLen) :
    Calls Try.prog 16 #[.slice A l.length cap] w fun e w' => e = .returned (.int .u64 (sumI l)) ∧ w = w' := by
  unfold maxLen at hl
  have H := Lib.hid h
  clear h
  go_enter Try.func16, Try.ntmps16
  go_wp2
  go_loop [3, 4] (fun s i => ∃ k : Nat, k ≤ l.length ∧ i = .int .i64 k ∧ s = .int .u64 (sumI (l.take k))) (fun _ i => l.length - (intOf i).toNat)
  case atStart => exact ⟨0, Nat.zero_le _, rfl, rfl⟩
  case round =>
    obtain ⟨k, hk, rfl, rfl⟩ := hrel
    by_cases hlt : k < l.length
    · have HS := Lib.hid (sumI_next l k hlt)
      obtain ⟨ad, rfl, hc⟩ := H.out k hlt
      go_wp2
      go_round
      case rel => exact ⟨k + 1, by omega, by go_num, by rw [HS.out, stepI]⟩
      case measure => simp [intOf]; omega
    · go_wp2
      go_ret
      exact ⟨ret_int (by rw [List.take_of_length_le (by omega)]), rfl⟩

theorem sum_nil (w : World) :
    Calls Try.prog 15 #[.slice none 0 0] w fun e w' => e = .returned (.int .u64 14695981039346656037) ∧ w = w' :=
  sum_any none [] 0 w (fun i h => by simp at h) (Nat.zero_le _)

set_option maxHeartbeats 1000000 in
theorem known_any (w : World) :
    Calls Try.prog 9 #[] w fun e w' => e = .returned (.bool true) ∧ w = w' := by
  have e1 : packI 1 2 3 4 / 72057594037927936 % 256 = 1 := by decide
  have e2 : packI 1 2 3 4 / 281474976710656 % 256 = 2 := by decide
  have e3 : IntKind.u16.wrap (packI 1 2 3 4 / 4294967296) = 3 := by decide
  have e4 : packI 1 2 3 4 % 4294967296 = 4 := by decide
  have e5 : narrowI 255 8 = -1 := by decide
  have e6 : rotlI 1 65 = 2 := by decide
  have e7 : doubleI 4 2 = 16 := by decide
  go_enter Try.func9, Try.ntmps9
  go_wp2_with (first
    | (go_at_call 12; refine (pack_any _ _ _ _ _ (by omega) (by omega) (by omega) (by omega)).mono ?_; rintro e w' ⟨rfl, rfl⟩)
    | (go_at_call 21; refine (unpack_any _ _).mono ?_; rintro e w' ⟨rfl, rfl⟩)
    | (go_at_call 13; refine (narrow_any _ _ _).mono ?_; rintro e w' ⟨rfl, rfl⟩)
    | (go_at_call 10; refine (rotl_any _ _ _ (by omega)).mono ?_; rintro e w' ⟨rfl, rfl⟩)
    | (go_at_call 15; refine (sum_nil _).mono ?_; rintro e w' ⟨rfl, rfl⟩)
    | (go_at_call 19; refine (double_any _ _ _ (by omega) (by omega)).mono ?_; rintro e w' ⟨rfl, rfl⟩))
  go_ret
  exact ⟨rfl, rfl⟩
end Go.Proofs.Ytbnbmclndcnfeaa
