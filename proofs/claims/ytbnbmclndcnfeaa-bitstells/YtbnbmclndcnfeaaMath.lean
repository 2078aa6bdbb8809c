/- Plain arithmetic of packing, turning, narrowing, doubling: what the Go functions of package bits compute, without a program. -/
import Derived.WalkKit
import Derived.WalkLawsBesides
import Derived.Laws.BitsAllLaws
namespace Go.Proofs.Ytbnbmclndcnfeaa
open Go.RowKit

/-! packing -/
def packRaw (a b c d : Int) : Int :=
  bits BinOp.or IntKind.u64
    (bits BinOp.or IntKind.u64
      (bits BinOp.or IntKind.u64 (IntKind.u64.wrap (IntKind.u64.wrap a * 72057594037927936))
        (IntKind.u64.wrap (IntKind.u64.wrap b * 281474976710656)))
      (IntKind.u64.wrap (IntKind.u64.wrap c * 4294967296)))
    (IntKind.u64.wrap d)
def packI (a b c d : Int) : Int := a * 72057594037927936 + b * 281474976710656 + c * 4294967296 + d

theorem join_nat (i x y : Nat) (hx : x % 2 ^ i = 0) (hy : y < 2 ^ i) (hx' : x < 18446744073709551616) (hy' : y < 18446744073709551616) :
    bits .or .u64 (x : Int) (y : Int) = ((x + y : Nat) : Int) := by
  rw [u64_or_nat x y hx' hy', nat_join i x y hx hy]

theorem pack_eq (a b c d : Int) (ha : 0 ≤ a ∧ a ≤ 255) (hb : 0 ≤ b ∧ b ≤ 255) (hc : 0 ≤ c ∧ c ≤ 65535) (hd : 0 ≤ d ∧ d ≤ 4294967295) : packRaw a b c d = packI a b c d := by
  obtain ⟨a, rfl⟩ := Int.eq_ofNat_of_zero_le ha.1
  obtain ⟨b, rfl⟩ := Int.eq_ofNat_of_zero_le hb.1
  obtain ⟨c, rfl⟩ := Int.eq_ofNat_of_zero_le hc.1
  obtain ⟨d, rfl⟩ := Int.eq_ofNat_of_zero_le hd.1
  unfold packRaw packI
  simp only [IntKind.wrap_u64]
  have e1 : ((a : Int) % 18446744073709551616 * 72057594037927936) % 18446744073709551616 = ((a * 72057594037927936 : Nat) : Int) := by omega
  have e2 : ((b : Int) % 18446744073709551616 * 281474976710656) % 18446744073709551616 = ((b * 281474976710656 : Nat) : Int) := by omega
  have e3 : ((c : Int) % 18446744073709551616 * 4294967296) % 18446744073709551616 = ((c * 4294967296 : Nat) : Int) := by omega
  have e4 : (d : Int) % 18446744073709551616 = ((d : Nat) : Int) := by omega
  rw [e1, e2, e3, e4, join_nat 56, join_nat 48, join_nat 32] <;> omega

/-! turning -/
def rotN (x k : Nat) : Nat := (x * 2 ^ k) % 18446744073709551616 + x / 2 ^ (64 - k)
def rotlI (x n : Int) : Int := (rotN x.toNat (n % 64).toNat : Nat)

theorem and63 (n : Int) : bits .and .u64 (IntKind.u64.wrap n) 63 = n % 64 := by
  rw [IntKind.wrap_u64]
  rw [u64_and _ _ (by omega) (by omega) (by omega) (by omega)]
  show (((n % 18446744073709551616).toNat &&& 63 : Nat) : Int) = _
  rw [nat_mask6]; omega

theorem pow64 (k : Nat) (hk : k ≤ 64) : 2 ^ k * 2 ^ (64 - k) = 18446744073709551616 := by
  rw [← Nat.pow_add, show k + (64 - k) = 64 from by omega]

theorem shr_lt (x k : Nat) (hk : k ≤ 64) (hx : x < 18446744073709551616) : x / 2 ^ (64 - k) < 2 ^ k := by
  rw [Nat.div_lt_iff_lt_mul (Nat.two_pow_pos _), pow64 k hk]; exact hx

theorem rot_or (x k : Nat) (hk : k ≤ 64) (hx : x < 18446744073709551616) :
    bits .or .u64 (IntKind.u64.wrap ((x : Int) * 2 ^ k)) ((x : Int) / 2 ^ (64 - k)) = ((rotN x k : Nat) : Int) := by
  have e1 : IntKind.u64.wrap ((x : Int) * 2 ^ k) = ((x * 2 ^ k % 18446744073709551616 : Nat) : Int) := by
    rw [IntKind.wrap_u64]; simp [Int.natCast_pow]
  have e2 : ((x : Int) / 2 ^ (64 - k)) = ((x / 2 ^ (64 - k) : Nat) : Int) := by simp [Int.natCast_pow]
  rw [e1, e2]
  have h3 : x / 2 ^ (64 - k) ≤ x := Nat.div_le_self _ _
  rw [join_nat k _ _ _ (shr_lt x k hk hx) (Nat.mod_lt _ (by omega)) (by omega)]
  · rfl
  · have : (18446744073709551616 : Nat) = 2 ^ k * 2 ^ (64 - k) := (pow64 k hk).symm
    rw [this, Nat.mod_mul_right_mod, Nat.mul_mod_left]

theorem rot_lt (x k : Nat) (hk : k ≤ 64) (hx : x < 18446744073709551616) : rotN x k < 18446744073709551616 := by
  have h := rot_or x k hk hx
  have h3 : x / 2 ^ (64 - k) ≤ x := Nat.div_le_self _ _
  have e1 : IntKind.u64.wrap ((x : Int) * 2 ^ k) = ((x * 2 ^ k % 18446744073709551616 : Nat) : Int) := by
    rw [IntKind.wrap_u64]; simp [Int.natCast_pow]
  have e2 : ((x : Int) / 2 ^ (64 - k)) = ((x / 2 ^ (64 - k) : Nat) : Int) := by simp [Int.natCast_pow]
  rw [e1, e2, u64_or_nat _ _ (Nat.mod_lt _ (by omega)) (by omega)] at h
  have := Nat.or_lt_two_pow (x := x * 2 ^ k % 18446744073709551616) (y := x / 2 ^ (64 - k)) (n := 64) (Nat.mod_lt _ (by omega)) (by omega)
  omega

theorem rot_zero (x : Nat) (hx : x < 18446744073709551616) : rotN x 0 = x := by
  unfold rotN; simp; omega

/-- modulo 2^64 - 1 a turn is a product -/
theorem rot_mod (x k : Nat) (hk : k ≤ 64) : rotN x k % 18446744073709551615 = (x * 2 ^ k) % 18446744073709551615 := by
  unfold rotN
  have e : x / 2 ^ (64 - k) = x * 2 ^ k / 18446744073709551616 := by
    rw [← pow64 k hk, Nat.mul_comm x, Nat.mul_div_mul_left _ _ (Nat.two_pow_pos k)]
  rw [e]
  generalize x * 2 ^ k = z
  omega

theorem rot_pos (x k : Nat) (hk : k ≤ 64) (hx : 0 < x) : 0 < rotN x k := by
  unfold rotN
  have e : x / 2 ^ (64 - k) = x * 2 ^ k / 18446744073709551616 := by
    rw [← pow64 k hk, Nat.mul_comm x, Nat.mul_div_mul_left _ _ (Nat.two_pow_pos k)]
  rw [e]
  have : 0 < x * 2 ^ k := Nat.mul_pos hx (Nat.two_pow_pos k)
  generalize x * 2 ^ k = z at *
  omega

theorem rot_of_zero (k : Nat) : rotN 0 k = 0 := by unfold rotN; simp

theorem rot_comp (x j k m : Nat) (hj : j ≤ 64) (hk : k ≤ 64) (hm : m ≤ 64) (h : (j + k) % 64 = m % 64) (hx : x < 18446744073709551616) : rotN (rotN x j) k = rotN x m := by
  rcases Nat.eq_zero_or_pos x with rfl | hp
  · simp [rot_of_zero]
  have p1 := rot_pos x j hj hp
  have p2 := rot_pos (rotN x j) k hk p1
  have p3 := rot_pos x m hm hp
  have l1 := rot_lt x j hj hx
  have l2 := rot_lt (rotN x j) k hk l1
  have l3 := rot_lt x m hm hx
  have m1 := rot_mod (rotN x j) k hk
  have m2 := rot_mod x j hj
  have m3 := rot_mod x m hm
  rw [Nat.mul_mod, m2, ← Nat.mul_mod, Nat.mul_assoc, ← Nat.pow_add] at m1
  have p64 : ∀ q r : Nat, 2 ^ (64 * q + r) % 18446744073709551615 = 2 ^ r % 18446744073709551615 := by
    intro q r
    rw [Nat.pow_add, Nat.pow_mul, Nat.mul_mod, Nat.pow_mod]
    simp
  have e1 : 2 ^ (j + k) % 18446744073709551615 = 2 ^ m % 18446744073709551615 := by
    have a1 := p64 ((j + k) / 64) ((j + k) % 64)
    have a2 := p64 (m / 64) (m % 64)
    rw [Nat.div_add_mod] at a1 a2
    rw [a1, a2, h]
  rw [Nat.mul_mod, e1, ← Nat.mul_mod, ← m3] at m1
  omega

theorem rotl_bounds (x n : Int) (hx : 0 ≤ x ∧ x ≤ 18446744073709551615) : 0 ≤ rotlI x n ∧ rotlI x n ≤ 18446744073709551615 := by
  unfold rotlI
  have := rot_lt x.toNat (n % 64).toNat (by omega) (by omega)
  omega

theorem rotl_comp (x a b c : Int) (hx : 0 ≤ x ∧ x ≤ 18446744073709551615) (h : (a + b) % 64 = c % 64) : rotlI (rotlI x a) b = rotlI x c := by
  unfold rotlI
  rw [Int.toNat_natCast, rot_comp _ _ _ (c % 64).toNat (by omega) (by omega) (by omega) (by omega) (by omega)]

theorem rotl_id (x c : Int) (hx : 0 ≤ x ∧ x ≤ 18446744073709551615) (h : c % 64 = 0) : rotlI x c = x := by
  unfold rotlI
  rw [h]; show ((rotN x.toNat 0 : Nat) : Int) = x
  rw [rot_zero _ (by omega)]; omega

theorem rotl_same (x a c : Int) (h : a % 64 = c % 64) : rotlI x a = rotlI x c := by
  unfold rotlI; rw [h]

/-! narrowing: H is half of the range -/
def half (n : Int) : Int := 2 ^ ((if n < 1 then 1 else if 64 < n then 64 else n).toNat - 1)
def narrowI (x n : Int) : Int := (x + half n) % (2 * half n) - half n

theorem half_pos (n : Int) : 0 < half n := by unfold half; exact Int.pow_pos (by omega)

theorem narrow_eq (x : Int) (k : Nat) (h1 : k ≤ 63) : wrap64 (x * 2 ^ k) / 2 ^ k = (x + 2 ^ (63 - k)) % (2 * 2 ^ (63 - k)) - 2 ^ (63 - k) := by
  have hp : (0 : Int) < 2 ^ k := Int.pow_pos (by omega)
  have e63 : (9223372036854775808 : Int) = 2 ^ k * 2 ^ (63 - k) := by
    rw [← Int.pow_add, show k + (63 - k) = 63 from by omega]; rfl
  have e64 : (18446744073709551616 : Int) = 2 ^ k * (2 * 2 ^ (63 - k)) := by
    rw [Int.mul_left_comm, ← e63]; rfl
  unfold wrap64
  rw [e64, e63, Int.mul_comm x, ← Int.mul_add, Int.mul_emod_mul_of_pos _ _ hp, ← Int.mul_sub, Int.mul_ediv_cancel_left _ (by omega)]

theorem narrow_bounds (x n : Int) : - half n ≤ narrowI x n ∧ narrowI x n ≤ half n - 1 := by
  have h := half_pos n
  unfold narrowI
  have h1 := Int.emod_nonneg (x + half n) (b := 2 * half n) (by omega)
  have h2 := Int.emod_lt_of_pos (x + half n) (b := 2 * half n) (by omega)
  omega

theorem narrow_fits (x n : Int) (h1 : - half n ≤ x) (h2 : x ≤ half n - 1) : narrowI x n = x := by
  unfold narrowI; rw [Int.emod_eq_of_lt (by omega) (by omega)]; omega

theorem narrow_next (n : Int) : narrowI (half n) n = - half n := by
  unfold narrowI
  rw [show half n + half n = 2 * half n from by omega, Int.emod_self]; omega

theorem narrow_dvd (x n : Int) : ∃ q, x - narrowI x n = 2 * half n * q := by
  refine ⟨(x + half n) / (2 * half n), ?_⟩
  unfold narrowI
  have := Int.emod_add_mul_ediv (x + half n) (2 * half n)
  omega

/-! doubling -/
def doubleI (t k : Int) : Int :=
  if 2147483648 < t * 2 ^ (if 6 < k then 6 else if k < 0 then 0 else k).toNat then 2147483648 else t * 2 ^ (if 6 < k then 6 else if k < 0 then 0 else k).toNat
end Go.Proofs.Ytbnbmclndcnfeaa
