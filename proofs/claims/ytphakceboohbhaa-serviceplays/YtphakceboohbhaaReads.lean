/- What each function of package wire that reads returns: the numbers of the bytes, or the error, and what is left then. -/
import Derived.Test.YtphakceboohbhaaRead
namespace Go.Proofs.Ytphakceboohbhaa
open Go.RowKit
set_option maxRecDepth 100000

def rd16 (l : List Int) : Int := l.getD 0 0 * 256 + l.getD 1 0
def rd32 (l : List Int) : Int := (l.getD 0 0 * 256 + l.getD 1 0) * 65536 + (l.getD 2 0 * 256 + l.getD 3 0)

theorem getD_take (l : List Int) (n i : Nat) (h : i < n) : (l.take n).getD i 0 = l.getD i 0 := by
  simp [List.getD_eq_getElem?_getD, h]

def packRaw (a b c d : Int) : Int :=
  bits BinOp.or IntKind.u64
    (bits BinOp.or IntKind.u64
      (bits BinOp.or IntKind.u64 (IntKind.u64.wrap (IntKind.u64.wrap a * 72057594037927936))
        (IntKind.u64.wrap (IntKind.u64.wrap b * 281474976710656)))
      (IntKind.u64.wrap (IntKind.u64.wrap c * 4294967296)))
    (IntKind.u64.wrap d)
def packI (a b c d : Int) : Int := a * 72057594037927936 + b * 281474976710656 + c * 4294967296 + d

theorem join_nat (i x y : Nat) (hx : x % 2 ^ i = 0) (hy : y < 2 ^ i) (hx' : x < 18446744073709551616) (hy' : y < 18446744073709551616) :
    bits .or .u64 (x : Int) (y : Int) = ((x + y : Nat) : Int) := by
  rw [u64_or_nat x y hx' hy', nat_join i x y hx hy]

theorem pack_eq (a b c d : Int) (ha : 0 ≤ a ∧ a ≤ 255) (hb : 0 ≤ b ∧ b ≤ 255) (hc : 0 ≤ c ∧ c ≤ 65535) (hd : 0 ≤ d ∧ d ≤ 4294967295) : packRaw a b c d = packI a b c d := by
  obtain ⟨a, rfl⟩ := Int.eq_ofNat_of_zero_le ha.1
  obtain ⟨b, rfl⟩ := Int.eq_ofNat_of_zero_le hb.1
  obtain ⟨c, rfl⟩ := Int.eq_ofNat_of_zero_le hc.1
  obtain ⟨d, rfl⟩ := Int.eq_ofNat_of_zero_le hd.1
  unfold packRaw packI
  simp only [IntKind.wrap_u64]
  have e1 : ((a : Int) % 18446744073709551616 * 72057594037927936) % 18446744073709551616 = ((a * 72057594037927936 : Nat) : Int) := by omega
  have e2 : ((b : Int) % 18446744073709551616 * 281474976710656) % 18446744073709551616 = ((b * 281474976710656 : Nat) : Int) := by omega
  have e3 : ((c : Int) % 18446744073709551616 * 4294967296) % 18446744073709551616 = ((c * 4294967296 : Nat) : Int) := by omega
  have e4 : (d : Int) % 18446744073709551616 = ((d : Nat) : Int) := by omega
  rw [e1, e2, e3, e4, join_nat 56, join_nat 48, join_nat 32] <;> omega

def rd64 (l : List Int) : Int := packI (l.getD 0 0) (l.getD 1 0) (l.getD 2 0 * 256 + l.getD 3 0) ((l.getD 4 0 * 256 + l.getD 5 0) * 65536 + (l.getD 6 0 * 256 + l.getD 7 0))

theorem two_bytes {x y : Int} (hx : isByte x) (hy : isByte y) : 0 ≤ x * 256 + y ∧ x * 256 + y ≤ 65535 := by
  obtain ⟨a, b⟩ := hx; obtain ⟨c, d⟩ := hy; omega
theorem four_bytes {x y z u : Int} (hx : isByte x) (hy : isByte y) (hz : isByte z) (hu : isByte u) : 0 ≤ (x * 256 + y) * 65536 + (z * 256 + u) ∧ (x * 256 + y) * 65536 + (z * 256 + u) ≤ 4294967295 := by
  obtain ⟨a, b⟩ := two_bytes hx hy; obtain ⟨c, d⟩ := two_bytes hz hu; omega
end Go.Proofs.Ytphakceboohbhaa
