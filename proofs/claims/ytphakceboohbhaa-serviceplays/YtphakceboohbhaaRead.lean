/- What is left to a reader; taking bytes off it; the numbers that two and four bytes make. -/
import Derived.Test.YtphakceboohbhaaWrite
import Derived.Deep.QuietTactic
import Derived.BigQuiet
import Derived.Deep.RegionWith
namespace Go.Proofs.Ytphakceboohbhaa
open Go.RowKit
set_option maxRecDepth 100000

theorem add_add (ad : Addr) (i j : Nat) : (ad.add i).add j = ad.add (i + j) := by
  unfold Addr.add
  by_cases hi : i = 0
  · subst hi; simp
  · by_cases hj : j = 0
    · subst hj; simp [hi]
    · simp [hi, hj, Nat.add_assoc]

theorem Kept.drewN {S : Nat → Prop} {a w : World} (h : Kept S a w) (n : Nat) : Kept S a (w.drewN n) := ⟨h.os, h.tape, h.output, h.size, h.block⟩

theorem or16 (x y : Int) (hx : isByte x) (hy : isByte y) : bits .or .u16 (IntKind.u16.wrap (IntKind.u16.wrap x * 256)) (IntKind.u16.wrap y) = x * 256 + y := by
  obtain ⟨x, rfl⟩ := Int.eq_ofNat_of_zero_le hx.1
  obtain ⟨y, rfl⟩ := Int.eq_ofNat_of_zero_le hy.1
  have hx' := hx.2
  have hy' := hy.2
  have hw : ∀ z : Int, IntKind.u16.wrap z = z % 65536 := fun z => by simp [IntKind.wrap, IntKind.signed, IntKind.bits]
  rw [hw, hw, hw]
  have e1 : ((x : Int) % 65536 * 256) % 65536 = ((x * 256 : Nat) : Int) := by omega
  have e2 : (y : Int) % 65536 = ((y : Nat) : Int) := by omega
  rw [e1, e2, u16_or_nat _ _ (by omega) (by omega), nat_join 8 _ _ (by omega) (by omega)]
  omega

theorem or32 (x y : Int) (hx : 0 ≤ x ∧ x ≤ 65535) (hy : 0 ≤ y ∧ y ≤ 65535) : bits .or .u32 (IntKind.u32.wrap (IntKind.u32.wrap x * 65536)) (IntKind.u32.wrap y) = x * 65536 + y := by
  obtain ⟨x, rfl⟩ := Int.eq_ofNat_of_zero_le hx.1
  obtain ⟨y, rfl⟩ := Int.eq_ofNat_of_zero_le hy.1
  have hx' := hx.2
  have hy' := hy.2
  have hw : ∀ z : Int, IntKind.u32.wrap z = z % 4294967296 := fun z => by simp [IntKind.wrap, IntKind.signed, IntKind.bits]
  rw [hw, hw, hw]
  have e1 : ((x : Int) % 4294967296 * 65536) % 4294967296 = ((x * 65536 : Nat) : Int) := by omega
  have e2 : (y : Int) % 4294967296 = ((y : Nat) : Int) := by omega
  rw [e1, e2, u32_or_nat _ _ (by omega) (by omega), nat_join 16 _ _ (by omega) (by omega)]
  omega

theorem bytes_at {w : World} {ao : Option Addr} {l : List Int} (h : Bytes w ao l) (hl : 0 < l.length) : ∃ g off, ao = some ⟨g, off, none⟩ ∧ ∀ i, i < l.length → w.cell? ⟨g, off + i, none⟩ = some (.int .u8 (l.getD i 0)) := by
  obtain ⟨ad, rfl, hc⟩ := h 0 hl
  obtain ⟨g, off, spot⟩ := ad
  have hs : spot = none := by
    cases spot with
    | none => rfl
    | some s =>
      exfalso
      simp only [Addr.add, if_true, World.cell?] at hc
      split at hc <;> simp at hc
  subst hs
  refine ⟨g, off, rfl, fun i hi => ?_⟩
  obtain ⟨ad', e, hc'⟩ := h i hi
  injection e with e; subst e
  rw [← hc']
  congr 1
  unfold Addr.add
  split
  · subst_vars; simp
  · rfl

theorem ret_int {k : IntKind} {a b : Int} (h : a = b) : Ending.returned (.int k a) = .returned (.int k b) := by rw [h]
end Go.Proofs.Ytphakceboohbhaa
