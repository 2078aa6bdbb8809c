/- What is left to a reader; taking bytes off it; the numbers that two and four bytes make. -/
import Derived.Test.YtfbcjigekmgbnaaWrite
import Derived.Deep.QuietTactic
import Derived.BigQuiet
import Derived.Deep.RegionWith
namespace Go.Proofs.Ytfbcjigekmgbnaa
open Go.RowKit
set_option maxRecDepth 100000

/-- at block R lies a reader that has the bytes l left -/
def Rd (w : World) (R : Nat) (l : List Int) : Prop :=
  ∃ ao cap, w.heap[R]? = some (.cells #[.slice ao l.length cap] 98 (0, 0)) ∧ Bytes w ao l ∧ l.length ≤ cap ∧ (ao = none → cap = 0) ∧ (∀ ad, ao = some ad → 0 < l.length → ad.block ≠ R) ∧ ∀ x ∈ l, isByte x

theorem add_add (ad : Addr) (i j : Nat) : (ad.add i).add j = ad.add (i + j) := by
  unfold Addr.add
  by_cases hi : i = 0
  · subst hi; simp
  · by_cases hj : j = 0
    · subst hj; simp [hi]
    · simp [hi, hj, Nat.add_assoc]

/-- what is left behind the first n bytes -/
theorem rd_drop {w : World} {R : Nat} {l : List Int} {ad : Addr} {cap n : Nat} (hb : w.heap[R]? = some (.cells #[.slice (some ad) l.length cap] 98 (0, 0))) (hB : Bytes w (some ad) l) (hcap : l.length ≤ cap)
    (hne : 0 < l.length → ad.block ≠ R) (hby : ∀ x ∈ l, isByte x) (hn : n ≤ l.length) :
    Rd (w.setCell ⟨R, 0, none⟩ (.slice (some (if cap = n then ad else ad.add n)) (l.length - n) (cap - n))) R (l.drop n) := by
  refine ⟨some (if cap = n then ad else ad.add n), cap - n, ?_, ?_, by simp; omega, (fun h => by cases h), ?_, fun x hx => hby x (List.mem_of_mem_drop hx)⟩
  · rw [List.length_drop]; exact one_setCell hb
  · intro i hi
    rw [List.length_drop] at hi
    have hc : ¬ cap = n := by omega
    refine ⟨_, rfl, ?_⟩
    rw [if_neg hc, add_add]
    obtain ⟨ad', e, h⟩ := hB (n + i) (by omega)
    injection e with e; subst e
    have hne' := hne (by omega)
    rw [World.cell?_of_block (w := w) (Below.heap_setCell _ _ _ _ (by rw [add_block]; exact hne')), h]
    simp [List.getD_eq_getElem?_getD]
  · intro a e hpos
    rw [List.length_drop] at hpos
    injection e with e
    rw [if_neg (by omega)] at e
    rw [← e, add_block]
    exact hne (by omega)

set_option maxHeartbeats 1600000 in
theorem take_raw (w : World) (R : Nat) (ad : Addr) (m cap n : Nat) (hb : w.heap[R]? = some (.cells #[.slice (some ad) m cap] 98 (0, 0))) (hn : n ≤ m) (hm : m ≤ cap) (_hm2 : m ≤ 1000000) :
    Calls Try.prog 59 #[.pointer (some ⟨R, 0, none⟩), .int .i64 n] w fun e w' => e = .returned (.slice (some ad) n cap) ∧ w.setCell ⟨R, 0, none⟩ (.slice (some (if cap = n then ad else ad.add n)) (m - n) (cap - n)) = w' := by
  have hc := cell_of_one hb
  have hf := free_of_one hb
  clear hb
  go_enter Try.func59, Try.ntmps59
  go_wp2
  · go_ret
    exact ⟨rfl, by simp⟩
  · go_ret
    exact ⟨rfl, rfl⟩

set_option maxHeartbeats 1600000 in
theorem take_none (w : World) (R : Nat) (hb : w.heap[R]? = some (.cells #[.slice none 0 0] 98 (0, 0))) :
    Calls Try.prog 59 #[.pointer (some ⟨R, 0, none⟩), .int .i64 0] w fun e w' => e = .returned (.slice none 0 0) ∧ w.setCell ⟨R, 0, none⟩ (.slice none 0 0) = w' := by
  have hc := cell_of_one hb
  have hf := free_of_one hb
  clear hb
  go_enter Try.func59, Try.ntmps59
  go_wp2
  go_ret
  exact ⟨rfl, rfl⟩

theorem take_any (w : World) (R : Nat) (l : List Int) (n : Nat) (h : Rd w R l) (hn : n ≤ l.length) (hl : l.length ≤ 1000000) :
    Calls Try.prog 59 #[.pointer (some ⟨R, 0, none⟩), .int .i64 n] w fun e w' => ∃ ao c, e = .returned (.slice ao n c) ∧ n ≤ c ∧ Bytes w' ao (l.take n) ∧ (ao = none → c = 0) ∧ Rd w' R (l.drop n) ∧ Kept (fun k => k = R) w w' := by
  obtain ⟨ao, cap, hb, hB, hcap, hnone, hne, hby⟩ := h
  cases ao with
  | none =>
    obtain rfl := hnone rfl
    obtain rfl : l = [] := List.eq_nil_of_length_eq_zero (by omega)
    obtain rfl : n = 0 := by simpa using hn
    refine (take_none w R hb).mono ?_
    rintro e w' ⟨rfl, rfl⟩
    exact ⟨none, 0, rfl, Nat.le_refl _, fun i h => by simp at h, fun _ => rfl, ⟨none, 0, one_setCell hb, fun i h => by simp at h, Nat.le_refl _, fun _ => rfl, fun _ _ h => by simp at h, fun x hx => by simp at hx⟩, (Kept.refl _ w).setCell _ _ (fun _ => rfl)⟩
  | some ad =>
    refine (take_raw w R ad l.length cap n hb hn hcap hl).mono ?_
    rintro e w' ⟨rfl, rfl⟩
    refine ⟨some ad, cap, rfl, by omega, ?_, fun h => by (cases h), rd_drop hb hB hcap (hne ad rfl) hby hn, (Kept.refl _ w).setCell _ _ (fun _ => rfl)⟩
    intro i hi
    simp only [List.length_take] at hi
    obtain ⟨ad', e, h⟩ := hB i (by omega)
    injection e with e; subst e
    refine ⟨_, rfl, ?_⟩
    rw [World.cell?_of_block (w := w) (Below.heap_setCell _ _ _ _ (by rw [add_block]; exact hne ad rfl (by omega))), h]
    simp [List.getD_eq_getElem?_getD, show i < n from by omega]

theorem Kept.drewN {S : Nat → Prop} {a w : World} (h : Kept S a w) (n : Nat) : Kept S a (w.drewN n) := ⟨h.os, h.tape, h.output, h.size, h.block⟩

theorem Rd.kept {S : Nat → Prop} {w w' : World} {R : Nat} {l : List Int} (h : Rd w R l) (hk : Kept S w w') (hS : ∀ k, k < w.heap.size → ¬ S k) : Rd w' R l := by
  obtain ⟨ao, cap, hb, hB, hcap, hnone, hne, hby⟩ := h
  refine ⟨ao, cap, ?_, bytes_kept hB hk (fun ad e hpos => hS _ (by subst e; exact bytes_lt hB hpos)), hcap, hnone, hne, hby⟩
  rw [hk.block R (lt_of_block hb) (hS R (lt_of_block hb))]; exact hb

theorem Rd.below {w w' : World} {R : Nat} {l : List Int} (h : Rd w R l) (hk : Below w.heap.size w w') : Rd w' R l :=
  h.kept (Kept.ofBelow (S := fun _ => False) hk) (fun _ _ h => h)

theorem Rd.drewN {w : World} {R : Nat} {l : List Int} (h : Rd w R l) (n : Nat) : Rd (w.drewN n) R l :=
  h.kept ((Kept.refl (fun _ => False) w).drewN n) (fun _ _ h => h)

theorem Rd.lt {w : World} {R : Nat} {l : List Int} (h : Rd w R l) : R < w.heap.size := by
  obtain ⟨ao, cap, hb, _⟩ := h
  exact lt_of_block hb

theorem Rd.byte {w : World} {R : Nat} {l : List Int} (h : Rd w R l) (i : Nat) (hi : i < l.length) : isByte (l.getD i 0) := by
  obtain ⟨ao, cap, _, _, _, _, _, hby⟩ := h
  rw [List.getD_eq_getElem?_getD, List.getElem?_eq_getElem hi]
  exact hby _ (List.getElem_mem hi)

theorem or16 (x y : Int) (hx : isByte x) (hy : isByte y) : bits .or .u16 (IntKind.u16.wrap (IntKind.u16.wrap x * 256)) (IntKind.u16.wrap y) = x * 256 + y := by
  obtain ⟨x, rfl⟩ := Int.eq_ofNat_of_zero_le hx.1
  obtain ⟨y, rfl⟩ := Int.eq_ofNat_of_zero_le hy.1
  have hx' := hx.2
  have hy' := hy.2
  have hw : ∀ z : Int, IntKind.u16.wrap z = z % 65536 := fun z => by simp [IntKind.wrap, IntKind.signed, IntKind.bits]
  rw [hw, hw, hw]
  have e1 : ((x : Int) % 65536 * 256) % 65536 = ((x * 256 : Nat) : Int) := by omega
  have e2 : (y : Int) % 65536 = ((y : Nat) : Int) := by omega
  rw [e1, e2, u16_or_nat _ _ (by omega) (by omega), nat_join 8 _ _ (by omega) (by omega)]
  omega

theorem or32 (x y : Int) (hx : 0 ≤ x ∧ x ≤ 65535) (hy : 0 ≤ y ∧ y ≤ 65535) : bits .or .u32 (IntKind.u32.wrap (IntKind.u32.wrap x * 65536)) (IntKind.u32.wrap y) = x * 65536 + y := by
  obtain ⟨x, rfl⟩ := Int.eq_ofNat_of_zero_le hx.1
  obtain ⟨y, rfl⟩ := Int.eq_ofNat_of_zero_le hy.1
  have hx' := hx.2
  have hy' := hy.2
  have hw : ∀ z : Int, IntKind.u32.wrap z = z % 4294967296 := fun z => by simp [IntKind.wrap, IntKind.signed, IntKind.bits]
  rw [hw, hw, hw]
  have e1 : ((x : Int) % 4294967296 * 65536) % 4294967296 = ((x * 65536 : Nat) : Int) := by omega
  have e2 : (y : Int) % 4294967296 = ((y : Nat) : Int) := by omega
  rw [e1, e2, u32_or_nat _ _ (by omega) (by omega), nat_join 16 _ _ (by omega) (by omega)]
  omega

theorem bytes_at {w : World} {ao : Option Addr} {l : List Int} (h : Bytes w ao l) (hl : 0 < l.length) : ∃ g off, ao = some ⟨g, off, none⟩ ∧ ∀ i, i < l.length → w.cell? ⟨g, off + i, none⟩ = some (.int .u8 (l.getD i 0)) := by
  obtain ⟨ad, rfl, hc⟩ := h 0 hl
  obtain ⟨g, off, spot⟩ := ad
  have hs : spot = none := by
    cases spot with
    | none => rfl
    | some s =>
      exfalso
      simp only [Addr.add, if_true, World.cell?] at hc
      split at hc <;> simp at hc
  subst hs
  refine ⟨g, off, rfl, fun i hi => ?_⟩
  obtain ⟨ad', e, hc'⟩ := h i hi
  injection e with e; subst e
  rw [← hc']
  congr 1
  unfold Addr.add
  split
  · subst_vars; simp
  · rfl

theorem ret_int {k : IntKind} {a b : Int} (h : a = b) : Ending.returned (.int k a) = .returned (.int k b) := by rw [h]

set_option maxHeartbeats 1600000 in
theorem join16_raw (w : World) (g off : Nat) (m cap : Nat) (x y : Int) (hm : (1 : Int) < m) (hm0 : 0 < m) (h0 : w.cell? ⟨g, off, none⟩ = some (.int .u8 x)) (h1 : w.cell? ⟨g, off + 1, none⟩ = some (.int .u8 y)) :
    Calls Try.prog 61 #[.slice (some ⟨g, off, none⟩) m cap] w fun e w' => e = .returned (.int .u16 (bits .or .u16 (IntKind.u16.wrap (IntKind.u16.wrap x * 256)) (IntKind.u16.wrap y))) ∧ ∃ n, w' = w.drewN n := by
  go_enter Try.func61, Try.ntmps61
  go_wp2_with fail
  go_quiet (fail)
  go_wp2
  go_ret
  exact ⟨rfl, _, rfl⟩

theorem join16_any (w : World) (g off : Nat) (m cap : Nat) (x y : Int) (hm : 2 ≤ m) (hx : isByte x) (hy : isByte y) (h0 : w.cell? ⟨g, off, none⟩ = some (.int .u8 x)) (h1 : w.cell? ⟨g, off + 1, none⟩ = some (.int .u8 y)) :
    Calls Try.prog 61 #[.slice (some ⟨g, off, none⟩) m cap] w fun e w' => e = .returned (.int .u16 (x * 256 + y)) ∧ ∃ n, w' = w.drewN n := by
  rw [← or16 x y hx hy]
  exact join16_raw w g off m cap x y (by omega) (by omega) h0 h1

set_option maxHeartbeats 1600000 in
theorem join32_raw (w : World) (g off : Nat) (m cap : Nat) (x y z u : Int) (hm : (2 : Int) ≤ m) (hm4 : 4 ≤ m) (hmc : m ≤ cap) (hx : isByte x) (hy : isByte y) (hz : isByte z) (hu : isByte u) (h0 : w.cell? ⟨g, off, none⟩ = some (.int .u8 x)) (h1 : w.cell? ⟨g, off + 1, none⟩ = some (.int .u8 y))
    (h2 : w.cell? ⟨g, off + 2, none⟩ = some (.int .u8 z)) (h3 : w.cell? ⟨g, off + 3, none⟩ = some (.int .u8 u)) :
    Calls Try.prog 60 #[.slice (some ⟨g, off, none⟩) m cap] w fun e w' => e = .returned (.int .u32 (bits .or .u32 (IntKind.u32.wrap (IntKind.u32.wrap (x * 256 + y) * 65536)) (IntKind.u32.wrap (z * 256 + u)))) ∧ ∃ n, w' = w.drewN n := by
  have hcap : ¬ cap = 2 := by omega
  go_enter Try.func60, Try.ntmps60
  go_wp2_with fail
  go_quiet (first
    | (go_at_call_of 61 (Value.slice (some (Addr.mk g off none)) m cap); refine Calls.quiet_of (join16_any _ g off m cap x y (by omega) hx hy ?_ ?_) <;> simpa)
    | (go_at_call 61; refine Calls.quiet_of (join16_any _ g (off + 2) (m - 2) (cap - 2) z u (by omega) hz hu ?_ ?_) <;> simpa [Nat.add_assoc]))
  go_wp2
  go_ret
  exact ⟨rfl, _, rfl⟩

theorem join32_any (w : World) (g off : Nat) (m cap : Nat) (x y z u : Int) (hm : 4 ≤ m) (hmc : m ≤ cap) (hx : isByte x) (hy : isByte y) (hz : isByte z) (hu : isByte u) (h0 : w.cell? ⟨g, off, none⟩ = some (.int .u8 x)) (h1 : w.cell? ⟨g, off + 1, none⟩ = some (.int .u8 y))
    (h2 : w.cell? ⟨g, off + 2, none⟩ = some (.int .u8 z)) (h3 : w.cell? ⟨g, off + 3, none⟩ = some (.int .u8 u)) :
    Calls Try.prog 60 #[.slice (some ⟨g, off, none⟩) m cap] w fun e w' => e = .returned (.int .u32 ((x * 256 + y) * 65536 + (z * 256 + u))) ∧ ∃ n, w' = w.drewN n := by
  rw [← or32 (x * 256 + y) (z * 256 + u) (by obtain ⟨a, b⟩ := hx; obtain ⟨c, d⟩ := hy; omega) (by obtain ⟨a, b⟩ := hz; obtain ⟨c, d⟩ := hu; omega)]
  exact join32_raw w g off m cap x y z u (by omega) hm hmc hx hy hz hu h0 h1 h2 h3
end Go.Proofs.Ytfbcjigekmgbnaa
