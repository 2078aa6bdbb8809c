/- What each function of package wire that reads returns: the numbers of the bytes, or the error, and what is left then. -/
import Derived.Test.YtfbcjigekmgbnaaRead
namespace Go.Proofs.Ytfbcjigekmgbnaa
open Go.RowKit
set_option maxRecDepth 100000

def rd16 (l : List Int) : Int := l.getD 0 0 * 256 + l.getD 1 0
def rd32 (l : List Int) : Int := (l.getD 0 0 * 256 + l.getD 1 0) * 65536 + (l.getD 2 0 * 256 + l.getD 3 0)

set_option maxHeartbeats 1600000 in
theorem open_any (w : World) (ao : Option Addr) (cap : Nat) (l : List Int) (hb : Bytes w ao l) (hnone : ao = none → l = [] ∧ cap = 0) (hl : l.length ≤ 1000000) (hby : ∀ x ∈ l, isByte x) :
    Calls Try.prog 53 #[.slice ao l.length cap] w fun e w' => ∃ R, e = .returned (.pointer (some ⟨R, 0, none⟩)) ∧ w.heap.size ≤ R ∧ Rd w' R l ∧ Below w.heap.size w w' := by
  have C := Lib.hid (clone_any w ao cap l hb hnone hl)
  have HY := Lib.hid hby
  clear hb hnone hby
  generalize hm : l.length = m at *
  have HM := Lib.hid hm
  clear hm
  go_enter Try.func53, Try.ntmps53
  go_wp2_with fail
  refine C.out.mono ?_
  rintro e w' ⟨ao', c', rfl, hn, hk⟩
  have HN := Lib.hid hn
  have HK := Lib.hid hk
  clear hn hk
  go_wp2_with fail
  go_ret
  have hle := HK.out.size
  refine ⟨w'.heap.size, rfl, hle, ?_, HK.out.alloc hle _⟩
  obtain ⟨ho, hfr⟩ := HN.out
  have hM := HM.out
  subst hM
  have ho2 := ho
  obtain ⟨ao2, c2, e2, hno⟩ := own_form ho2
  injection e2 with e3 e4 e5
  subst e3 e5
  refine ⟨ao', c', heap_alloc_new _ _, own_bytes (ho.alloc _), ?_, fun e => (hno e).2, ?_, HY.out⟩
  · rcases ho.2 with ⟨_, h0⟩ | ⟨g, c3, cur, hv, _, _, h1, _⟩
    · omega
    · injection hv with _ _ hv; omega
  · intro ad e _
    subst e
    have := own_lt ho (g := ad.block) rfl
    omega

set_option maxHeartbeats 1600000 in
theorem left_any (w : World) (R : Nat) (l : List Int) (h : Rd w R l) :
    Calls Try.prog 54 #[.pointer (some ⟨R, 0, none⟩)] w fun e w' => e = .returned (.int .i64 l.length) ∧ w = w' := by
  obtain ⟨ao, cap, hb, _⟩ := h
  have hc := cell_of_one hb
  clear hb
  generalize l.length = m at *
  go_enter Try.func54, Try.ntmps54
  go_wp2
  go_ret
  exact ⟨rfl, rfl⟩

theorem getD_take (l : List Int) (n i : Nat) (h : i < n) : (l.take n).getD i 0 = l.getD i 0 := by
  simp [List.getD_eq_getElem?_getD, h]

set_option maxHeartbeats 1600000 in
theorem r8_short (w : World) (R : Nat) (l : List Int) (h : Rd w R l) (hl : l.length < 1) :
    Calls Try.prog 55 #[.pointer (some ⟨R, 0, none⟩)] w fun e w' => e = .returned (.tuple #[.int .u8 0, .int .i64 20]) ∧ w = w' := by
  obtain ⟨ao, cap, hb, _⟩ := h
  have hc := cell_of_one hb
  clear hb
  generalize l.length = m at *
  go_enter Try.func55, Try.ntmps55
  go_wp2
  exact bodyPost_ret (v := .tuple #[.int .u8 0, .int .i64 20]) (by simp [results, Try.results55, go_sem]) rfl ⟨rfl, rfl⟩

set_option maxHeartbeats 1600000 in
theorem r16_short (w : World) (R : Nat) (l : List Int) (h : Rd w R l) (hl : l.length < 2) :
    Calls Try.prog 57 #[.pointer (some ⟨R, 0, none⟩)] w fun e w' => e = .returned (.tuple #[.int .u16 0, .int .i64 20]) ∧ w = w' := by
  obtain ⟨ao, cap, hb, _⟩ := h
  have hc := cell_of_one hb
  clear hb
  generalize l.length = m at *
  go_enter Try.func57, Try.ntmps57
  go_wp2
  exact bodyPost_ret (v := .tuple #[.int .u16 0, .int .i64 20]) (by simp [results, Try.results57, go_sem]) rfl ⟨rfl, rfl⟩

set_option maxHeartbeats 1600000 in
theorem r32_short (w : World) (R : Nat) (l : List Int) (h : Rd w R l) (hl : l.length < 4) :
    Calls Try.prog 56 #[.pointer (some ⟨R, 0, none⟩)] w fun e w' => e = .returned (.tuple #[.int .u32 0, .int .i64 20]) ∧ w = w' := by
  obtain ⟨ao, cap, hb, _⟩ := h
  have hc := cell_of_one hb
  clear hb
  generalize l.length = m at *
  go_enter Try.func56, Try.ntmps56
  go_wp2
  exact bodyPost_ret (v := .tuple #[.int .u32 0, .int .i64 20]) (by simp [results, Try.results56, go_sem]) rfl ⟨rfl, rfl⟩

set_option maxHeartbeats 1600000 in
theorem r8_any (w : World) (R : Nat) (l : List Int) (h : Rd w R l) (h1 : 1 ≤ l.length) (hl : l.length ≤ 1000000) :
    Calls Try.prog 55 #[.pointer (some ⟨R, 0, none⟩)] w fun e w' => e = .returned (.tuple #[.int .u8 (l.getD 0 0), .int .i64 0]) ∧ Rd w' R (l.drop 1) ∧ Kept (fun k => k = R) w w' := by
  have T := Lib.hid (take_any w R l 1 h h1 hl)
  obtain ⟨x0, hx0⟩ : ∃ x, x = l.getD 0 0 := ⟨_, rfl⟩
  have y0 : isByte x0 := by rw [hx0]; exact h.byte 0 (by omega)
  have HX0 := Lib.hid hx0
  clear hx0
  obtain ⟨ao, cap, hb, _⟩ := h
  have hc := cell_of_one hb
  clear hb
  generalize hm : l.length = m at *
  have HM := Lib.hid hm
  clear hm
  go_enter Try.func55, Try.ntmps55
  go_wp2_with fail
  refine T.out.mono ?_
  rintro e w' ⟨ao', c', rfl, hc1, hB, hnn, hR, hK⟩
  obtain ⟨g, off, rfl, hcell⟩ := bytes_at hB (by rw [List.length_take, HM.out]; omega)
  have c0 := hcell 0 (by rw [List.length_take, HM.out]; omega)
  rw [getD_take l 1 0 (by omega), ← HX0.out, Nat.add_zero] at c0
  have HR := Lib.hid hR
  have HK := Lib.hid hK
  clear hB hnn hR hK hcell
  go_wp2_with fail
  exact bodyPost_ret (v := .tuple #[.int .u8 x0, .int .i64 0]) (by simp [results, Try.results55, go_sem]) rfl ⟨by rw [HX0.out], HR.out, HK.out⟩

set_option maxHeartbeats 1600000 in
theorem r16_any (w : World) (R : Nat) (l : List Int) (h : Rd w R l) (h1 : 2 ≤ l.length) (hl : l.length ≤ 1000000) :
    Calls Try.prog 57 #[.pointer (some ⟨R, 0, none⟩)] w fun e w' => e = .returned (.tuple #[.int .u16 (rd16 l), .int .i64 0]) ∧ Rd w' R (l.drop 2) ∧ Kept (fun k => k = R) w w' := by
  have T := Lib.hid (take_any w R l 2 h h1 hl)
  obtain ⟨x0, hx0⟩ : ∃ x, x = l.getD 0 0 := ⟨_, rfl⟩
  have y0 : isByte x0 := by rw [hx0]; exact h.byte 0 (by omega)
  obtain ⟨x1, hx1⟩ : ∃ x, x = l.getD 1 0 := ⟨_, rfl⟩
  have y1 : isByte x1 := by rw [hx1]; exact h.byte 1 (by omega)
  have HX0 := Lib.hid hx0
  have HX1 := Lib.hid hx1
  clear hx0 hx1
  obtain ⟨ao, cap, hb, _⟩ := h
  have hc := cell_of_one hb
  clear hb
  generalize hm : l.length = m at *
  have HM := Lib.hid hm
  clear hm
  go_enter Try.func57, Try.ntmps57
  go_wp2_with fail
  refine T.out.mono ?_
  rintro e w' ⟨ao', c', rfl, hc1, hB, hnn, hR, hK⟩
  obtain ⟨g, off, rfl, hcell⟩ := bytes_at hB (by rw [List.length_take, HM.out]; omega)
  have c0 := hcell 0 (by rw [List.length_take, HM.out]; omega)
  rw [getD_take l 2 0 (by omega), ← HX0.out, Nat.add_zero] at c0
  have c1 := hcell 1 (by rw [List.length_take, HM.out]; omega)
  rw [getD_take l 2 1 (by omega), ← HX1.out] at c1
  have HR := Lib.hid hR
  have HK := Lib.hid hK
  clear hB hnn hR hK hcell
  have J := Lib.hid (join16_any w' g off 2 c' x0 x1 (by omega) y0 y1 c0 c1)
  go_wp2_with fail
  refine J.out.mono ?_
  rintro e w2 ⟨rfl, n, rfl⟩
  go_wp2_with fail
  exact bodyPost_ret (v := .tuple #[.int .u16 (x0 * 256 + x1), .int .i64 0]) (by simp [results, Try.results57, go_sem]) rfl ⟨by rw [HX0.out, HX1.out]; rfl, HR.out.drewN n, HK.out.drewN n⟩

set_option maxHeartbeats 1600000 in
theorem r32_any (w : World) (R : Nat) (l : List Int) (h : Rd w R l) (h1 : 4 ≤ l.length) (hl : l.length ≤ 1000000) :
    Calls Try.prog 56 #[.pointer (some ⟨R, 0, none⟩)] w fun e w' => e = .returned (.tuple #[.int .u32 (rd32 l), .int .i64 0]) ∧ Rd w' R (l.drop 4) ∧ Kept (fun k => k = R) w w' := by
  have T := Lib.hid (take_any w R l 4 h h1 hl)
  obtain ⟨x0, hx0⟩ : ∃ x, x = l.getD 0 0 := ⟨_, rfl⟩
  have y0 : isByte x0 := by rw [hx0]; exact h.byte 0 (by omega)
  obtain ⟨x1, hx1⟩ : ∃ x, x = l.getD 1 0 := ⟨_, rfl⟩
  have y1 : isByte x1 := by rw [hx1]; exact h.byte 1 (by omega)
  obtain ⟨x2, hx2⟩ : ∃ x, x = l.getD 2 0 := ⟨_, rfl⟩
  have y2 : isByte x2 := by rw [hx2]; exact h.byte 2 (by omega)
  obtain ⟨x3, hx3⟩ : ∃ x, x = l.getD 3 0 := ⟨_, rfl⟩
  have y3 : isByte x3 := by rw [hx3]; exact h.byte 3 (by omega)
  have HX0 := Lib.hid hx0
  have HX1 := Lib.hid hx1
  have HX2 := Lib.hid hx2
  have HX3 := Lib.hid hx3
  clear hx0 hx1 hx2 hx3
  obtain ⟨ao, cap, hb, _⟩ := h
  have hc := cell_of_one hb
  clear hb
  generalize hm : l.length = m at *
  have HM := Lib.hid hm
  clear hm
  go_enter Try.func56, Try.ntmps56
  go_wp2_with fail
  refine T.out.mono ?_
  rintro e w' ⟨ao', c', rfl, hc1, hB, hnn, hR, hK⟩
  obtain ⟨g, off, rfl, hcell⟩ := bytes_at hB (by rw [List.length_take, HM.out]; omega)
  have c0 := hcell 0 (by rw [List.length_take, HM.out]; omega)
  rw [getD_take l 4 0 (by omega), ← HX0.out, Nat.add_zero] at c0
  have c1 := hcell 1 (by rw [List.length_take, HM.out]; omega)
  rw [getD_take l 4 1 (by omega), ← HX1.out] at c1
  have c2 := hcell 2 (by rw [List.length_take, HM.out]; omega)
  rw [getD_take l 4 2 (by omega), ← HX2.out] at c2
  have c3 := hcell 3 (by rw [List.length_take, HM.out]; omega)
  rw [getD_take l 4 3 (by omega), ← HX3.out] at c3
  have HR := Lib.hid hR
  have HK := Lib.hid hK
  clear hB hnn hR hK hcell
  have J := Lib.hid (join32_any w' g off 4 c' x0 x1 x2 x3 (by omega) hc1 y0 y1 y2 y3 c0 c1 c2 c3)
  go_wp2_with fail
  refine J.out.mono ?_
  rintro e w2 ⟨rfl, n, rfl⟩
  go_wp2_with fail
  exact bodyPost_ret (v := .tuple #[.int .u32 ((x0 * 256 + x1) * 65536 + (x2 * 256 + x3)), .int .i64 0]) (by simp [results, Try.results56, go_sem]) rfl ⟨by rw [HX0.out, HX1.out, HX2.out, HX3.out]; rfl, HR.out.drewN n, HK.out.drewN n⟩

def packRaw (a b c d : Int) : Int :=
  bits BinOp.or IntKind.u64
    (bits BinOp.or IntKind.u64
      (bits BinOp.or IntKind.u64 (IntKind.u64.wrap (IntKind.u64.wrap a * 72057594037927936))
        (IntKind.u64.wrap (IntKind.u64.wrap b * 281474976710656)))
      (IntKind.u64.wrap (IntKind.u64.wrap c * 4294967296)))
    (IntKind.u64.wrap d)
def packI (a b c d : Int) : Int := a * 72057594037927936 + b * 281474976710656 + c * 4294967296 + d

theorem join_nat (i x y : Nat) (hx : x % 2 ^ i = 0) (hy : y < 2 ^ i) (hx' : x < 18446744073709551616) (hy' : y < 18446744073709551616) :
    bits .or .u64 (x : Int) (y : Int) = ((x + y : Nat) : Int) := by
  rw [u64_or_nat x y hx' hy', nat_join i x y hx hy]

theorem pack_eq (a b c d : Int) (ha : 0 ≤ a ∧ a ≤ 255) (hb : 0 ≤ b ∧ b ≤ 255) (hc : 0 ≤ c ∧ c ≤ 65535) (hd : 0 ≤ d ∧ d ≤ 4294967295) : packRaw a b c d = packI a b c d := by
  obtain ⟨a, rfl⟩ := Int.eq_ofNat_of_zero_le ha.1
  obtain ⟨b, rfl⟩ := Int.eq_ofNat_of_zero_le hb.1
  obtain ⟨c, rfl⟩ := Int.eq_ofNat_of_zero_le hc.1
  obtain ⟨d, rfl⟩ := Int.eq_ofNat_of_zero_le hd.1
  unfold packRaw packI
  simp only [IntKind.wrap_u64]
  have e1 : ((a : Int) % 18446744073709551616 * 72057594037927936) % 18446744073709551616 = ((a * 72057594037927936 : Nat) : Int) := by omega
  have e2 : ((b : Int) % 18446744073709551616 * 281474976710656) % 18446744073709551616 = ((b * 281474976710656 : Nat) : Int) := by omega
  have e3 : ((c : Int) % 18446744073709551616 * 4294967296) % 18446744073709551616 = ((c * 4294967296 : Nat) : Int) := by omega
  have e4 : (d : Int) % 18446744073709551616 = ((d : Nat) : Int) := by omega
  rw [e1, e2, e3, e4, join_nat 56, join_nat 48, join_nat 32] <;> omega

def rd64 (l : List Int) : Int := packI (l.getD 0 0) (l.getD 1 0) (l.getD 2 0 * 256 + l.getD 3 0) ((l.getD 4 0 * 256 + l.getD 5 0) * 65536 + (l.getD 6 0 * 256 + l.getD 7 0))

theorem two_bytes {x y : Int} (hx : isByte x) (hy : isByte y) : 0 ≤ x * 256 + y ∧ x * 256 + y ≤ 65535 := by
  obtain ⟨a, b⟩ := hx; obtain ⟨c, d⟩ := hy; omega
theorem four_bytes {x y z u : Int} (hx : isByte x) (hy : isByte y) (hz : isByte z) (hu : isByte u) : 0 ≤ (x * 256 + y) * 65536 + (z * 256 + u) ∧ (x * 256 + y) * 65536 + (z * 256 + u) ≤ 4294967295 := by
  obtain ⟨a, b⟩ := two_bytes hx hy; obtain ⟨c, d⟩ := two_bytes hz hu; omega
end Go.Proofs.Ytfbcjigekmgbnaa
