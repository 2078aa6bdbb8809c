/- Readers once more: what they have left lies ahead of them in memory. A source in memory: a reader and the first fault; numbers that are read off it. Lists of a vote: whether each is one, and stands above the one ahead. Entries: whether one is one; which of two stands above. -/
import Derived.Test.YtbpfkeeikhhlnaaGreatDoorJ05
import Derived.Test.YtbpfkeeikhhlnaaGreatDoorJ02
import Derived.Deep.Cut
import Derived.Deep.QuietTactic
import Derived.BigQuiet
import Derived.Test.YtbpfkeeikhhlnaaGreatDoorJ03
import Derived.Laws.Cover1
namespace Go.Proofs.YtbpfkeeikhhlnaaGreatDoor
open Go.RowKit
set_option maxRecDepth 100000

/-- at block R lies a reader that has the bytes l left; they lie in an elder block -/
def Rb (w : World) (R : Nat) (l : List Int) : Prop :=
  ∃ ao cap, w.heap[R]? = some (.cells #[.slice ao l.length cap] 120 (0, 0)) ∧ Bytes w ao l ∧ l.length ≤ cap ∧ (ao = none → cap = 0) ∧ (∀ ad, ao = some ad → 0 < l.length → ad.block < R) ∧ ∀ x ∈ l, isByte x
theorem Rb.toRd {w : World} {R : Nat} {l : List Int} (h : Rb w R l) : Rd w R l := by
  obtain ⟨ao, cap, h1, h2, h3, h4, h5, h6⟩ := h
  exact ⟨ao, cap, h1, h2, h3, h4, fun ad e hp => Nat.ne_of_lt (h5 ad e hp), h6⟩
theorem Rd.up {w : World} {R : Nat} {l : List Int} {ao : Option Addr} {n cap : Nat} (h : Rd w R l) (hb : w.heap[R]? = some (.cells #[.slice ao n cap] 120 (0, 0))) (hlt : ∀ ad, ao = some ad → 0 < l.length → ad.block < R) : Rb w R l := by
  obtain ⟨ao', cap', h1, h2, h3, h4, h5, h6⟩ := h
  have e := h1
  rw [hb] at e
  simp at e
  obtain ⟨rfl, _, _⟩ := e
  exact ⟨ao, cap', h1, h2, h3, h4, hlt, h6⟩
theorem Rb.lt {w : World} {R : Nat} {l : List Int} (h : Rb w R l) : R < w.heap.size := h.toRd.lt
theorem Rb.byte {w : World} {R : Nat} {l : List Int} (h : Rb w R l) (i : Nat) (hi : i < l.length) : isByte (l.getD i 0) := h.toRd.byte i hi
theorem Rb.kept {S : Nat → Prop} {w w' : World} {R : Nat} {l : List Int} (h : Rb w R l) (hk : Kept S w w') (hS : ∀ k, k ≤ R → ¬ S k) : Rb w' R l := by
  obtain ⟨ao, cap, hb, hB, hcap, hnone, hne, hby⟩ := h
  refine ⟨ao, cap, ?_, bytes_kept hB hk (fun ad e hpos => hS _ (Nat.le_of_lt (hne ad e hpos))), hcap, hnone, hne, hby⟩
  rw [hk.block R (lt_of_block hb) (hS R (Nat.le_refl _))]; exact hb
theorem Rb.below {w w' : World} {R : Nat} {l : List Int} (h : Rb w R l) (hk : Below w.heap.size w w') : Rb w' R l := h.kept (Kept.ofBelow (S := fun _ => False) hk) (fun _ _ h => h)
theorem Rb.drewN {w : World} {R : Nat} {l : List Int} (h : Rb w R l) (n : Nat) : Rb (w.drewN n) R l := h.kept ((Kept.refl (fun _ => False) w).drewN n) (fun _ _ h => h)

theorem take_b (w : World) (R : Nat) (l : List Int) (n : Nat) (h : Rb w R l) (hn : n ≤ l.length) (hl : l.length ≤ 1000000) :
    Calls Tryz.prog 104 #[.pointer (some ⟨R, 0, none⟩), .int .i64 n] w fun e w' => ∃ ao c, e = .returned (.slice ao n c) ∧ n ≤ c ∧ Bytes w' ao (l.take n) ∧ (ao = none → c = 0) ∧ Rb w' R (l.drop n) ∧ Kept (fun k => k = R) w w' := by
  obtain ⟨ao, cap, hb, hB, hcap, hnone, hne, hby⟩ := h
  cases ao with
  | none =>
    obtain rfl := hnone rfl
    obtain rfl : l = [] := List.eq_nil_of_length_eq_zero (by omega)
    obtain rfl : n = 0 := by simpa using hn
    refine (take_none w R hb).mono ?_
    rintro e w' ⟨rfl, rfl⟩
    exact ⟨none, 0, rfl, Nat.le_refl _, fun i h => by simp at h, fun _ => rfl, ⟨none, 0, one_setCell hb, fun i h => by simp at h, Nat.le_refl _, fun _ => rfl, fun _ _ h => by simp at h, fun x hx => by simp at hx⟩, (Kept.refl _ w).setCell _ _ (fun _ => rfl)⟩
  | some ad =>
    refine (take_raw w R ad l.length cap n hb hn hcap hl).mono ?_
    rintro e w' ⟨rfl, rfl⟩
    refine ⟨some ad, cap, rfl, by omega, ?_, fun h => by (cases h), (rd_drop hb hB hcap (fun hp => Nat.ne_of_lt (hne ad rfl hp)) hby hn).up (one_setCell hb) ?_, (Kept.refl _ w).setCell _ _ (fun _ => rfl)⟩
    · intro i hi
      simp only [List.length_take] at hi
      obtain ⟨ad', e, h⟩ := hB i (by omega)
      injection e with e; subst e
      refine ⟨_, rfl, ?_⟩
      rw [World.cell?_of_block (w := w) (Below.heap_setCell _ _ _ _ (by rw [add_block]; exact Nat.ne_of_lt (hne ad rfl (by omega)))), h]
      simp [List.getD_eq_getElem?_getD, show i < n from by omega]
    · intro a e hpos
      rw [List.length_drop] at hpos
      injection e with e
      have hlt := hne ad rfl (by omega)
      rw [← e]
      split
      · exact hlt
      · rw [add_block]; exact hlt

set_option maxHeartbeats 1600000 in
theorem open_b (w : World) (ao : Option Addr) (cap : Nat) (l : List Int) (hb : Bytes w ao l) (hnone : ao = none → l = [] ∧ cap = 0) (hl : l.length ≤ 1000000) (hby : ∀ x ∈ l, isByte x) :
    Calls Tryz.prog 58 #[.slice ao l.length cap] w fun e w' => ∃ R, e = .returned (.pointer (some ⟨R, 0, none⟩)) ∧ w.heap.size ≤ R ∧ Rb w' R l ∧ Below w.heap.size w w' := by
  have C := Lib.hid (clone_any w ao cap l hb hnone hl)
  have HY := Lib.hid hby
  clear hb hnone hby
  generalize hm : l.length = m at *
  have HM := Lib.hid hm
  clear hm
  go_enter Tryz.func58, Tryz.ntmps58
  go_wp2_with fail
  refine C.out.mono ?_
  rintro e w' ⟨ao', c', rfl, hn, hk⟩
  have HN := Lib.hid hn
  have HK := Lib.hid hk
  clear hn hk
  go_wp2_with fail
  go_ret
  have hle := HK.out.size
  refine ⟨w'.heap.size, rfl, hle, ?_, HK.out.alloc hle _⟩
  obtain ⟨ho, hfr⟩ := HN.out
  have hM := HM.out
  subst hM
  have ho2 := ho
  obtain ⟨ao2, c2, e2, hno⟩ := own_form ho2
  injection e2 with e3 e4 e5
  subst e3 e5
  refine ⟨ao', c', heap_alloc_new _ _, own_bytes (ho.alloc _), ?_, fun e => (hno e).2, ?_, HY.out⟩
  · rcases ho.2 with ⟨_, h0⟩ | ⟨g, c3, cur, hv, _, _, h1, _⟩
    · omega
    · injection hv with _ _ hv; omega
  · intro ad e _
    subst e
    have := own_lt ho (g := ad.block) rfl
    omega

set_option maxHeartbeats 1600000 in
theorem r8_b (w : World) (R : Nat) (l : List Int) (h : Rb w R l) (h1 : 1 ≤ l.length) (hl : l.length ≤ 1000000) :
    Calls Tryz.prog 83 #[.pointer (some ⟨R, 0, none⟩)] w fun e w' => e = .returned (.tuple #[.int .u8 (l.getD 0 0), .int .i64 0]) ∧ Rb w' R (l.drop 1) ∧ Kept (fun k => k = R) w w' := by
  have T := Lib.hid (take_b w R l 1 h h1 hl)
  obtain ⟨x0, hx0⟩ : ∃ x, x = l.getD 0 0 := ⟨_, rfl⟩
  have y0 : isByte x0 := by rw [hx0]; exact h.byte 0 (by omega)
  have HX0 := Lib.hid hx0
  clear hx0
  obtain ⟨ao, cap, hb, _⟩ := h
  have hc := cell_of_one hb
  clear hb
  generalize hm : l.length = m at *
  have HM := Lib.hid hm
  clear hm
  go_enter Tryz.func83, Tryz.ntmps83
  go_wp2_with fail
  refine T.out.mono ?_
  rintro e w' ⟨ao', c', rfl, hc1, hB, hnn, hR, hK⟩
  obtain ⟨g, off, rfl, hcell⟩ := bytes_at hB (by rw [List.length_take, HM.out]; omega)
  have c0 := hcell 0 (by rw [List.length_take, HM.out]; omega)
  rw [getD_take l 1 0 (by omega), ← HX0.out, Nat.add_zero] at c0
  have HR := Lib.hid hR
  have HK := Lib.hid hK
  clear hB hnn hR hK hcell
  go_wp2_with fail
  exact bodyPost_ret (v := .tuple #[.int .u8 x0, .int .i64 0]) (by simp [results, Tryz.results83, go_sem]) rfl ⟨by rw [HX0.out], HR.out, HK.out⟩

set_option maxHeartbeats 1600000 in
theorem r16_b (w : World) (R : Nat) (l : List Int) (h : Rb w R l) (h1 : 2 ≤ l.length) (hl : l.length ≤ 1000000) :
    Calls Tryz.prog 123 #[.pointer (some ⟨R, 0, none⟩)] w fun e w' => e = .returned (.tuple #[.int .u16 (rd16 l), .int .i64 0]) ∧ Rb w' R (l.drop 2) ∧ Kept (fun k => k = R) w w' := by
  have T := Lib.hid (take_b w R l 2 h h1 hl)
  obtain ⟨x0, hx0⟩ : ∃ x, x = l.getD 0 0 := ⟨_, rfl⟩
  have y0 : isByte x0 := by rw [hx0]; exact h.byte 0 (by omega)
  obtain ⟨x1, hx1⟩ : ∃ x, x = l.getD 1 0 := ⟨_, rfl⟩
  have y1 : isByte x1 := by rw [hx1]; exact h.byte 1 (by omega)
  have HX0 := Lib.hid hx0
  have HX1 := Lib.hid hx1
  clear hx0 hx1
  obtain ⟨ao, cap, hb, _⟩ := h
  have hc := cell_of_one hb
  clear hb
  generalize hm : l.length = m at *
  have HM := Lib.hid hm
  clear hm
  go_enter Tryz.func123, Tryz.ntmps123
  go_wp2_with fail
  refine T.out.mono ?_
  rintro e w' ⟨ao', c', rfl, hc1, hB, hnn, hR, hK⟩
  obtain ⟨g, off, rfl, hcell⟩ := bytes_at hB (by rw [List.length_take, HM.out]; omega)
  have c0 := hcell 0 (by rw [List.length_take, HM.out]; omega)
  rw [getD_take l 2 0 (by omega), ← HX0.out, Nat.add_zero] at c0
  have c1 := hcell 1 (by rw [List.length_take, HM.out]; omega)
  rw [getD_take l 2 1 (by omega), ← HX1.out] at c1
  have HR := Lib.hid hR
  have HK := Lib.hid hK
  clear hB hnn hR hK hcell
  have J := Lib.hid (join16_any w' g off 2 c' x0 x1 (by omega) y0 y1 c0 c1)
  go_wp2_with fail
  refine J.out.mono ?_
  rintro e w2 ⟨rfl, n, rfl⟩
  go_wp2_with fail
  exact bodyPost_ret (v := .tuple #[.int .u16 (x0 * 256 + x1), .int .i64 0]) (by simp [results, Tryz.results123, go_sem]) rfl ⟨by rw [HX0.out, HX1.out]; rfl, HR.out.drewN n, HK.out.drewN n⟩

set_option maxHeartbeats 1600000 in
theorem r32_b (w : World) (R : Nat) (l : List Int) (h : Rb w R l) (h1 : 4 ≤ l.length) (hl : l.length ≤ 1000000) :
    Calls Tryz.prog 106 #[.pointer (some ⟨R, 0, none⟩)] w fun e w' => e = .returned (.tuple #[.int .u32 (rd32 l), .int .i64 0]) ∧ Rb w' R (l.drop 4) ∧ Kept (fun k => k = R) w w' := by
  have T := Lib.hid (take_b w R l 4 h h1 hl)
  obtain ⟨x0, hx0⟩ : ∃ x, x = l.getD 0 0 := ⟨_, rfl⟩
  have y0 : isByte x0 := by rw [hx0]; exact h.byte 0 (by omega)
  obtain ⟨x1, hx1⟩ : ∃ x, x = l.getD 1 0 := ⟨_, rfl⟩
  have y1 : isByte x1 := by rw [hx1]; exact h.byte 1 (by omega)
  obtain ⟨x2, hx2⟩ : ∃ x, x = l.getD 2 0 := ⟨_, rfl⟩
  have y2 : isByte x2 := by rw [hx2]; exact h.byte 2 (by omega)
  obtain ⟨x3, hx3⟩ : ∃ x, x = l.getD 3 0 := ⟨_, rfl⟩
  have y3 : isByte x3 := by rw [hx3]; exact h.byte 3 (by omega)
  have HX0 := Lib.hid hx0
  have HX1 := Lib.hid hx1
  have HX2 := Lib.hid hx2
  have HX3 := Lib.hid hx3
  clear hx0 hx1 hx2 hx3
  obtain ⟨ao, cap, hb, _⟩ := h
  have hc := cell_of_one hb
  clear hb
  generalize hm : l.length = m at *
  have HM := Lib.hid hm
  clear hm
  go_enter Tryz.func106, Tryz.ntmps106
  go_wp2_with fail
  refine T.out.mono ?_
  rintro e w' ⟨ao', c', rfl, hc1, hB, hnn, hR, hK⟩
  obtain ⟨g, off, rfl, hcell⟩ := bytes_at hB (by rw [List.length_take, HM.out]; omega)
  have c0 := hcell 0 (by rw [List.length_take, HM.out]; omega)
  rw [getD_take l 4 0 (by omega), ← HX0.out, Nat.add_zero] at c0
  have c1 := hcell 1 (by rw [List.length_take, HM.out]; omega)
  rw [getD_take l 4 1 (by omega), ← HX1.out] at c1
  have c2 := hcell 2 (by rw [List.length_take, HM.out]; omega)
  rw [getD_take l 4 2 (by omega), ← HX2.out] at c2
  have c3 := hcell 3 (by rw [List.length_take, HM.out]; omega)
  rw [getD_take l 4 3 (by omega), ← HX3.out] at c3
  have HR := Lib.hid hR
  have HK := Lib.hid hK
  clear hB hnn hR hK hcell
  have J := Lib.hid (join32_any w' g off 4 c' x0 x1 x2 x3 (by omega) hc1 y0 y1 y2 y3 c0 c1 c2 c3)
  go_wp2_with fail
  refine J.out.mono ?_
  rintro e w2 ⟨rfl, n, rfl⟩
  go_wp2_with fail
  exact bodyPost_ret (v := .tuple #[.int .u32 ((x0 * 256 + x1) * 65536 + (x2 * 256 + x3)), .int .i64 0]) (by simp [results, Tryz.results106, go_sem]) rfl ⟨by rw [HX0.out, HX1.out, HX2.out, HX3.out]; rfl, HR.out.drewN n, HK.out.drewN n⟩

set_option maxHeartbeats 1600000 in
theorem r64_b (w : World) (R : Nat) (l : List Int) (h : Rb w R l) (h1 : 8 ≤ l.length) (hl : l.length ≤ 1000000) :
    Calls Tryz.prog 109 #[.pointer (some ⟨R, 0, none⟩)] w fun e w' => e = .returned (.tuple #[.int .u64 (rd64 l), .int .i64 0]) ∧ Rb w' R (l.drop 8) ∧ Kept (fun k => k = R) w w' := by
  have T := Lib.hid (take_b w R l 8 h h1 hl)
  obtain ⟨x0, hx0⟩ : ∃ x, x = l.getD 0 0 := ⟨_, rfl⟩
  have y0 : isByte x0 := by rw [hx0]; exact h.byte 0 (by omega)
  obtain ⟨x1, hx1⟩ : ∃ x, x = l.getD 1 0 := ⟨_, rfl⟩
  have y1 : isByte x1 := by rw [hx1]; exact h.byte 1 (by omega)
  obtain ⟨x2, hx2⟩ : ∃ x, x = l.getD 2 0 := ⟨_, rfl⟩
  have y2 : isByte x2 := by rw [hx2]; exact h.byte 2 (by omega)
  obtain ⟨x3, hx3⟩ : ∃ x, x = l.getD 3 0 := ⟨_, rfl⟩
  have y3 : isByte x3 := by rw [hx3]; exact h.byte 3 (by omega)
  obtain ⟨x4, hx4⟩ : ∃ x, x = l.getD 4 0 := ⟨_, rfl⟩
  have y4 : isByte x4 := by rw [hx4]; exact h.byte 4 (by omega)
  obtain ⟨x5, hx5⟩ : ∃ x, x = l.getD 5 0 := ⟨_, rfl⟩
  have y5 : isByte x5 := by rw [hx5]; exact h.byte 5 (by omega)
  obtain ⟨x6, hx6⟩ : ∃ x, x = l.getD 6 0 := ⟨_, rfl⟩
  have y6 : isByte x6 := by rw [hx6]; exact h.byte 6 (by omega)
  obtain ⟨x7, hx7⟩ : ∃ x, x = l.getD 7 0 := ⟨_, rfl⟩
  have y7 : isByte x7 := by rw [hx7]; exact h.byte 7 (by omega)
  have HX0 := Lib.hid hx0
  have HX1 := Lib.hid hx1
  have HX2 := Lib.hid hx2
  have HX3 := Lib.hid hx3
  have HX4 := Lib.hid hx4
  have HX5 := Lib.hid hx5
  have HX6 := Lib.hid hx6
  have HX7 := Lib.hid hx7
  clear hx0 hx1 hx2 hx3 hx4 hx5 hx6 hx7
  obtain ⟨ao, cap, hb, _⟩ := h
  have hc := cell_of_one hb
  clear hb
  generalize hm : l.length = m at *
  have HM := Lib.hid hm
  clear hm
  go_enter Tryz.func109, Tryz.ntmps109
  go_wp2_with fail
  refine T.out.mono ?_
  rintro e w' ⟨ao', c', rfl, hc1, hB, hnn, hR, hK⟩
  obtain ⟨g, off, rfl, hcell⟩ := bytes_at hB (by rw [List.length_take, HM.out]; omega)
  have c0 := hcell 0 (by rw [List.length_take, HM.out]; omega)
  rw [getD_take l 8 0 (by omega), ← HX0.out, Nat.add_zero] at c0
  have c1 := hcell 1 (by rw [List.length_take, HM.out]; omega)
  rw [getD_take l 8 1 (by omega), ← HX1.out] at c1
  have c2 := hcell 2 (by rw [List.length_take, HM.out]; omega)
  rw [getD_take l 8 2 (by omega), ← HX2.out] at c2
  have c3 := hcell 3 (by rw [List.length_take, HM.out]; omega)
  rw [getD_take l 8 3 (by omega), ← HX3.out] at c3
  have c4 := hcell 4 (by rw [List.length_take, HM.out]; omega)
  rw [getD_take l 8 4 (by omega), ← HX4.out] at c4
  have c5 := hcell 5 (by rw [List.length_take, HM.out]; omega)
  rw [getD_take l 8 5 (by omega), ← HX5.out] at c5
  have c6 := hcell 6 (by rw [List.length_take, HM.out]; omega)
  rw [getD_take l 8 6 (by omega), ← HX6.out] at c6
  have c7 := hcell 7 (by rw [List.length_take, HM.out]; omega)
  rw [getD_take l 8 7 (by omega), ← HX7.out] at c7
  have HR := Lib.hid hR
  have HK := Lib.hid hK
  clear hB hnn hR hK hcell
  have hc' : ¬ c' = 2 := by omega
  have hc2 : ¬ c' = 4 := by omega
  go_wp2_with fail
  go_quiet (first
    | (go_at_call 114; refine Calls.quiet_of (join16_any _ g (off + 2) 6 (c' - 2) x2 x3 (by omega) y2 y3 ?_ ?_) <;> simpa [Nat.add_assoc])
    | (go_at_call 121; refine Calls.quiet_of (join32_any _ g (off + 4) 4 (c' - 4) x4 x5 x6 x7 (by omega) (by omega) y4 y5 y6 y7 ?_ ?_ ?_ ?_) <;> simpa [Nat.add_assoc])
    | (go_at_call 124; exact Calls.quiet_of_same (pack_any x0 x1 (x2 * 256 + x3) ((x4 * 256 + x5) * 65536 + (x6 * 256 + x7)) _ y0 y1 (two_bytes y2 y3) (four_bytes y4 y5 y6 y7))))
  go_wp2_with fail
  exact bodyPost_ret (v := .tuple #[.int .u64 (packI x0 x1 (x2 * 256 + x3) ((x4 * 256 + x5) * 65536 + (x6 * 256 + x7))), .int .i64 0]) (by simp [results, Tryz.results109, go_sem]) rfl ⟨by rw [HX0.out, HX1.out, HX2.out, HX3.out, HX4.out, HX5.out, HX6.out, HX7.out]; rfl, HR.out.drewN _, HK.out.drewN _⟩

set_option maxHeartbeats 1600000 in
theorem rb_b (w : World) (R : Nat) (l : List Int) (most : Int) (h : Rb w R l) (h2 : 2 ≤ l.length) (hl : l.length ≤ 1000000) (k : Nat) (hk : rd16 l = (k : Int)) (hmost : (k : Int) ≤ most) (hfit : 2 + k ≤ l.length) :
    Calls Tryz.prog 92 #[.pointer (some ⟨R, 0, none⟩), .int .i64 most] w fun e w' => ∃ ao c, e = .returned (.tuple #[.slice ao k c, .int .i64 0]) ∧ New w.heap.size w' ao c ((l.drop 2).take k) ∧ Rb w' R (l.drop (2 + k)) ∧ Kept (fun j => j = R) w w' := by
  have hr := rd16_range h.toRd h2
  have h0 := h
  have hlt := h.lt
  obtain ⟨ao, cap, hb, hB, _⟩ := h
  obtain ⟨g, off, rfl, hJ⟩ := rd_head h0.toRd h2 hb hB
  rw [hk] at hJ
  have hk2 : k ≤ 65535 := by omega
  have J := Lib.hid hJ
  have H0 := Lib.hid h0
  have hc := cell_of_one hb
  clear hb hB hJ h0 hr hk
  generalize hm : l.length = m at *
  have HM := Lib.hid hm
  clear hm
  go_enter Tryz.func92, Tryz.ntmps92
  go_wp2_with fail
  refine J.out.mono ?_
  rintro e w2 ⟨rfl, n, rfl⟩
  have T := Lib.hid (take_b (w.drewN n) R l 2 (H0.out.drewN n) (by rw [HM.out]; exact h2) (by rw [HM.out]; exact hl))
  go_wp2_with fail
  refine T.out.mono ?_
  rintro e w3 ⟨ao3, c3, rfl, -, -, -, hR3, hK3⟩
  have T3 := Lib.hid (take_b w3 R (l.drop 2) k hR3 (by rw [List.length_drop, HM.out]; omega) (by rw [List.length_drop, HM.out]; omega))
  have K3 := Lib.hid (((Kept.refl _ w).drewN n).trans hK3 (fun _ _ e => e))
  clear hR3 hK3
  go_wp2_with fail
  refine T3.out.mono ?_
  rintro e w4 ⟨ao4, c4, rfl, hc4, hB4, hn4, hR4, hK4⟩
  have hlen : ((l.drop 2).take k).length = k := by rw [List.length_take, List.length_drop, HM.out]; omega
  have C := Lib.hid (clone_any w4 ao4 c4 ((l.drop 2).take k) hB4 (fun e => ⟨List.eq_nil_of_length_eq_zero (by have := hn4 e; omega), hn4 e⟩) (by omega))
  have K4 := Lib.hid (K3.out.trans hK4 (fun _ _ e => e))
  have R4 := Lib.hid hR4
  have HL := Lib.hid hlen
  have C2 := C
  rw [hlen] at C2
  clear hB4 hn4 hR4 hK4 hlen C
  go_wp2_with fail
  refine C2.out.mono ?_
  rintro e w5 ⟨ao5, c5, rfl, hN, hK5⟩
  have HN := Lib.hid hN
  have HK5 := Lib.hid hK5
  clear hN hK5
  go_wp2_with fail
  refine bodyPost_ret (v := .tuple #[.slice ao5 k c5, .int .i64 0]) (by simp [results, Tryz.results92, go_sem]) rfl ⟨ao5, c5, rfl, ⟨HN.out.1, fun ad e => Nat.le_trans K4.out.size (HN.out.2 ad e)⟩, ?_, ?_⟩
  · have := R4.out.below HK5.out
    rw [List.drop_drop] at this
    exact this
  · exact K4.out.trans (Kept.ofBelow (S := fun _ => False) HK5.out) (fun _ _ h => h.elim)
/-- what is left, and the first fault (0: none) -/
structure Sr where
  l : List Int
  f : Int

/-- a number of k bytes -/
def gN (k : Nat) (num : List Int → Int) (s : Sr) : Int × Sr := if s.f = 0 then (if k ≤ s.l.length then (num s.l, ⟨s.l.drop k, 0⟩) else (0, ⟨s.l, 20⟩)) else (0, s)
def p8 : Sr → Int × Sr := gN 1 fun l => l.getD 0 0
def p16 : Sr → Int × Sr := gN 2 rd16
def p32 : Sr → Int × Sr := gN 4 rd32
def p64 : Sr → Int × Sr := gN 8 rd64

/-- a source lies at S, its reader at R -/
structure Sat (w : World) (S R : Nat) (s : Sr) : Prop where
  src : w.heap[S]? = some (.cells #[.pointer (some ⟨R, 0, none⟩), .int .i64 s.f] 94 (0, 0))
  rd : Rb w R s.l
  ord : R < S
  len : s.l.length ≤ 100000

def SR (S R : Nat) : Nat → Prop := fun k => k = S ∨ k = R

theorem Sat.ne {w : World} {S R : Nat} {s : Sr} (h : Sat w S R s) : S ≠ R := by have := h.ord; omega
theorem Sat.lt {w : World} {S R : Nat} {s : Sr} (h : Sat w S R s) : S < w.heap.size ∧ R < w.heap.size := ⟨lt_of_block h.src, h.rd.lt⟩
theorem Sat.on {w w' : World} {S R : Nat} {s : Sr} (h : Sat w S R s) (hb : Below w.heap.size w w') : Sat w' S R s :=
  ⟨(hb.block _ (lt_of_block h.src)).trans h.src, h.rd.below hb, h.ord, h.len⟩
theorem Sat.cell0 {w : World} {S R : Nat} {s : Sr} (h : Sat w S R s) : w.cell? ⟨S, 0, none⟩ = some (.pointer (some ⟨R, 0, none⟩)) := by rw [cell_of_row _ _ _ _ _ _ h.src]; rfl
theorem Sat.cell1 {w : World} {S R : Nat} {s : Sr} (h : Sat w S R s) : w.cell? ⟨S, 1, none⟩ = some (.int .i64 s.f) := by rw [cell_of_row _ _ _ _ _ _ h.src]; rfl
theorem Sat.free1 {w : World} {S R : Nat} {s : Sr} (h : Sat w S R s) : w.frozen? ⟨S, 1, none⟩ = false := frozen_of_row _ _ _ _ _ h.src
/-- what is written behind the reader leaves it as it was -/
theorem Sat.kept {T : Nat → Prop} {w w' : World} {S R : Nat} {s : Sr} (h : Sat w S R s) (hk : Kept T w w') (hS : ¬ T S) (hT : ∀ k, k ≤ R → ¬ T k) : Sat w' S R s :=
  ⟨by rw [hk.block S (lt_of_block h.src) hS]; exact h.src, h.rd.kept hk hT, h.ord, h.len⟩
/-- a fault is kept -/
theorem Sat.fault {w : World} {S R : Nat} {s : Sr} (h : Sat w S R s) (f : Int) : Sat (w.setCell ⟨S, 1, none⟩ (.int .i64 f)) S R ⟨s.l, f⟩ := by
  have hk : Kept (fun k => k = S) w (w.setCell ⟨S, 1, none⟩ (.int .i64 f)) := (Kept.refl _ _).setCell _ _ (fun _ => rfl)
  have ho := h.ord
  exact ⟨heap_setCell_same _ _ _ _ _ _ h.src, h.rd.kept hk (fun k hk' e => by omega), ho, h.len⟩
theorem Sat.read {w w' : World} {S R : Nat} {s : Sr} (h : Sat w S R s) {l : List Int} (hr : Rb w' R l) (hk : Kept (fun k => k = R) w w') (hl : l.length ≤ s.l.length) : Sat w' S R ⟨l, s.f⟩ :=
  ⟨by rw [hk.block S (lt_of_block h.src) h.ne]; exact h.src, hr, h.ord, Nat.le_trans hl h.len⟩
theorem Kept.sr {S R : Nat} {w w' : World} (h : Kept (fun k => k = R) w w') : Kept (SR S R) w w' := h.mono (fun _ _ e => .inr e)
theorem Kept.sf {S R : Nat} {w w' : World} (h : Kept (fun k => k = S) w w') : Kept (SR S R) w w' := h.mono (fun _ _ e => .inl e)

set_option maxHeartbeats 1600000 in
theorem get_8 (w : World) (S R : Nat) (s : Sr) (h : Sat w S R s) :
    Calls Tryz.prog 82 #[.pointer (some ⟨S, 0, none⟩), .func (.func 83) #[.pointer (some ⟨R, 0, none⟩)] #[]] w fun e w' => e = .returned (.int .u8 (p8 s).1) ∧ Sat w' S R (p8 s).2 ∧ Kept (SR S R) w w' := by
  have q1 := h.cell1
  have z1 := h.free1
  have H := Lib.hid h
  unfold p8 gN
  by_cases hf : s.f = 0
  · rw [if_pos hf]
    rw [hf] at q1
    have HF := Lib.hid hf
    by_cases hk : 1 ≤ s.l.length
    · rw [if_pos hk]
      have C := Lib.hid (r8_b w R s.l h.rd hk (Nat.le_trans h.len (by decide)))
      have HR : Hid (∀ w1, Rb w1 R (s.l.drop 1) → Kept (fun k => k = R) w w1 → Sat w1 S R ⟨s.l.drop 1, 0⟩) := Lib.hid (fun w1 h1 h2 => by have := h.read h1 h2 (by simp); rw [hf] at this; exact this)
      simp only
      clear h hf hk
      generalize s.l.getD 0 0 = x at *
      go_enter Tryz.func82, Tryz.ntmps82
      go_wp2_with fail
      refine Calls.mono C.out ?_
      rintro e w1 ⟨rfl, h2, h3⟩
      have H2 := Lib.hid (HR.out w1 h2 h3)
      have H3 := Lib.hid h3
      clear h2 h3
      go_wp2_with fail
      go_ret
      exact ⟨rfl, H2.out, H3.out.sr⟩
    · rw [if_neg hk]
      have C := Lib.hid (r8_short w R s.l h.rd.toRd (by omega))
      simp only
      clear h hf hk
      go_enter Tryz.func82, Tryz.ntmps82
      go_wp2_with fail
      refine Calls.mono C.out ?_
      rintro e w1 ⟨rfl, rfl⟩
      go_wp2_with fail
      go_ret
      exact ⟨rfl, H.out.fault 20, Kept.sf ((Kept.refl _ _).setCell _ _ (fun _ => rfl))⟩
  · rw [if_neg hf]
    have hf2 : (s.f == 0) = false := by simp [hf]
    simp only
    clear h hf
    go_enter Tryz.func82, Tryz.ntmps82
    go_wp2_with fail
    go_ret
    exact ⟨rfl, H.out, Kept.refl _ _⟩

set_option maxHeartbeats 1600000 in
theorem s8 (w : World) (S R : Nat) (s : Sr) (h : Sat w S R s) :
    Calls Tryz.prog 59 #[.pointer (some ⟨S, 0, none⟩)] w fun e w' => e = .returned (.int .u8 (p8 s).1) ∧ Sat w' S R (p8 s).2 ∧ Kept (SR S R) w w' := by
  have q0 := h.cell0
  have C := Lib.hid (get_8 w S R s h)
  generalize p8 s = x at C ⊢
  have hmf : ∀ (fn : Fn) (first cap : Array Value) (w : World), (Instr.makeFunc fn first cap).run Tryz.prog w = .ok (.func fn first cap) w := fun _ _ _ _ => rfl
  clear h
  go_enter Tryz.func59, Tryz.ntmps59
  go_wp2_with fail
  refine Calls.mono C.out ?_
  rintro e w1 ⟨rfl, h2, h3⟩
  have H2 := Lib.hid h2
  have H3 := Lib.hid h3
  clear h2 h3
  go_wp2_with fail
  go_ret
  exact ⟨rfl, H2.out, H3.out⟩

set_option maxHeartbeats 1600000 in
theorem get_16 (w : World) (S R : Nat) (s : Sr) (h : Sat w S R s) :
    Calls Tryz.prog 122 #[.pointer (some ⟨S, 0, none⟩), .func (.func 123) #[.pointer (some ⟨R, 0, none⟩)] #[]] w fun e w' => e = .returned (.int .u16 (p16 s).1) ∧ Sat w' S R (p16 s).2 ∧ Kept (SR S R) w w' := by
  have q1 := h.cell1
  have z1 := h.free1
  have H := Lib.hid h
  unfold p16 gN
  by_cases hf : s.f = 0
  · rw [if_pos hf]
    rw [hf] at q1
    have HF := Lib.hid hf
    by_cases hk : 2 ≤ s.l.length
    · rw [if_pos hk]
      have C := Lib.hid (r16_b w R s.l h.rd hk (Nat.le_trans h.len (by decide)))
      have HR : Hid (∀ w1, Rb w1 R (s.l.drop 2) → Kept (fun k => k = R) w w1 → Sat w1 S R ⟨s.l.drop 2, 0⟩) := Lib.hid (fun w1 h1 h2 => by have := h.read h1 h2 (by simp); rw [hf] at this; exact this)
      simp only
      clear h hf hk
      generalize rd16 s.l = x at *
      go_enter Tryz.func122, Tryz.ntmps122
      go_wp2_with fail
      refine Calls.mono C.out ?_
      rintro e w1 ⟨rfl, h2, h3⟩
      have H2 := Lib.hid (HR.out w1 h2 h3)
      have H3 := Lib.hid h3
      clear h2 h3
      go_wp2_with fail
      go_ret
      exact ⟨rfl, H2.out, H3.out.sr⟩
    · rw [if_neg hk]
      have C := Lib.hid (r16_short w R s.l h.rd.toRd (by omega))
      simp only
      clear h hf hk
      go_enter Tryz.func122, Tryz.ntmps122
      go_wp2_with fail
      refine Calls.mono C.out ?_
      rintro e w1 ⟨rfl, rfl⟩
      go_wp2_with fail
      go_ret
      exact ⟨rfl, H.out.fault 20, Kept.sf ((Kept.refl _ _).setCell _ _ (fun _ => rfl))⟩
  · rw [if_neg hf]
    have hf2 : (s.f == 0) = false := by simp [hf]
    simp only
    clear h hf
    go_enter Tryz.func122, Tryz.ntmps122
    go_wp2_with fail
    go_ret
    exact ⟨rfl, H.out, Kept.refl _ _⟩

set_option maxHeartbeats 1600000 in
theorem s16 (w : World) (S R : Nat) (s : Sr) (h : Sat w S R s) :
    Calls Tryz.prog 107 #[.pointer (some ⟨S, 0, none⟩)] w fun e w' => e = .returned (.int .u16 (p16 s).1) ∧ Sat w' S R (p16 s).2 ∧ Kept (SR S R) w w' := by
  have q0 := h.cell0
  have C := Lib.hid (get_16 w S R s h)
  generalize p16 s = x at C ⊢
  have hmf : ∀ (fn : Fn) (first cap : Array Value) (w : World), (Instr.makeFunc fn first cap).run Tryz.prog w = .ok (.func fn first cap) w := fun _ _ _ _ => rfl
  clear h
  go_enter Tryz.func107, Tryz.ntmps107
  go_wp2_with fail
  refine Calls.mono C.out ?_
  rintro e w1 ⟨rfl, h2, h3⟩
  have H2 := Lib.hid h2
  have H3 := Lib.hid h3
  clear h2 h3
  go_wp2_with fail
  go_ret
  exact ⟨rfl, H2.out, H3.out⟩

set_option maxHeartbeats 1600000 in
theorem get_32 (w : World) (S R : Nat) (s : Sr) (h : Sat w S R s) :
    Calls Tryz.prog 105 #[.pointer (some ⟨S, 0, none⟩), .func (.func 106) #[.pointer (some ⟨R, 0, none⟩)] #[]] w fun e w' => e = .returned (.int .u32 (p32 s).1) ∧ Sat w' S R (p32 s).2 ∧ Kept (SR S R) w w' := by
  have q1 := h.cell1
  have z1 := h.free1
  have H := Lib.hid h
  unfold p32 gN
  by_cases hf : s.f = 0
  · rw [if_pos hf]
    rw [hf] at q1
    have HF := Lib.hid hf
    by_cases hk : 4 ≤ s.l.length
    · rw [if_pos hk]
      have C := Lib.hid (r32_b w R s.l h.rd hk (Nat.le_trans h.len (by decide)))
      have HR : Hid (∀ w1, Rb w1 R (s.l.drop 4) → Kept (fun k => k = R) w w1 → Sat w1 S R ⟨s.l.drop 4, 0⟩) := Lib.hid (fun w1 h1 h2 => by have := h.read h1 h2 (by simp); rw [hf] at this; exact this)
      simp only
      clear h hf hk
      generalize rd32 s.l = x at *
      go_enter Tryz.func105, Tryz.ntmps105
      go_wp2_with fail
      refine Calls.mono C.out ?_
      rintro e w1 ⟨rfl, h2, h3⟩
      have H2 := Lib.hid (HR.out w1 h2 h3)
      have H3 := Lib.hid h3
      clear h2 h3
      go_wp2_with fail
      go_ret
      exact ⟨rfl, H2.out, H3.out.sr⟩
    · rw [if_neg hk]
      have C := Lib.hid (r32_short w R s.l h.rd.toRd (by omega))
      simp only
      clear h hf hk
      go_enter Tryz.func105, Tryz.ntmps105
      go_wp2_with fail
      refine Calls.mono C.out ?_
      rintro e w1 ⟨rfl, rfl⟩
      go_wp2_with fail
      go_ret
      exact ⟨rfl, H.out.fault 20, Kept.sf ((Kept.refl _ _).setCell _ _ (fun _ => rfl))⟩
  · rw [if_neg hf]
    have hf2 : (s.f == 0) = false := by simp [hf]
    simp only
    clear h hf
    go_enter Tryz.func105, Tryz.ntmps105
    go_wp2_with fail
    go_ret
    exact ⟨rfl, H.out, Kept.refl _ _⟩

set_option maxHeartbeats 1600000 in
theorem s32 (w : World) (S R : Nat) (s : Sr) (h : Sat w S R s) :
    Calls Tryz.prog 84 #[.pointer (some ⟨S, 0, none⟩)] w fun e w' => e = .returned (.int .u32 (p32 s).1) ∧ Sat w' S R (p32 s).2 ∧ Kept (SR S R) w w' := by
  have q0 := h.cell0
  have C := Lib.hid (get_32 w S R s h)
  generalize p32 s = x at C ⊢
  have hmf : ∀ (fn : Fn) (first cap : Array Value) (w : World), (Instr.makeFunc fn first cap).run Tryz.prog w = .ok (.func fn first cap) w := fun _ _ _ _ => rfl
  clear h
  go_enter Tryz.func84, Tryz.ntmps84
  go_wp2_with fail
  refine Calls.mono C.out ?_
  rintro e w1 ⟨rfl, h2, h3⟩
  have H2 := Lib.hid h2
  have H3 := Lib.hid h3
  clear h2 h3
  go_wp2_with fail
  go_ret
  exact ⟨rfl, H2.out, H3.out⟩

set_option maxHeartbeats 1600000 in
theorem get_64 (w : World) (S R : Nat) (s : Sr) (h : Sat w S R s) :
    Calls Tryz.prog 108 #[.pointer (some ⟨S, 0, none⟩), .func (.func 109) #[.pointer (some ⟨R, 0, none⟩)] #[]] w fun e w' => e = .returned (.int .u64 (p64 s).1) ∧ Sat w' S R (p64 s).2 ∧ Kept (SR S R) w w' := by
  have q1 := h.cell1
  have z1 := h.free1
  have H := Lib.hid h
  unfold p64 gN
  by_cases hf : s.f = 0
  · rw [if_pos hf]
    rw [hf] at q1
    have HF := Lib.hid hf
    by_cases hk : 8 ≤ s.l.length
    · rw [if_pos hk]
      have C := Lib.hid (r64_b w R s.l h.rd hk (Nat.le_trans h.len (by decide)))
      have HR : Hid (∀ w1, Rb w1 R (s.l.drop 8) → Kept (fun k => k = R) w w1 → Sat w1 S R ⟨s.l.drop 8, 0⟩) := Lib.hid (fun w1 h1 h2 => by have := h.read h1 h2 (by simp); rw [hf] at this; exact this)
      simp only
      clear h hf hk
      generalize rd64 s.l = x at *
      go_enter Tryz.func108, Tryz.ntmps108
      go_wp2_with fail
      refine Calls.mono C.out ?_
      rintro e w1 ⟨rfl, h2, h3⟩
      have H2 := Lib.hid (HR.out w1 h2 h3)
      have H3 := Lib.hid h3
      clear h2 h3
      go_wp2_with fail
      go_ret
      exact ⟨rfl, H2.out, H3.out.sr⟩
    · rw [if_neg hk]
      have C := Lib.hid (r64_short w R s.l h.rd.toRd (by omega))
      simp only
      clear h hf hk
      go_enter Tryz.func108, Tryz.ntmps108
      go_wp2_with fail
      refine Calls.mono C.out ?_
      rintro e w1 ⟨rfl, rfl⟩
      go_wp2_with fail
      go_ret
      exact ⟨rfl, H.out.fault 20, Kept.sf ((Kept.refl _ _).setCell _ _ (fun _ => rfl))⟩
  · rw [if_neg hf]
    have hf2 : (s.f == 0) = false := by simp [hf]
    simp only
    clear h hf
    go_enter Tryz.func108, Tryz.ntmps108
    go_wp2_with fail
    go_ret
    exact ⟨rfl, H.out, Kept.refl _ _⟩

set_option maxHeartbeats 1600000 in
theorem s64 (w : World) (S R : Nat) (s : Sr) (h : Sat w S R s) :
    Calls Tryz.prog 86 #[.pointer (some ⟨S, 0, none⟩)] w fun e w' => e = .returned (.int .u64 (p64 s).1) ∧ Sat w' S R (p64 s).2 ∧ Kept (SR S R) w w' := by
  have q0 := h.cell0
  have C := Lib.hid (get_64 w S R s h)
  generalize p64 s = x at C ⊢
  have hmf : ∀ (fn : Fn) (first cap : Array Value) (w : World), (Instr.makeFunc fn first cap).run Tryz.prog w = .ok (.func fn first cap) w := fun _ _ _ _ => rfl
  clear h
  go_enter Tryz.func86, Tryz.ntmps86
  go_wp2_with fail
  refine Calls.mono C.out ?_
  rintro e w1 ⟨rfl, h2, h3⟩
  have H2 := Lib.hid h2
  have H3 := Lib.hid h3
  clear h2 h3
  go_wp2_with fail
  go_ret
  exact ⟨rfl, H2.out, H3.out⟩
/-- the i-th of a list is one, and above the one ahead -/
def stepB {α : Type} (ok : α → Bool) (ab : α → α → Bool) (l : List α) (i : Nat) : Bool :=
  match l[i]? with
  | none => true
  | some x => ok x && (match i with
    | 0 => true
    | j + 1 => match l[j]? with
      | none => true
      | some y => ab x y)
/-- forty at most, each one, and above the one ahead -/
def upB {α : Type} (ok : α → Bool) (ab : α → α → Bool) (l : List α) : Bool := decide (l.length ≤ 40) && (List.range l.length).all (stepB ok ab l)

theorem stepB_zero {α : Type} {ok : α → Bool} {ab : α → α → Bool} {l : List α} {x : α} (h : l[0]? = some x) : stepB ok ab l 0 = ok x := by simp [stepB, h]
theorem stepB_succ {α : Type} {ok : α → Bool} {ab : α → α → Bool} {l : List α} {j : Nat} {x y : α} (h : l[j + 1]? = some x) (h' : l[j]? = some y) : stepB ok ab l (j + 1) = (ok x && ab x y) := by simp [stepB, h, h']
theorem stepB_not {α : Type} {ok : α → Bool} {ab : α → α → Bool} {l : List α} {j : Nat} {x : α} (h : l[j]? = some x) (hx : ok x = false) : stepB ok ab l j = false := by simp [stepB, h, hx]
theorem upB_false {α : Type} {ok : α → Bool} {ab : α → α → Bool} {l : List α} {j : Nat} (hj : j < l.length) (h : stepB ok ab l j = false) : upB ok ab l = false := by
  unfold upB
  have : (List.range l.length).all (stepB ok ab l) = false := by
    rw [List.all_eq_false]
    exact ⟨j, List.mem_range.2 hj, by simp [h]⟩
  rw [this]; simp
theorem upB_true {α : Type} {ok : α → Bool} {ab : α → α → Bool} {l : List α} (h40 : l.length ≤ 40) (h : ∀ i, i < l.length → stepB ok ab l i = true) : upB ok ab l = true := by
  unfold upB
  have : (List.range l.length).all (stepB ok ab l) = true := by
    rw [List.all_eq_true]
    intro i hi
    exact h i (List.mem_range.1 hi)
  rw [this]; simp [h40]
theorem upB_long {α : Type} {ok : α → Bool} {ab : α → α → Bool} {l : List α} (h : ¬ l.length ≤ 40) : upB ok ab l = false := by
  unfold upB; simp [h]

theorem bel_drewN {H : Nat} {a w : World} (h : Below H a w) (n : Nat) : Below H a (w.drewN n) := by
  have hk : Kept (fun _ => False) w (w.drewN n) := (Kept.refl _ w).drewN n
  exact ⟨hk.os.trans h.os, hk.tape.trans h.tape, hk.output.trans h.output, Nat.le_trans h.size hk.size, fun k hk' => by
    by_cases hlt : k < w.heap.size
    · rw [hk.block k hlt (fun h => h)]; exact h.block k hk'
    · have e : (w.drewN n).heap = w.heap := rfl
      rw [e]; exact h.block k hk'⟩

def mkOk (x : Mk) : Bool := isSq x.s
def mkAb (x y : Mk) : Bool := decide (y.s < x.s)

set_option maxHeartbeats 2000000 in
theorem areMarks_any (w : World) (v : Sl) (xs : List Mk) (h1 : Row w 2 Mk.cells v.val xs) :
    Calls Tryz.prog 44 #[.slice v.a v.n v.c] w fun e w' => e = .returned (.bool (upB mkOk mkAb xs)) ∧ Below w.heap.size w w' := by
  obtain ⟨a1, c1, q1, -, -, hn1, hr1⟩ := h1
  simp only [Sl.val] at q1
  rw [q1]
  clear q1
  have H1 := Lib.hid hr1
  clear hr1
  obtain ⟨r, hr⟩ : ∃ r, r = upB mkOk mkAb xs := ⟨_, rfl⟩
  rw [← hr]
  have HR := Lib.hid hr
  clear hr
  by_cases h40 : xs.length ≤ 40
  · generalize hn : xs.length = n at *
    have HN := Lib.hid hn
    have h40' : ¬ (n : Int) > 40 := by omega
    clear hn
    go_enter Tryz.func44, Tryz.ntmps44
    go_wp2_with fail
    go_loopw [10] (fun vi wr => ∃ j : Nat, j ≤ n ∧ vi = .int .i64 j ∧ Hid (Below w.heap.size w wr) ∧ Hid (∀ i, i < j → stepB mkOk mkAb xs i = true)) (fun i _ => n - (intOf i).toNat)
    case atStart => exact ⟨0, by omega, rfl, Lib.hid (Below.refl _ _), Lib.hid (fun i h => by omega)⟩
    case round =>
      obtain ⟨j, hj, rfl, HB, A⟩ := hrel
      by_cases hlt : j < n
      · obtain ⟨x, hx⟩ : ∃ x, xs[j]? = some x := ⟨_, List.getElem?_eq_getElem (by rw [HN.out]; exact hlt)⟩
        obtain ⟨b1, o1, e1, g1⟩ := H1.out j x hx
        have G : ∀ i u, x.cells[i]? = some u → wr.cell? ⟨b1, o1 + j * 2 + i, none⟩ = some u := fun i u hu => by
          have h3 := g1 i u hu
          rw [HB.out.cell (cell_block h3)]; exact h3
        have l10 : wr.cell? ⟨b1, o1 + j * 2, none⟩ = some (.int .u32 x.s) := G 0 _ rfl
        have l11 : wr.cell? ⟨b1, o1 + j * 2 + 1, none⟩ = some (.int .u64 x.r) := G 1 _ rfl
        have HX := Lib.hid hx
        have CI := Lib.hid (isSeq_any x.s)
        generalize hs : isSq x.s = sb at CI
        have HS := Lib.hid hs
        clear hx g1 G hs
        subst e1
        have HNEW := Lib.hid (fun o => HB.out.alloc HB.out.size o)
        go_upto_region 6 with fail
        obtain ⟨W, hW⟩ : ∃ W, W = wr.alloc (.cells #[.int .u32 x.s, .int .u64 x.r] 77) := ⟨_, rfl⟩
        have p0 : W.cell? ⟨wr.heap.size, 0, none⟩ = some (.int .u32 x.s) := by rw [hW]; simp
        have HBW := Lib.hid (show Below w.heap.size w W by rw [hW]; exact HNEW.out _)
        rw [← hW]
        clear hW l10 l11 HNEW
        cases sb
        · go_quiet ((go_at_call 43; exact Calls.quiet_of_same (CI.out _)))
          go_wp2_with fail
          go_ret
          refine ⟨?_, bel_drewN HBW.out _⟩
          rw [HR.out, upB_false (by rw [HN.out]; exact hlt) (stepB_not HX.out (by unfold mkOk; exact HS.out))]; rfl
        · rcases Nat.eq_zero_or_pos j with h0 | h0
          · subst h0
            go_quiet ((go_at_call 43; exact Calls.quiet_of_same (CI.out _)))
            go_wp2_with fail
            go_round
            case measure => simp [intOf]; omega
            case rel =>
              refine ⟨1, by omega, by go_num, Lib.hid (bel_drewN HBW.out _), Lib.hid (fun i hi => ?_)⟩
              obtain rfl : i = 0 := by omega
              rw [stepB_zero HX.out]; exact HS.out
          · obtain ⟨i, rfl⟩ : ∃ i, j = i + 1 := ⟨j - 1, by omega⟩
            obtain ⟨y, hy⟩ : ∃ y, xs[i]? = some y := ⟨_, List.getElem?_eq_getElem (by rw [HN.out]; omega)⟩
            have py : W.cell? ⟨b1, o1 + i * 2, none⟩ = some (.int .u32 y.s) := by
              obtain ⟨b2, o2, e2, g2⟩ := H1.out i y hy
              injection e2 with e2; injection e2 with e3 e4; subst e3; subst e4
              have h3 : w.cell? ⟨b1, o1 + i * 2, none⟩ = some (.int .u32 y.s) := g2 0 _ rfl
              rw [HBW.out.cell (cell_block h3)]; exact h3
            have HY := Lib.hid hy
            clear hy
            by_cases hg : y.s ≥ x.s
            · have HG := Lib.hid hg
              go_quiet ((go_at_call 43; exact Calls.quiet_of_same (CI.out _)))
              go_wp2_with fail
              go_ret
              refine ⟨?_, bel_drewN HBW.out _⟩
              have e : stepB mkOk mkAb xs (i + 1) = false := by
                rw [stepB_succ HX.out HY.out]; unfold mkAb; have := HG.out; simp; intro _; omega
              rw [HR.out, upB_false (by rw [HN.out]; exact hlt) e]; rfl
            · have HG := Lib.hid hg
              go_quiet ((go_at_call 43; exact Calls.quiet_of_same (CI.out _)))
              go_wp2_with fail
              go_round
              case measure => simp [intOf]; omega
              case rel =>
                refine ⟨i + 2, by omega, by go_num, Lib.hid (bel_drewN HBW.out _), Lib.hid (fun k hk => ?_)⟩
                by_cases e : k = i + 1
                · subst e
                  rw [stepB_succ HX.out HY.out]; unfold mkOk mkAb; rw [HS.out]; have := HG.out; simp; omega
                · exact A.out k (by omega)
      · obtain rfl : j = n := by omega
        go_wp2_with fail
        go_ret
        refine ⟨?_, HB.out⟩
        rw [HR.out, upB_true (by rw [HN.out]; exact h40) (by rw [HN.out]; exact A.out)]; rfl
  · have HL := Lib.hid (upB_long (ok := mkOk) (ab := mkAb) h40)
    generalize hn : xs.length = n at *
    have h40' : (n : Int) > 40 := by omega
    clear hn
    go_enter Tryz.func44, Tryz.ntmps44
    go_wp2_with fail
    go_ret
    exact ⟨by rw [HR.out, HL.out]; rfl, Below.refl _ _⟩
def enOk (x : En) : Bool := isPl x.s && (isVw x.v && x.rq.is)
def enAb (x y : En) : Bool := decide (y.s < x.s)
/-- a text stands behind another -/
def textGt (a b : Rq) : Bool := !(Op.bytesLess (⟨a.text.toArray⟩ : ByteArray).toList (⟨b.text.toArray⟩ : ByteArray).toList || (⟨a.text.toArray⟩ : ByteArray).toList == (⟨b.text.toArray⟩ : ByteArray).toList)
def enAt (x y : En) : Bool := if x.s = y.s then textGt x.rq y.rq else decide (y.s < x.s)

set_option maxHeartbeats 1000000 in
theorem isEntry_any (x : En) (w : World) : Calls Tryz.prog 78 #[.agg x.cells.toArray] w fun e w' => e = .returned (.bool (enOk x)) ∧ Below w.heap.size w w' := by
  obtain ⟨r, hr⟩ : ∃ r, r = enOk x := ⟨_, rfl⟩
  rw [← hr]
  unfold enOk at hr
  have C1 := Lib.hid (isPlace_any x.s)
  have C2 := Lib.hid (isView_any x.v)
  have C3 := Lib.hid (isReq_any x.rq)
  generalize isPl x.s = b1 at C1 hr
  generalize isVw x.v = b2 at C2 hr
  generalize x.rq.is = b3 at C3 hr
  have HR := Lib.hid hr
  clear hr
  simp only [Rq.cells] at C3
  obtain ⟨W, hW⟩ : ∃ W, W = w.alloc (.cells x.cells.toArray 80) := ⟨_, rfl⟩
  have HBL := Lib.hid (show Below w.heap.size w W by rw [hW]; exact (Below.refl _ _).alloc (Nat.le_refl _) _)
  have q0 : W.cell? ⟨w.heap.size, 0, none⟩ = some (.int .u32 x.s) := by rw [hW]; simp [En.cells]
  have q1 : W.cell? ⟨w.heap.size, 1, none⟩ = some (.int .u32 x.v) := by rw [hW]; simp [En.cells]
  have q2 : W.cell? ⟨w.heap.size, 2, none⟩ = some (.int .u8 x.rq.c) := by rw [hW]; simp [En.cells]
  have q3 : W.cell? ⟨w.heap.size, 3, none⟩ = some (.int .u32 x.rq.t) := by rw [hW]; simp [En.cells]
  have q4 : W.cell? ⟨w.heap.size, 4, none⟩ = some (.int .u8 x.rq.k) := by rw [hW]; simp [En.cells]
  have q5 : W.cell? ⟨w.heap.size, 5, none⟩ = some (.int .u8 x.rq.y) := by rw [hW]; simp [En.cells]
  have q6 : W.cell? ⟨w.heap.size, 6, none⟩ = some (.int .u16 x.rq.v) := by rw [hW]; simp [En.cells]
  have HW := Lib.hid hW
  clear hW
  simp only [En.cells] at HW ⊢
  go_enter Tryz.func78, Tryz.ntmps78
  go_upto_region 1 with fail
  rw [← HW.out]
  clear HW
  go_wp2_with fail
  refine Calls.mono (C1.out _) ?_
  rintro e w' ⟨rfl, rfl⟩
  cases b1
  · go_wp2_with fail
    go_ret
    exact ⟨by rw [HR.out]; rfl, HBL.out⟩
  · go_wp2_with fail
    refine Calls.mono (C2.out _) ?_
    rintro e w' ⟨rfl, rfl⟩
    cases b2
    · go_wp2_with fail
      go_ret
      exact ⟨by rw [HR.out]; rfl, HBL.out⟩
    · go_wp2_with fail
      refine Calls.mono (C3.out _) ?_
      rintro e w' ⟨rfl, hb⟩
      have HB := Lib.hid (HBL.out.trans (hb.mono HBL.out.size))
      clear hb
      go_wp2_with fail
      go_ret
      exact ⟨by rw [HR.out]; rfl, HB.out⟩

theorem bySeq_any (x y : En) (w : World) : Calls Tryz.prog 46 #[.agg x.cells.toArray, .agg y.cells.toArray] w fun e w' => e = .returned (.bool (enAb x y)) ∧ Below w.heap.size w w' := by
  obtain ⟨r, hr⟩ : ∃ r, r = enAb x y := ⟨_, rfl⟩
  rw [← hr]
  unfold enAb at hr
  have HR := Lib.hid hr
  clear hr
  simp only [En.cells]
  by_cases h : x.s > y.s <;>
  · have H := Lib.hid h
    go_enter Tryz.func46, Tryz.ntmps46
    go_wp2
    go_ret
    refine ⟨?_, ((Below.refl _ _).alloc (Nat.le_refl _) _).alloc (by simp) _⟩
    rw [HR.out]; have := H.out; simp; omega

theorem rq_load {w' : World} {g : Nat} {x : En} (h : w'.heap[g]? = some (.cells x.cells.toArray 80 (0, 0))) : (Instr.loadAt 27 (.pointer (some ⟨g, 2, none⟩))).run Tryz.prog w' = .ok (.agg x.rq.cells.toArray) w' := by
  have q2 : w'.cell? ⟨g, 2, none⟩ = some (.int .u8 x.rq.c) := by rw [cell_of_row _ _ _ _ _ _ h]; rfl
  have q3 : w'.cell? ⟨g, 3, none⟩ = some (.int .u32 x.rq.t) := by rw [cell_of_row _ _ _ _ _ _ h]; rfl
  have q4 : w'.cell? ⟨g, 4, none⟩ = some (.int .u8 x.rq.k) := by rw [cell_of_row _ _ _ _ _ _ h]; rfl
  have q5 : w'.cell? ⟨g, 5, none⟩ = some (.int .u8 x.rq.y) := by rw [cell_of_row _ _ _ _ _ _ h]; rfl
  have q6 : w'.cell? ⟨g, 6, none⟩ = some (.int .u16 x.rq.v) := by rw [cell_of_row _ _ _ _ _ _ h]; rfl
  have u5 := Tryz.underlying5; have a5 := Tryz.isAgg5; have z5 := Tryz.sizeOf5
  simp only [Rq.cells]
  have a27 := Tryz.isAgg27; have z27 := Tryz.sizeOf27; have u27 := Tryz.underlying27
  go_simp

set_option maxHeartbeats 4000000 in
theorem bySeqAndText_any (x y : En) (hx : x.rq.ok) (hy : y.rq.ok) (w : World) (ht : Tab w) : Calls Tryz.prog 47 #[.agg x.cells.toArray, .agg y.cells.toArray] w fun e w' => e = .returned (.bool (enAt x y)) ∧ Below w.heap.size w w' := by
  obtain ⟨r, hr⟩ : ∃ r, r = enAt x y := ⟨_, rfl⟩
  rw [← hr]
  unfold enAt at hr
  obtain ⟨W, hW⟩ : ∃ W, W = (w.alloc (.cells x.cells.toArray 80)).alloc (.cells y.cells.toArray 80) := ⟨_, rfl⟩
  have hWs : W.heap.size = w.heap.size + 2 := by rw [hW]; simp
  have hWb := bl2 hW
  have fa : ∀ w', Below W.heap.size W w' → w'.heap[w.heap.size]? = some (.cells x.cells.toArray 80 (0, 0)) := fun w' h => by rw [h.block w.heap.size (by omega), hW]; exact heap_alloc2_old _ _ _
  have fb : ∀ w', Below W.heap.size W w' → w'.heap[w.heap.size + 1]? = some (.cells y.cells.toArray 80 (0, 0)) := fun w' h => by rw [h.block (w.heap.size + 1) (by omega), hW]; exact heap_alloc2_new _ _ _
  have q0 : W.cell? ⟨w.heap.size, 0, none⟩ = some (.int .u32 x.s) := by rw [cell_of_row _ _ _ _ _ _ (fa W (Below.refl _ _))]; rfl
  have q1 : W.cell? ⟨w.heap.size + 1, 0, none⟩ = some (.int .u32 y.s) := by rw [cell_of_row _ _ _ _ _ _ (fb W (Below.refl _ _))]; rfl
  have hT := Tab.on ht hWb
  have LA := Lib.hid (fun w' h => rq_load (fa w' h))
  have LB := Lib.hid (fun w' h => rq_load (fb w' h))
  have CA := Lib.hid (fun w' (h : Below W.heap.size W w') => text_any x.rq hx w' (Tab.on hT h))
  have CB := Lib.hid (fun w' (h : Below W.heap.size W w') => text_any y.rq hy w' (Tab.on hT h))
  have HWB := Lib.hid hWb
  have HWS := Lib.hid hWs
  have hW0 := Below.refl W.heap.size W
  have HR := Lib.hid hr
  simp only [En.cells] at hW ⊢
  have HW := Lib.hid hW
  clear hWb hWs hW fa fb hT ht hr
  go_enter Tryz.func47, Tryz.ntmps47
  go_upto_region 1 with fail
  rw [← HW.out]
  clear HW
  generalize (#[.int .u32 x.s, .int .u32 x.v, .int .u8 x.rq.c, .int .u32 x.rq.t, .int .u8 x.rq.k, .int .u8 x.rq.y, .int .u16 x.rq.v] : Array Value) = xa
  generalize (#[.int .u32 y.s, .int .u32 y.v, .int .u8 y.rq.c, .int .u32 y.rq.t, .int .u8 y.rq.k, .int .u8 y.rq.y, .int .u16 y.rq.v] : Array Value) = ya
  by_cases h : x.s = y.s
  · have d : (x.s == y.s) = true := by simp [h]
    have HE := Lib.hid h
    clear h
    unfold textGt at HR
    generalize (⟨x.rq.text.toArray⟩ : ByteArray) = ta at *
    generalize (⟨y.rq.text.toArray⟩ : ByteArray) = tb at *
    generalize x.rq.cells.toArray = ra at *
    generalize y.rq.cells.toArray = rb at *
    generalize hg : w.heap.size = g at *
    go_upto_region 3 with fail
    generalize Value.bool (x.s != y.s) = u9
    refine wp_region_held_drew (S := fun w' => Below W.heap.size W w') (by kernel_rfl) hW0.drew (fun hS => ?_)
    refine tg 0 (.pointer (some ⟨g, 2, none⟩)) rfl hS ?_
    refine tk 1 (.agg ra) rfl (yi_load 27 (.tmp 15) _ rfl rfl rfl LA.out) hS ?_
    refine tg 3 (.pointer (some ⟨g + 1, 2, none⟩)) rfl hS ?_
    refine tk 4 (.agg rb) rfl (yi_load 27 (.tmp 18) _ rfl rfl rfl LB.out) hS ?_
    refine rdy1 2 rfl (fun K hK => ?_)
    rw [if_pos (by rfl)]
    go_simp
    refine Calls.mono (CA.out _ hS) ?_
    rintro e w2 ⟨rfl, hb⟩
    refine hK.out _ w2 (Below.up hS hb) (fun hS => ?_)
    clear hK K hb
    refine rdy1 5 rfl (fun K hK => ?_)
    rw [if_pos (by rfl)]
    go_simp
    refine Calls.mono (CB.out _ hS) ?_
    rintro e w3 ⟨rfl, hb⟩
    refine hK.out _ w3 (Below.up hS hb) (fun hS => ?_)
    clear hK K hb
    refine tg 6 (.bool (!(Op.bytesLess ta.toList tb.toList || ta.toList == tb.toList))) rfl hS ?_
    refine tm 7 (.bool (!(Op.bytesLess ta.toList tb.toList || ta.toList == tb.toList))) rfl hS ?_
    refine wpAnyH_done (by kernel_rfl) ?_ _
    go_wp2_with fail
    go_ret
    refine ⟨?_, by rw [hg]; exact HWB.out.trans (hS.mono (by rw [HWS.out]; omega))⟩
    rw [HR.out, if_pos HE.out]; rfl
  · have d : (x.s == y.s) = false := by simp [h]
    have HE := Lib.hid h
    clear h
    by_cases h2 : x.s > y.s <;>
    · have H2 := Lib.hid h2
      go_wp2_with fail
      go_ret
      refine ⟨?_, HWB.out⟩
      rw [HR.out, if_neg HE.out]; have := H2.out; simp; omega
end Go.Proofs.YtbpfkeeikhhlnaaGreatDoor
