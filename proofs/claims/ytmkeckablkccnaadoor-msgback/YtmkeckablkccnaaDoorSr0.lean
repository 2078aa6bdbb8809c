/- Readers once more: what they have left lies ahead of them in memory. -/
import Derived.Test.YtmkeckablkccnaaDoorKnown
namespace Go.Proofs.YtmkeckablkccnaaDoor
open Go.RowKit
set_option maxRecDepth 100000

/-- at block R lies a reader that has the bytes l left; they lie in an elder block -/
def Rb (w : World) (R : Nat) (l : List Int) : Prop :=
  ∃ ao cap, w.heap[R]? = some (.cells #[.slice ao l.length cap] 113 (0, 0)) ∧ Bytes w ao l ∧ l.length ≤ cap ∧ (ao = none → cap = 0) ∧ (∀ ad, ao = some ad → 0 < l.length → ad.block < R) ∧ ∀ x ∈ l, isByte x
theorem Rb.toRd {w : World} {R : Nat} {l : List Int} (h : Rb w R l) : Rd w R l := by
  obtain ⟨ao, cap, h1, h2, h3, h4, h5, h6⟩ := h
  exact ⟨ao, cap, h1, h2, h3, h4, fun ad e hp => Nat.ne_of_lt (h5 ad e hp), h6⟩
theorem Rd.up {w : World} {R : Nat} {l : List Int} {ao : Option Addr} {n cap : Nat} (h : Rd w R l) (hb : w.heap[R]? = some (.cells #[.slice ao n cap] 113 (0, 0))) (hlt : ∀ ad, ao = some ad → 0 < l.length → ad.block < R) : Rb w R l := by
  obtain ⟨ao', cap', h1, h2, h3, h4, h5, h6⟩ := h
  have e := h1
  rw [hb] at e
  simp at e
  obtain ⟨rfl, _, _⟩ := e
  exact ⟨ao, cap', h1, h2, h3, h4, hlt, h6⟩
theorem Rb.lt {w : World} {R : Nat} {l : List Int} (h : Rb w R l) : R < w.heap.size := h.toRd.lt
theorem Rb.byte {w : World} {R : Nat} {l : List Int} (h : Rb w R l) (i : Nat) (hi : i < l.length) : isByte (l.getD i 0) := h.toRd.byte i hi
theorem Rb.kept {S : Nat → Prop} {w w' : World} {R : Nat} {l : List Int} (h : Rb w R l) (hk : Kept S w w') (hS : ∀ k, k ≤ R → ¬ S k) : Rb w' R l := by
  obtain ⟨ao, cap, hb, hB, hcap, hnone, hne, hby⟩ := h
  refine ⟨ao, cap, ?_, bytes_kept hB hk (fun ad e hpos => hS _ (Nat.le_of_lt (hne ad e hpos))), hcap, hnone, hne, hby⟩
  rw [hk.block R (lt_of_block hb) (hS R (Nat.le_refl _))]; exact hb
theorem Rb.below {w w' : World} {R : Nat} {l : List Int} (h : Rb w R l) (hk : Below w.heap.size w w') : Rb w' R l := h.kept (Kept.ofBelow (S := fun _ => False) hk) (fun _ _ h => h)
theorem Rb.drewN {w : World} {R : Nat} {l : List Int} (h : Rb w R l) (n : Nat) : Rb (w.drewN n) R l := h.kept ((Kept.refl (fun _ => False) w).drewN n) (fun _ _ h => h)

theorem take_b (w : World) (R : Nat) (l : List Int) (n : Nat) (h : Rb w R l) (hn : n ≤ l.length) (hl : l.length ≤ 1000000) :
    Calls Tryd.prog 98 #[.pointer (some ⟨R, 0, none⟩), .int .i64 n] w fun e w' => ∃ ao c, e = .returned (.slice ao n c) ∧ n ≤ c ∧ Bytes w' ao (l.take n) ∧ (ao = none → c = 0) ∧ Rb w' R (l.drop n) ∧ Kept (fun k => k = R) w w' := by
  obtain ⟨ao, cap, hb, hB, hcap, hnone, hne, hby⟩ := h
  cases ao with
  | none =>
    obtain rfl := hnone rfl
    obtain rfl : l = [] := List.eq_nil_of_length_eq_zero (by omega)
    obtain rfl : n = 0 := by simpa using hn
    refine (take_none w R hb).mono ?_
    rintro e w' ⟨rfl, rfl⟩
    exact ⟨none, 0, rfl, Nat.le_refl _, fun i h => by simp at h, fun _ => rfl, ⟨none, 0, one_setCell hb, fun i h => by simp at h, Nat.le_refl _, fun _ => rfl, fun _ _ h => by simp at h, fun x hx => by simp at hx⟩, (Kept.refl _ w).setCell _ _ (fun _ => rfl)⟩
  | some ad =>
    refine (take_raw w R ad l.length cap n hb hn hcap hl).mono ?_
    rintro e w' ⟨rfl, rfl⟩
    refine ⟨some ad, cap, rfl, by omega, ?_, fun h => by (cases h), (rd_drop hb hB hcap (fun hp => Nat.ne_of_lt (hne ad rfl hp)) hby hn).up (one_setCell hb) ?_, (Kept.refl _ w).setCell _ _ (fun _ => rfl)⟩
    · intro i hi
      simp only [List.length_take] at hi
      obtain ⟨ad', e, h⟩ := hB i (by omega)
      injection e with e; subst e
      refine ⟨_, rfl, ?_⟩
      rw [World.cell?_of_block (w := w) (Below.heap_setCell _ _ _ _ (by rw [add_block]; exact Nat.ne_of_lt (hne ad rfl (by omega)))), h]
      simp [List.getD_eq_getElem?_getD, show i < n from by omega]
    · intro a e hpos
      rw [List.length_drop] at hpos
      injection e with e
      have hlt := hne ad rfl (by omega)
      rw [← e]
      split
      · exact hlt
      · rw [add_block]; exact hlt

set_option maxHeartbeats 1600000 in
theorem open_b (w : World) (ao : Option Addr) (cap : Nat) (l : List Int) (hb : Bytes w ao l) (hnone : ao = none → l = [] ∧ cap = 0) (hl : l.length ≤ 1000000) (hby : ∀ x ∈ l, isByte x) :
    Calls Tryd.prog 35 #[.slice ao l.length cap] w fun e w' => ∃ R, e = .returned (.pointer (some ⟨R, 0, none⟩)) ∧ w.heap.size ≤ R ∧ Rb w' R l ∧ Below w.heap.size w w' := by
  have C := Lib.hid (clone_any w ao cap l hb hnone hl)
  have HY := Lib.hid hby
  clear hb hnone hby
  generalize hm : l.length = m at *
  have HM := Lib.hid hm
  clear hm
  go_enter Tryd.func35, Tryd.ntmps35
  go_wp2_with fail
  refine C.out.mono ?_
  rintro e w' ⟨ao', c', rfl, hn, hk⟩
  have HN := Lib.hid hn
  have HK := Lib.hid hk
  clear hn hk
  go_wp2_with fail
  go_ret
  have hle := HK.out.size
  refine ⟨w'.heap.size, rfl, hle, ?_, HK.out.alloc hle _⟩
  obtain ⟨ho, hfr⟩ := HN.out
  have hM := HM.out
  subst hM
  have ho2 := ho
  obtain ⟨ao2, c2, e2, hno⟩ := own_form ho2
  injection e2 with e3 e4 e5
  subst e3 e5
  refine ⟨ao', c', heap_alloc_new _ _, own_bytes (ho.alloc _), ?_, fun e => (hno e).2, ?_, HY.out⟩
  · rcases ho.2 with ⟨_, h0⟩ | ⟨g, c3, cur, hv, _, _, h1, _⟩
    · omega
    · injection hv with _ _ hv; omega
  · intro ad e _
    subst e
    have := own_lt ho (g := ad.block) rfl
    omega

set_option maxHeartbeats 1600000 in
theorem r8_b (w : World) (R : Nat) (l : List Int) (h : Rb w R l) (h1 : 1 ≤ l.length) (hl : l.length ≤ 1000000) :
    Calls Tryd.prog 66 #[.pointer (some ⟨R, 0, none⟩)] w fun e w' => e = .returned (.tuple #[.int .u8 (l.getD 0 0), .int .i64 0]) ∧ Rb w' R (l.drop 1) ∧ Kept (fun k => k = R) w w' := by
  have T := Lib.hid (take_b w R l 1 h h1 hl)
  obtain ⟨x0, hx0⟩ : ∃ x, x = l.getD 0 0 := ⟨_, rfl⟩
  have y0 : isByte x0 := by rw [hx0]; exact h.byte 0 (by omega)
  have HX0 := Lib.hid hx0
  clear hx0
  obtain ⟨ao, cap, hb, _⟩ := h
  have hc := cell_of_one hb
  clear hb
  generalize hm : l.length = m at *
  have HM := Lib.hid hm
  clear hm
  go_enter Tryd.func66, Tryd.ntmps66
  go_wp2_with fail
  refine T.out.mono ?_
  rintro e w' ⟨ao', c', rfl, hc1, hB, hnn, hR, hK⟩
  obtain ⟨g, off, rfl, hcell⟩ := bytes_at hB (by rw [List.length_take, HM.out]; omega)
  have c0 := hcell 0 (by rw [List.length_take, HM.out]; omega)
  rw [getD_take l 1 0 (by omega), ← HX0.out, Nat.add_zero] at c0
  have HR := Lib.hid hR
  have HK := Lib.hid hK
  clear hB hnn hR hK hcell
  go_wp2_with fail
  exact bodyPost_ret (v := .tuple #[.int .u8 x0, .int .i64 0]) (by simp [results, Tryd.results70, go_sem]) rfl ⟨by rw [HX0.out], HR.out, HK.out⟩

set_option maxHeartbeats 1600000 in
theorem r16_b (w : World) (R : Nat) (l : List Int) (h : Rb w R l) (h1 : 2 ≤ l.length) (hl : l.length ≤ 1000000) :
    Calls Tryd.prog 126 #[.pointer (some ⟨R, 0, none⟩)] w fun e w' => e = .returned (.tuple #[.int .u16 (rd16 l), .int .i64 0]) ∧ Rb w' R (l.drop 2) ∧ Kept (fun k => k = R) w w' := by
  have T := Lib.hid (take_b w R l 2 h h1 hl)
  obtain ⟨x0, hx0⟩ : ∃ x, x = l.getD 0 0 := ⟨_, rfl⟩
  have y0 : isByte x0 := by rw [hx0]; exact h.byte 0 (by omega)
  obtain ⟨x1, hx1⟩ : ∃ x, x = l.getD 1 0 := ⟨_, rfl⟩
  have y1 : isByte x1 := by rw [hx1]; exact h.byte 1 (by omega)
  have HX0 := Lib.hid hx0
  have HX1 := Lib.hid hx1
  clear hx0 hx1
  obtain ⟨ao, cap, hb, _⟩ := h
  have hc := cell_of_one hb
  clear hb
  generalize hm : l.length = m at *
  have HM := Lib.hid hm
  clear hm
  go_enter Tryd.func126, Tryd.ntmps126
  go_wp2_with fail
  refine T.out.mono ?_
  rintro e w' ⟨ao', c', rfl, hc1, hB, hnn, hR, hK⟩
  obtain ⟨g, off, rfl, hcell⟩ := bytes_at hB (by rw [List.length_take, HM.out]; omega)
  have c0 := hcell 0 (by rw [List.length_take, HM.out]; omega)
  rw [getD_take l 2 0 (by omega), ← HX0.out, Nat.add_zero] at c0
  have c1 := hcell 1 (by rw [List.length_take, HM.out]; omega)
  rw [getD_take l 2 1 (by omega), ← HX1.out] at c1
  have HR := Lib.hid hR
  have HK := Lib.hid hK
  clear hB hnn hR hK hcell
  have J := Lib.hid (join16_any w' g off 2 c' x0 x1 (by omega) y0 y1 c0 c1)
  go_wp2_with fail
  refine J.out.mono ?_
  rintro e w2 ⟨rfl, n, rfl⟩
  go_wp2_with fail
  exact bodyPost_ret (v := .tuple #[.int .u16 (x0 * 256 + x1), .int .i64 0]) (by simp [results, Tryd.results122, go_sem]) rfl ⟨by rw [HX0.out, HX1.out]; rfl, HR.out.drewN n, HK.out.drewN n⟩

set_option maxHeartbeats 1600000 in
theorem r32_b (w : World) (R : Nat) (l : List Int) (h : Rb w R l) (h1 : 4 ≤ l.length) (hl : l.length ≤ 1000000) :
    Calls Tryd.prog 100 #[.pointer (some ⟨R, 0, none⟩)] w fun e w' => e = .returned (.tuple #[.int .u32 (rd32 l), .int .i64 0]) ∧ Rb w' R (l.drop 4) ∧ Kept (fun k => k = R) w w' := by
  have T := Lib.hid (take_b w R l 4 h h1 hl)
  obtain ⟨x0, hx0⟩ : ∃ x, x = l.getD 0 0 := ⟨_, rfl⟩
  have y0 : isByte x0 := by rw [hx0]; exact h.byte 0 (by omega)
  obtain ⟨x1, hx1⟩ : ∃ x, x = l.getD 1 0 := ⟨_, rfl⟩
  have y1 : isByte x1 := by rw [hx1]; exact h.byte 1 (by omega)
  obtain ⟨x2, hx2⟩ : ∃ x, x = l.getD 2 0 := ⟨_, rfl⟩
  have y2 : isByte x2 := by rw [hx2]; exact h.byte 2 (by omega)
  obtain ⟨x3, hx3⟩ : ∃ x, x = l.getD 3 0 := ⟨_, rfl⟩
  have y3 : isByte x3 := by rw [hx3]; exact h.byte 3 (by omega)
  have HX0 := Lib.hid hx0
  have HX1 := Lib.hid hx1
  have HX2 := Lib.hid hx2
  have HX3 := Lib.hid hx3
  clear hx0 hx1 hx2 hx3
  obtain ⟨ao, cap, hb, _⟩ := h
  have hc := cell_of_one hb
  clear hb
  generalize hm : l.length = m at *
  have HM := Lib.hid hm
  clear hm
  go_enter Tryd.func100, Tryd.ntmps100
  go_wp2_with fail
  refine T.out.mono ?_
  rintro e w' ⟨ao', c', rfl, hc1, hB, hnn, hR, hK⟩
  obtain ⟨g, off, rfl, hcell⟩ := bytes_at hB (by rw [List.length_take, HM.out]; omega)
  have c0 := hcell 0 (by rw [List.length_take, HM.out]; omega)
  rw [getD_take l 4 0 (by omega), ← HX0.out, Nat.add_zero] at c0
  have c1 := hcell 1 (by rw [List.length_take, HM.out]; omega)
  rw [getD_take l 4 1 (by omega), ← HX1.out] at c1
  have c2 := hcell 2 (by rw [List.length_take, HM.out]; omega)
  rw [getD_take l 4 2 (by omega), ← HX2.out] at c2
  have c3 := hcell 3 (by rw [List.length_take, HM.out]; omega)
  rw [getD_take l 4 3 (by omega), ← HX3.out] at c3
  have HR := Lib.hid hR
  have HK := Lib.hid hK
  clear hB hnn hR hK hcell
  have J := Lib.hid (join32_any w' g off 4 c' x0 x1 x2 x3 (by omega) hc1 y0 y1 y2 y3 c0 c1 c2 c3)
  go_wp2_with fail
  refine J.out.mono ?_
  rintro e w2 ⟨rfl, n, rfl⟩
  go_wp2_with fail
  exact bodyPost_ret (v := .tuple #[.int .u32 ((x0 * 256 + x1) * 65536 + (x2 * 256 + x3)), .int .i64 0]) (by simp [results, Tryd.results101, go_sem]) rfl ⟨by rw [HX0.out, HX1.out, HX2.out, HX3.out]; rfl, HR.out.drewN n, HK.out.drewN n⟩

set_option maxHeartbeats 1600000 in
theorem r64_b (w : World) (R : Nat) (l : List Int) (h : Rb w R l) (h1 : 8 ≤ l.length) (hl : l.length ≤ 1000000) :
    Calls Tryd.prog 103 #[.pointer (some ⟨R, 0, none⟩)] w fun e w' => e = .returned (.tuple #[.int .u64 (rd64 l), .int .i64 0]) ∧ Rb w' R (l.drop 8) ∧ Kept (fun k => k = R) w w' := by
  have T := Lib.hid (take_b w R l 8 h h1 hl)
  obtain ⟨x0, hx0⟩ : ∃ x, x = l.getD 0 0 := ⟨_, rfl⟩
  have y0 : isByte x0 := by rw [hx0]; exact h.byte 0 (by omega)
  obtain ⟨x1, hx1⟩ : ∃ x, x = l.getD 1 0 := ⟨_, rfl⟩
  have y1 : isByte x1 := by rw [hx1]; exact h.byte 1 (by omega)
  obtain ⟨x2, hx2⟩ : ∃ x, x = l.getD 2 0 := ⟨_, rfl⟩
  have y2 : isByte x2 := by rw [hx2]; exact h.byte 2 (by omega)
  obtain ⟨x3, hx3⟩ : ∃ x, x = l.getD 3 0 := ⟨_, rfl⟩
  have y3 : isByte x3 := by rw [hx3]; exact h.byte 3 (by omega)
  obtain ⟨x4, hx4⟩ : ∃ x, x = l.getD 4 0 := ⟨_, rfl⟩
  have y4 : isByte x4 := by rw [hx4]; exact h.byte 4 (by omega)
  obtain ⟨x5, hx5⟩ : ∃ x, x = l.getD 5 0 := ⟨_, rfl⟩
  have y5 : isByte x5 := by rw [hx5]; exact h.byte 5 (by omega)
  obtain ⟨x6, hx6⟩ : ∃ x, x = l.getD 6 0 := ⟨_, rfl⟩
  have y6 : isByte x6 := by rw [hx6]; exact h.byte 6 (by omega)
  obtain ⟨x7, hx7⟩ : ∃ x, x = l.getD 7 0 := ⟨_, rfl⟩
  have y7 : isByte x7 := by rw [hx7]; exact h.byte 7 (by omega)
  have HX0 := Lib.hid hx0
  have HX1 := Lib.hid hx1
  have HX2 := Lib.hid hx2
  have HX3 := Lib.hid hx3
  have HX4 := Lib.hid hx4
  have HX5 := Lib.hid hx5
  have HX6 := Lib.hid hx6
  have HX7 := Lib.hid hx7
  clear hx0 hx1 hx2 hx3 hx4 hx5 hx6 hx7
  obtain ⟨ao, cap, hb, _⟩ := h
  have hc := cell_of_one hb
  clear hb
  generalize hm : l.length = m at *
  have HM := Lib.hid hm
  clear hm
  go_enter Tryd.func103, Tryd.ntmps103
  go_wp2_with fail
  refine T.out.mono ?_
  rintro e w' ⟨ao', c', rfl, hc1, hB, hnn, hR, hK⟩
  obtain ⟨g, off, rfl, hcell⟩ := bytes_at hB (by rw [List.length_take, HM.out]; omega)
  have c0 := hcell 0 (by rw [List.length_take, HM.out]; omega)
  rw [getD_take l 8 0 (by omega), ← HX0.out, Nat.add_zero] at c0
  have c1 := hcell 1 (by rw [List.length_take, HM.out]; omega)
  rw [getD_take l 8 1 (by omega), ← HX1.out] at c1
  have c2 := hcell 2 (by rw [List.length_take, HM.out]; omega)
  rw [getD_take l 8 2 (by omega), ← HX2.out] at c2
  have c3 := hcell 3 (by rw [List.length_take, HM.out]; omega)
  rw [getD_take l 8 3 (by omega), ← HX3.out] at c3
  have c4 := hcell 4 (by rw [List.length_take, HM.out]; omega)
  rw [getD_take l 8 4 (by omega), ← HX4.out] at c4
  have c5 := hcell 5 (by rw [List.length_take, HM.out]; omega)
  rw [getD_take l 8 5 (by omega), ← HX5.out] at c5
  have c6 := hcell 6 (by rw [List.length_take, HM.out]; omega)
  rw [getD_take l 8 6 (by omega), ← HX6.out] at c6
  have c7 := hcell 7 (by rw [List.length_take, HM.out]; omega)
  rw [getD_take l 8 7 (by omega), ← HX7.out] at c7
  have HR := Lib.hid hR
  have HK := Lib.hid hK
  clear hB hnn hR hK hcell
  have hc' : ¬ c' = 2 := by omega
  have hc2 : ¬ c' = 4 := by omega
  go_wp2_with fail
  go_quiet (first
    | (go_at_call 108; refine Calls.quiet_of (join16_any _ g (off + 2) 6 (c' - 2) x2 x3 (by omega) y2 y3 ?_ ?_) <;> simpa [Nat.add_assoc])
    | (go_at_call 124; refine Calls.quiet_of (join32_any _ g (off + 4) 4 (c' - 4) x4 x5 x6 x7 (by omega) (by omega) y4 y5 y6 y7 ?_ ?_ ?_ ?_) <;> simpa [Nat.add_assoc])
    | (go_at_call 127; exact Calls.quiet_of_same (pack_any x0 x1 (x2 * 256 + x3) ((x4 * 256 + x5) * 65536 + (x6 * 256 + x7)) _ y0 y1 (two_bytes y2 y3) (four_bytes y4 y5 y6 y7))))
  go_wp2_with fail
  exact bodyPost_ret (v := .tuple #[.int .u64 (packI x0 x1 (x2 * 256 + x3) ((x4 * 256 + x5) * 65536 + (x6 * 256 + x7))), .int .i64 0]) (by simp [results, Tryd.results104, go_sem]) rfl ⟨by rw [HX0.out, HX1.out, HX2.out, HX3.out, HX4.out, HX5.out, HX6.out, HX7.out]; rfl, HR.out.drewN _, HK.out.drewN _⟩

set_option maxHeartbeats 1600000 in
theorem rb_b (w : World) (R : Nat) (l : List Int) (most : Int) (h : Rb w R l) (h2 : 2 ≤ l.length) (hl : l.length ≤ 1000000) (k : Nat) (hk : rd16 l = (k : Int)) (hmost : (k : Int) ≤ most) (hfit : 2 + k ≤ l.length) :
    Calls Tryd.prog 75 #[.pointer (some ⟨R, 0, none⟩), .int .i64 most] w fun e w' => ∃ ao c, e = .returned (.tuple #[.slice ao k c, .int .i64 0]) ∧ New w.heap.size w' ao c ((l.drop 2).take k) ∧ Rb w' R (l.drop (2 + k)) ∧ Kept (fun j => j = R) w w' := by
  have hr := rd16_range h.toRd h2
  have h0 := h
  have hlt := h.lt
  obtain ⟨ao, cap, hb, hB, _⟩ := h
  obtain ⟨g, off, rfl, hJ⟩ := rd_head h0.toRd h2 hb hB
  rw [hk] at hJ
  have hk2 : k ≤ 65535 := by omega
  have J := Lib.hid hJ
  have H0 := Lib.hid h0
  have hc := cell_of_one hb
  clear hb hB hJ h0 hr hk
  generalize hm : l.length = m at *
  have HM := Lib.hid hm
  clear hm
  go_enter Tryd.func75, Tryd.ntmps75
  go_wp2_with fail
  refine J.out.mono ?_
  rintro e w2 ⟨rfl, n, rfl⟩
  have T := Lib.hid (take_b (w.drewN n) R l 2 (H0.out.drewN n) (by rw [HM.out]; exact h2) (by rw [HM.out]; exact hl))
  go_wp2_with fail
  refine T.out.mono ?_
  rintro e w3 ⟨ao3, c3, rfl, -, -, -, hR3, hK3⟩
  have T3 := Lib.hid (take_b w3 R (l.drop 2) k hR3 (by rw [List.length_drop, HM.out]; omega) (by rw [List.length_drop, HM.out]; omega))
  have K3 := Lib.hid (((Kept.refl _ w).drewN n).trans hK3 (fun _ _ e => e))
  clear hR3 hK3
  go_wp2_with fail
  refine T3.out.mono ?_
  rintro e w4 ⟨ao4, c4, rfl, hc4, hB4, hn4, hR4, hK4⟩
  have hlen : ((l.drop 2).take k).length = k := by rw [List.length_take, List.length_drop, HM.out]; omega
  have C := Lib.hid (clone_any w4 ao4 c4 ((l.drop 2).take k) hB4 (fun e => ⟨List.eq_nil_of_length_eq_zero (by have := hn4 e; omega), hn4 e⟩) (by omega))
  have K4 := Lib.hid (K3.out.trans hK4 (fun _ _ e => e))
  have R4 := Lib.hid hR4
  have HL := Lib.hid hlen
  have C2 := C
  rw [hlen] at C2
  clear hB4 hn4 hR4 hK4 hlen C
  go_wp2_with fail
  refine C2.out.mono ?_
  rintro e w5 ⟨ao5, c5, rfl, hN, hK5⟩
  have HN := Lib.hid hN
  have HK5 := Lib.hid hK5
  clear hN hK5
  go_wp2_with fail
  refine bodyPost_ret (v := .tuple #[.slice ao5 k c5, .int .i64 0]) (by simp [results, Tryd.results79, go_sem]) rfl ⟨ao5, c5, rfl, ⟨HN.out.1, fun ad e => Nat.le_trans K4.out.size (HN.out.2 ad e)⟩, ?_, ?_⟩
  · have := R4.out.below HK5.out
    rw [List.drop_drop] at this
    exact this
  · exact K4.out.trans (Kept.ofBelow (S := fun _ => False) HK5.out) (fun _ _ h => h.elim)
end Go.Proofs.YtmkeckablkccnaaDoor
