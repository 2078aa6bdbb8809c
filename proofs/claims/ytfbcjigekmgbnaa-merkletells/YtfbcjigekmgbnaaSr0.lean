/- Readers once more: what they have left lies ahead of them in memory. -/
import Derived.Test.YtfbcjigekmgbnaaOwn
namespace Go.Proofs.Ytfbcjigekmgbnaa
open Go.RowKit
set_option maxRecDepth 100000

/-- at block R lies a reader that has the bytes l left; they lie in an elder block -/
def Rb (G : Nat) (w : World) (R : Nat) (l : List Int) : Prop :=
  G ≤ R ∧ ∃ ao cap, w.heap[R]? = some (.cells #[.slice ao l.length cap] 98 (0, 0)) ∧ Bytes w ao l ∧ l.length ≤ cap ∧ (ao = none → cap = 0) ∧ (∀ ad, ao = some ad → 0 < l.length → G ≤ ad.block ∧ ad.block < R) ∧ ∀ x ∈ l, isByte x
variable {G : Nat}
theorem Rb.toRd {w : World} {R : Nat} {l : List Int} (h : Rb G w R l) : Rd w R l := by
  obtain ⟨hG, ao, cap, h1, h2, h3, h4, h5, h6⟩ := h
  exact ⟨ao, cap, h1, h2, h3, h4, fun ad e hp => Nat.ne_of_lt (h5 ad e hp).2, h6⟩
theorem Rd.up {w : World} {R : Nat} {l : List Int} {ao : Option Addr} {n cap : Nat} (h : Rd w R l) (hb : w.heap[R]? = some (.cells #[.slice ao n cap] 98 (0, 0))) (hG : G ≤ R) (hlt : ∀ ad, ao = some ad → 0 < l.length → G ≤ ad.block ∧ ad.block < R) : Rb G w R l := by
  obtain ⟨ao', cap', h1, h2, h3, h4, h5, h6⟩ := h
  have e := h1
  rw [hb] at e
  simp at e
  obtain ⟨rfl, _, _⟩ := e
  exact ⟨hG, ao, cap', h1, h2, h3, h4, hlt, h6⟩
theorem Rb.lt {w : World} {R : Nat} {l : List Int} (h : Rb G w R l) : R < w.heap.size := h.toRd.lt
theorem Rb.byte {w : World} {R : Nat} {l : List Int} (h : Rb G w R l) (i : Nat) (hi : i < l.length) : isByte (l.getD i 0) := h.toRd.byte i hi
theorem Rb.kept {S : Nat → Prop} {w w' : World} {R : Nat} {l : List Int} (h : Rb G w R l) (hk : Kept S w w') (hS : ∀ k, G ≤ k → ¬ S k) : Rb G w' R l := by
  obtain ⟨hG, ao, cap, hb, hB, hcap, hnone, hne, hby⟩ := h
  refine ⟨hG, ao, cap, ?_, bytes_kept hB hk (fun ad e hpos => hS _ (hne ad e hpos).1), hcap, hnone, hne, hby⟩
  rw [hk.block R (lt_of_block hb) (hS R hG)]; exact hb

theorem Rb.drewN {w : World} {R : Nat} {l : List Int} (h : Rb G w R l) (n : Nat) : Rb G (w.drewN n) R l := h.kept ((Kept.refl (fun _ => False) w).drewN n) (fun _ _ h => h)

theorem take_b (w : World) (R : Nat) (l : List Int) (n : Nat) (h : Rb G w R l) (hn : n ≤ l.length) (hl : l.length ≤ 1000000) :
    Calls Try.prog 59 #[.pointer (some ⟨R, 0, none⟩), .int .i64 n] w fun e w' => ∃ ao c, e = .returned (.slice ao n c) ∧ n ≤ c ∧ Bytes w' ao (l.take n) ∧ (ao = none → c = 0) ∧ Rb G w' R (l.drop n) ∧ Kept (fun k => k = R) w w' := by
  obtain ⟨hG, ao, cap, hb, hB, hcap, hnone, hne, hby⟩ := h
  cases ao with
  | none =>
    obtain rfl := hnone rfl
    obtain rfl : l = [] := List.eq_nil_of_length_eq_zero (by omega)
    obtain rfl : n = 0 := by simpa using hn
    refine (take_none w R hb).mono ?_
    rintro e w' ⟨rfl, rfl⟩
    exact ⟨none, 0, rfl, Nat.le_refl _, fun i h => by simp at h, fun _ => rfl, ⟨hG, none, 0, one_setCell hb, fun i h => by simp at h, Nat.le_refl _, fun _ => rfl, fun _ _ h => by simp at h, fun x hx => by simp at hx⟩, (Kept.refl _ w).setCell _ _ (fun _ => rfl)⟩
  | some ad =>
    refine (take_raw w R ad l.length cap n hb hn hcap hl).mono ?_
    rintro e w' ⟨rfl, rfl⟩
    refine ⟨some ad, cap, rfl, by omega, ?_, fun h => by (cases h), (rd_drop hb hB hcap (fun hp => Nat.ne_of_lt (hne ad rfl hp).2) hby hn).up (one_setCell hb) hG ?_, (Kept.refl _ w).setCell _ _ (fun _ => rfl)⟩
    · intro i hi
      simp only [List.length_take] at hi
      obtain ⟨ad', e, h⟩ := hB i (by omega)
      injection e with e; subst e
      refine ⟨_, rfl, ?_⟩
      rw [World.cell?_of_block (w := w) (Below.heap_setCell _ _ _ _ (by rw [add_block]; exact Nat.ne_of_lt (hne ad rfl (by omega)).2)), h]
      simp [List.getD_eq_getElem?_getD, show i < n from by omega]
    · intro a e hpos
      rw [List.length_drop] at hpos
      injection e with e
      have hlt := hne ad rfl (by omega)
      rw [← e]
      split
      · exact hlt
      · rw [add_block]; exact hlt

set_option maxHeartbeats 1600000 in
theorem open_b (w : World) (ao : Option Addr) (cap : Nat) (l : List Int) (hb : Bytes w ao l) (hnone : ao = none → l = [] ∧ cap = 0) (hl : l.length ≤ 1000000) (hby : ∀ x ∈ l, isByte x) :
    Calls Try.prog 53 #[.slice ao l.length cap] w fun e w' => ∃ R, e = .returned (.pointer (some ⟨R, 0, none⟩)) ∧ w.heap.size ≤ R ∧ Rb w.heap.size w' R l ∧ Below w.heap.size w w' := by
  have C := Lib.hid (clone_any w ao cap l hb hnone hl)
  have HY := Lib.hid hby
  clear hb hnone hby
  generalize hm : l.length = m at *
  have HM := Lib.hid hm
  clear hm
  go_enter Try.func53, Try.ntmps53
  go_wp2_with fail
  refine C.out.mono ?_
  rintro e w' ⟨ao', c', rfl, hn, hk⟩
  have HN := Lib.hid hn
  have HK := Lib.hid hk
  clear hn hk
  go_wp2_with fail
  go_ret
  have hle := HK.out.size
  refine ⟨w'.heap.size, rfl, hle, ?_, HK.out.alloc hle _⟩
  obtain ⟨ho, hfr⟩ := HN.out
  have hM := HM.out
  subst hM
  have ho2 := ho
  obtain ⟨ao2, c2, e2, hno⟩ := own_form ho2
  injection e2 with e3 e4 e5
  subst e3 e5
  refine ⟨hle, ao', c', heap_alloc_new _ _, own_bytes (ho.alloc _), ?_, fun e => (hno e).2, ?_, HY.out⟩
  · rcases ho.2 with ⟨_, h0⟩ | ⟨g, c3, cur, hv, _, _, h1, _⟩
    · omega
    · injection hv with _ _ hv; omega
  · intro ad e _
    subst e
    exact ⟨hfr ad rfl, own_lt ho (g := ad.block) rfl⟩

set_option maxHeartbeats 1600000 in
theorem r8_b (w : World) (R : Nat) (l : List Int) (h : Rb G w R l) (h1 : 1 ≤ l.length) (hl : l.length ≤ 1000000) :
    Calls Try.prog 55 #[.pointer (some ⟨R, 0, none⟩)] w fun e w' => e = .returned (.tuple #[.int .u8 (l.getD 0 0), .int .i64 0]) ∧ Rb G w' R (l.drop 1) ∧ Kept (fun k => k = R) w w' := by
  have T := Lib.hid (take_b w R l 1 h h1 hl)
  obtain ⟨x0, hx0⟩ : ∃ x, x = l.getD 0 0 := ⟨_, rfl⟩
  have y0 : isByte x0 := by rw [hx0]; exact h.byte 0 (by omega)
  have HX0 := Lib.hid hx0
  clear hx0
  obtain ⟨_, ao, cap, hb, _⟩ := h
  have hc := cell_of_one hb
  clear hb
  generalize hm : l.length = m at *
  have HM := Lib.hid hm
  clear hm
  go_enter Try.func55, Try.ntmps55
  go_wp2_with fail
  refine T.out.mono ?_
  rintro e w' ⟨ao', c', rfl, hc1, hB, hnn, hR, hK⟩
  obtain ⟨g, off, rfl, hcell⟩ := bytes_at hB (by rw [List.length_take, HM.out]; omega)
  have c0 := hcell 0 (by rw [List.length_take, HM.out]; omega)
  rw [getD_take l 1 0 (by omega), ← HX0.out, Nat.add_zero] at c0
  have HR := Lib.hid hR
  have HK := Lib.hid hK
  clear hB hnn hR hK hcell
  go_wp2_with fail
  exact bodyPost_ret (v := .tuple #[.int .u8 x0, .int .i64 0]) (by simp [results, Try.results55, go_sem]) rfl ⟨by rw [HX0.out], HR.out, HK.out⟩

set_option maxHeartbeats 1600000 in
theorem r16_b (w : World) (R : Nat) (l : List Int) (h : Rb G w R l) (h1 : 2 ≤ l.length) (hl : l.length ≤ 1000000) :
    Calls Try.prog 57 #[.pointer (some ⟨R, 0, none⟩)] w fun e w' => e = .returned (.tuple #[.int .u16 (rd16 l), .int .i64 0]) ∧ Rb G w' R (l.drop 2) ∧ Kept (fun k => k = R) w w' := by
  have T := Lib.hid (take_b w R l 2 h h1 hl)
  obtain ⟨x0, hx0⟩ : ∃ x, x = l.getD 0 0 := ⟨_, rfl⟩
  have y0 : isByte x0 := by rw [hx0]; exact h.byte 0 (by omega)
  obtain ⟨x1, hx1⟩ : ∃ x, x = l.getD 1 0 := ⟨_, rfl⟩
  have y1 : isByte x1 := by rw [hx1]; exact h.byte 1 (by omega)
  have HX0 := Lib.hid hx0
  have HX1 := Lib.hid hx1
  clear hx0 hx1
  obtain ⟨_, ao, cap, hb, _⟩ := h
  have hc := cell_of_one hb
  clear hb
  generalize hm : l.length = m at *
  have HM := Lib.hid hm
  clear hm
  go_enter Try.func57, Try.ntmps57
  go_wp2_with fail
  refine T.out.mono ?_
  rintro e w' ⟨ao', c', rfl, hc1, hB, hnn, hR, hK⟩
  obtain ⟨g, off, rfl, hcell⟩ := bytes_at hB (by rw [List.length_take, HM.out]; omega)
  have c0 := hcell 0 (by rw [List.length_take, HM.out]; omega)
  rw [getD_take l 2 0 (by omega), ← HX0.out, Nat.add_zero] at c0
  have c1 := hcell 1 (by rw [List.length_take, HM.out]; omega)
  rw [getD_take l 2 1 (by omega), ← HX1.out] at c1
  have HR := Lib.hid hR
  have HK := Lib.hid hK
  clear hB hnn hR hK hcell
  have J := Lib.hid (join16_any w' g off 2 c' x0 x1 (by omega) y0 y1 c0 c1)
  go_wp2_with fail
  refine J.out.mono ?_
  rintro e w2 ⟨rfl, n, rfl⟩
  go_wp2_with fail
  exact bodyPost_ret (v := .tuple #[.int .u16 (x0 * 256 + x1), .int .i64 0]) (by simp [results, Try.results57, go_sem]) rfl ⟨by rw [HX0.out, HX1.out]; rfl, HR.out.drewN n, HK.out.drewN n⟩

set_option maxHeartbeats 1600000 in
theorem r32_b (w : World) (R : Nat) (l : List Int) (h : Rb G w R l) (h1 : 4 ≤ l.length) (hl : l.length ≤ 1000000) :
    Calls Try.prog 56 #[.pointer (some ⟨R, 0, none⟩)] w fun e w' => e = .returned (.tuple #[.int .u32 (rd32 l), .int .i64 0]) ∧ Rb G w' R (l.drop 4) ∧ Kept (fun k => k = R) w w' := by
  have T := Lib.hid (take_b w R l 4 h h1 hl)
  obtain ⟨x0, hx0⟩ : ∃ x, x = l.getD 0 0 := ⟨_, rfl⟩
  have y0 : isByte x0 := by rw [hx0]; exact h.byte 0 (by omega)
  obtain ⟨x1, hx1⟩ : ∃ x, x = l.getD 1 0 := ⟨_, rfl⟩
  have y1 : isByte x1 := by rw [hx1]; exact h.byte 1 (by omega)
  obtain ⟨x2, hx2⟩ : ∃ x, x = l.getD 2 0 := ⟨_, rfl⟩
  have y2 : isByte x2 := by rw [hx2]; exact h.byte 2 (by omega)
  obtain ⟨x3, hx3⟩ : ∃ x, x = l.getD 3 0 := ⟨_, rfl⟩
  have y3 : isByte x3 := by rw [hx3]; exact h.byte 3 (by omega)
  have HX0 := Lib.hid hx0
  have HX1 := Lib.hid hx1
  have HX2 := Lib.hid hx2
  have HX3 := Lib.hid hx3
  clear hx0 hx1 hx2 hx3
  obtain ⟨_, ao, cap, hb, _⟩ := h
  have hc := cell_of_one hb
  clear hb
  generalize hm : l.length = m at *
  have HM := Lib.hid hm
  clear hm
  go_enter Try.func56, Try.ntmps56
  go_wp2_with fail
  refine T.out.mono ?_
  rintro e w' ⟨ao', c', rfl, hc1, hB, hnn, hR, hK⟩
  obtain ⟨g, off, rfl, hcell⟩ := bytes_at hB (by rw [List.length_take, HM.out]; omega)
  have c0 := hcell 0 (by rw [List.length_take, HM.out]; omega)
  rw [getD_take l 4 0 (by omega), ← HX0.out, Nat.add_zero] at c0
  have c1 := hcell 1 (by rw [List.length_take, HM.out]; omega)
  rw [getD_take l 4 1 (by omega), ← HX1.out] at c1
  have c2 := hcell 2 (by rw [List.length_take, HM.out]; omega)
  rw [getD_take l 4 2 (by omega), ← HX2.out] at c2
  have c3 := hcell 3 (by rw [List.length_take, HM.out]; omega)
  rw [getD_take l 4 3 (by omega), ← HX3.out] at c3
  have HR := Lib.hid hR
  have HK := Lib.hid hK
  clear hB hnn hR hK hcell
  have J := Lib.hid (join32_any w' g off 4 c' x0 x1 x2 x3 (by omega) hc1 y0 y1 y2 y3 c0 c1 c2 c3)
  go_wp2_with fail
  refine J.out.mono ?_
  rintro e w2 ⟨rfl, n, rfl⟩
  go_wp2_with fail
  exact bodyPost_ret (v := .tuple #[.int .u32 ((x0 * 256 + x1) * 65536 + (x2 * 256 + x3)), .int .i64 0]) (by simp [results, Try.results56, go_sem]) rfl ⟨by rw [HX0.out, HX1.out, HX2.out, HX3.out]; rfl, HR.out.drewN n, HK.out.drewN n⟩

end Go.Proofs.Ytfbcjigekmgbnaa
