/- What reading bytes behind their length returns. -/
import Derived.Test.YtmkeckablkccnaaDoorReads
namespace Go.Proofs.YtmkeckablkccnaaDoor
open Go.RowKit
set_option maxRecDepth 100000

set_option maxHeartbeats 1600000 in
theorem rb_short (w : World) (R : Nat) (l : List Int) (most : Int) (h : Rd w R l) (hl : l.length < 2) :
    Calls Tryd.prog 75 #[.pointer (some ⟨R, 0, none⟩), .int .i64 most] w fun e w' => e = .returned (.tuple #[.slice none 0 0, .int .i64 20]) ∧ w = w' := by
  obtain ⟨ao, cap, hb, _⟩ := h
  have hc := cell_of_one hb
  clear hb
  generalize l.length = m at *
  go_enter Tryd.func75, Tryd.ntmps75
  go_wp2
  exact bodyPost_ret (v := .tuple #[.slice none 0 0, .int .i64 20]) (by simp [results, Tryd.results79, go_sem]) rfl ⟨rfl, rfl⟩

theorem rd_head {w : World} {R : Nat} {l : List Int} {ao : Option Addr} {cap : Nat} (h : Rd w R l) (h2 : 2 ≤ l.length) (hb : w.heap[R]? = some (.cells #[.slice ao l.length cap] 113 (0, 0))) (hB : Bytes w ao l) :
    ∃ g off, ao = some ⟨g, off, none⟩ ∧ Calls Tryd.prog 108 #[.slice (some ⟨g, off, none⟩) l.length cap] w fun e w' => e = .returned (.int .u16 (rd16 l)) ∧ ∃ n, w' = w.drewN n := by
  obtain ⟨g, off, rfl, hcell⟩ := bytes_at hB (by omega)
  refine ⟨g, off, rfl, ?_⟩
  exact join16_any w g off l.length cap _ _ h2 (h.byte 0 (by omega)) (h.byte 1 (by omega)) (by simpa using hcell 0 (by omega)) (hcell 1 (by omega))

theorem rd16_range {w : World} {R : Nat} {l : List Int} (h : Rd w R l) (h2 : 2 ≤ l.length) : 0 ≤ rd16 l ∧ rd16 l ≤ 65535 := two_bytes (h.byte 0 (by omega)) (h.byte 1 (by omega))

set_option maxHeartbeats 1600000 in
theorem rb_long (w : World) (R : Nat) (l : List Int) (most : Int) (h : Rd w R l) (h2 : 2 ≤ l.length) (hl : l.length ≤ 1000000) (k : Nat) (hk : rd16 l = (k : Int)) (hlong : most < (k : Int)) :
    Calls Tryd.prog 75 #[.pointer (some ⟨R, 0, none⟩), .int .i64 most] w fun e w' => e = .returned (.tuple #[.slice none 0 0, .int .i64 21]) ∧ ∃ n, w' = w.drewN n := by
  have hr := rd16_range h h2
  have h0 := h
  obtain ⟨ao, cap, hb, hB, _⟩ := h
  obtain ⟨g, off, rfl, hJ⟩ := rd_head h0 h2 hb hB
  rw [hk] at hJ
  have hk2 : k ≤ 65535 := by omega
  have J := Lib.hid hJ
  have hc := cell_of_one hb
  clear hb hB hJ h0 hr hk
  generalize l.length = m at *
  go_enter Tryd.func75, Tryd.ntmps75
  go_wp2_with fail
  refine J.out.mono ?_
  rintro e w2 ⟨rfl, n, rfl⟩
  go_wp2
  exact bodyPost_ret (v := .tuple #[.slice none 0 0, .int .i64 21]) (by simp [results, Tryd.results79, go_sem]) rfl ⟨rfl, _, rfl⟩

set_option maxHeartbeats 1600000 in
theorem rb_cut (w : World) (R : Nat) (l : List Int) (most : Int) (h : Rd w R l) (h2 : 2 ≤ l.length) (hl : l.length ≤ 1000000) (k : Nat) (hk : rd16 l = (k : Int)) (hmost : (k : Int) ≤ most) (hcut : l.length < 2 + k) :
    Calls Tryd.prog 75 #[.pointer (some ⟨R, 0, none⟩), .int .i64 most] w fun e w' => e = .returned (.tuple #[.slice none 0 0, .int .i64 20]) ∧ ∃ n, w' = w.drewN n := by
  have hr := rd16_range h h2
  have h0 := h
  obtain ⟨ao, cap, hb, hB, _⟩ := h
  obtain ⟨g, off, rfl, hJ⟩ := rd_head h0 h2 hb hB
  rw [hk] at hJ
  have hk2 : k ≤ 65535 := by omega
  have J := Lib.hid hJ
  have hc := cell_of_one hb
  clear hb hB hJ h0 hr hk
  generalize l.length = m at *
  go_enter Tryd.func75, Tryd.ntmps75
  go_wp2_with fail
  refine J.out.mono ?_
  rintro e w2 ⟨rfl, n, rfl⟩
  go_wp2
  exact bodyPost_ret (v := .tuple #[.slice none 0 0, .int .i64 20]) (by simp [results, Tryd.results79, go_sem]) rfl ⟨rfl, _, rfl⟩

set_option maxHeartbeats 1600000 in
theorem rb_any (w : World) (R : Nat) (l : List Int) (most : Int) (h : Rd w R l) (h2 : 2 ≤ l.length) (hl : l.length ≤ 1000000) (k : Nat) (hk : rd16 l = (k : Int)) (hmost : (k : Int) ≤ most) (hfit : 2 + k ≤ l.length) :
    Calls Tryd.prog 75 #[.pointer (some ⟨R, 0, none⟩), .int .i64 most] w fun e w' => ∃ ao c, e = .returned (.tuple #[.slice ao k c, .int .i64 0]) ∧ New w.heap.size w' ao c ((l.drop 2).take k) ∧ Rd w' R (l.drop (2 + k)) ∧ Kept (fun j => j = R) w w' := by
  have hr := rd16_range h h2
  have h0 := h
  have hlt := h.lt
  obtain ⟨ao, cap, hb, hB, _⟩ := h
  obtain ⟨g, off, rfl, hJ⟩ := rd_head h0 h2 hb hB
  rw [hk] at hJ
  have hk2 : k ≤ 65535 := by omega
  have J := Lib.hid hJ
  have H0 := Lib.hid h0
  have hc := cell_of_one hb
  clear hb hB hJ h0 hr hk
  generalize hm : l.length = m at *
  have HM := Lib.hid hm
  clear hm
  go_enter Tryd.func75, Tryd.ntmps75
  go_wp2_with fail
  refine J.out.mono ?_
  rintro e w2 ⟨rfl, n, rfl⟩
  have T := Lib.hid (take_any (w.drewN n) R l 2 (H0.out.drewN n) (by rw [HM.out]; exact h2) (by rw [HM.out]; exact hl))
  go_wp2_with fail
  refine T.out.mono ?_
  rintro e w3 ⟨ao3, c3, rfl, -, -, -, hR3, hK3⟩
  have T3 := Lib.hid (take_any w3 R (l.drop 2) k hR3 (by rw [List.length_drop, HM.out]; omega) (by rw [List.length_drop, HM.out]; omega))
  have K3 := Lib.hid (((Kept.refl _ w).drewN n).trans hK3 (fun _ _ e => e))
  clear hR3 hK3
  go_wp2_with fail
  refine T3.out.mono ?_
  rintro e w4 ⟨ao4, c4, rfl, hc4, hB4, hn4, hR4, hK4⟩
  have hlen : ((l.drop 2).take k).length = k := by rw [List.length_take, List.length_drop, HM.out]; omega
  have C := Lib.hid (clone_any w4 ao4 c4 ((l.drop 2).take k) hB4 (fun e => ⟨List.eq_nil_of_length_eq_zero (by have := hn4 e; omega), hn4 e⟩) (by omega))
  have K4 := Lib.hid (K3.out.trans hK4 (fun _ _ e => e))
  have R4 := Lib.hid hR4
  have HL := Lib.hid hlen
  have C2 := C
  rw [hlen] at C2
  clear hB4 hn4 hR4 hK4 hlen C
  go_wp2_with fail
  refine C2.out.mono ?_
  rintro e w5 ⟨ao5, c5, rfl, hN, hK5⟩
  have HN := Lib.hid hN
  have HK5 := Lib.hid hK5
  clear hN hK5
  go_wp2_with fail
  refine bodyPost_ret (v := .tuple #[.slice ao5 k c5, .int .i64 0]) (by simp [results, Tryd.results79, go_sem]) rfl ⟨ao5, c5, rfl, ⟨HN.out.1, fun ad e => Nat.le_trans K4.out.size (HN.out.2 ad e)⟩, ?_, ?_⟩
  · have := R4.out.below HK5.out
    rw [List.drop_drop] at this
    exact this
  · exact K4.out.trans (Kept.ofBelow (S := fun _ => False) HK5.out) (fun _ _ h => h.elim)
end Go.Proofs.YtmkeckablkccnaaDoor
