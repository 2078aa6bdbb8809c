/- The votes of a message; two lists without anything make none. -/
import Derived.Test.YtigpfaecbmnklaaDoorVo1
namespace Go.Proofs.YtigpfaecbmnklaaDoor
open Go.RowKit Go.Maps
set_option maxRecDepth 100000

set_option maxHeartbeats 2000000 in
theorem grow113n (w : World) : Calls Tryd.prog 113 #[.slice none 0 0, .int .i64 0] w fun e w' => e = .returned (.slice none 0 0) ∧ w = w' := by
  go_enter Tryd.func113, Tryd.ntmps113
  go_wp2
  go_ret
  exact ⟨rfl, rfl⟩

set_option maxHeartbeats 4000000 in
theorem concat89n (w : World) (g : Nat) (h : w.heap[g]? = some (.cells #[.slice none 0 0, .slice none 0 0] 30 (0, 0))) : Calls Tryd.prog 89 #[.slice (some ⟨g, 0, none⟩) 2 2] w fun e w' => e = .returned (.slice none 0 0) ∧ w = w' := by
  have q0 : w.cell? ⟨g, 0, none⟩ = some (.slice none 0 0) := by rw [cell_of_row _ _ _ _ _ _ h]; rfl
  have q1 : w.cell? ⟨g, 1, none⟩ = some (.slice none 0 0) := by rw [cell_of_row _ _ _ _ _ _ h]; rfl
  clear h
  go_enter Tryd.func89, Tryd.ntmps89
  go_wp2_with fail
  go_loopw [3, 11] (fun vs vi wr => vs = .int .i64 0 ∧ (vi = .int .i64 0 ∨ vi = .int .i64 1 ∨ vi = .int .i64 2) ∧ wr = w) (fun _ i _ => 2 - (intOf i).toNat)
  case atStart => exact ⟨rfl, .inl rfl, rfl⟩
  case round =>
    obtain ⟨rfl, hv, rfl⟩ := hrel
    rcases hv with rfl | rfl | rfl
    · go_wp2_with fail
      go_round
      case rel => exact ⟨rfl, .inr (.inl rfl), by first | rfl | trivial⟩
      case measure => simp [intOf]
    · go_wp2_with fail
      go_round
      case rel => exact ⟨rfl, .inr (.inr rfl), by first | rfl | trivial⟩
      case measure => simp [intOf]
    · go_wp2_with fail
      refine Calls.mono (grow113n _) ?_
      rintro e w' ⟨rfl, rfl⟩
      go_wp2_with fail
      go_loopw [6, 27] (fun vs vi wr' => vs = .slice none 0 0 ∧ (vi = .int .i64 0 ∨ vi = .int .i64 1 ∨ vi = .int .i64 2) ∧ wr' = wr) (fun _ i _ => 2 - (intOf i).toNat)
      case atStart => exact ⟨rfl, .inl rfl, rfl⟩
      case round =>
        obtain ⟨rfl, hv, rfl⟩ := hrel
        rcases hv with rfl | rfl | rfl
        · go_wp2_with fail
          go_round
          case rel => exact ⟨rfl, .inr (.inl rfl), by first | rfl | trivial⟩
          case measure => simp [intOf]
        · go_wp2_with fail
          go_round
          case rel => exact ⟨rfl, .inr (.inr rfl), by first | rfl | trivial⟩
          case measure => simp [intOf]
        · go_wp2_with fail
          go_ret
          exact ⟨rfl, rfl⟩

theorem row_block {w : World} {g : Nat} {v : Vt} (h : w.heap[g]? = some (.cells v.cells.toArray 32 (0, 0))) : Row w 7 Vt.cells (.slice (some ⟨g, 0, none⟩) 1 1) [v] := by
  refine ⟨some ⟨g, 0, none⟩, 1, rfl, (fun e => by cases e), Nat.le_refl _, by simp, fun j x hj => ?_⟩
  cases j with
  | zero =>
    simp at hj
    subst hj
    exact ⟨g, 0, rfl, fun i u hu => by rw [show 0 + 0 * 7 + i = i from by omega, cell_vt h]; exact hu⟩
  | succ n => simp at hj

/-- the votes within a message -/
def vsOf (m : Mg) (l : List Vt) : List Vt := if m.k = 6 then [m.vt] else l

set_option maxHeartbeats 4000000 in
theorem votesOf54r (w : World) (m : Mg) (l : List Vt) (hl : Row w 7 Vt.cells m.vs.val l) : Calls Tryd.prog 54 #[.agg m.cells.toArray] w fun e w' => ∃ a n c, e = .returned (.slice a n c) ∧ Row w' 7 Vt.cells (.slice a n c) (vsOf m l) ∧ Below w.heap.size w w' := by
  obtain ⟨W, hW⟩ : ∃ W, W = w.alloc (.cells m.cells.toArray 37) := ⟨_, rfl⟩
  have hbl : Below w.heap.size w W := by rw [hW]; exact (Below.refl _ _).alloc (Nat.le_refl _) _
  have hbx : W.heap[w.heap.size]? = some (.cells m.cells.toArray 37 (0, 0)) := by rw [hW]; exact heap_alloc_new _ _
  have q0 : W.cell? ⟨w.heap.size, 0, none⟩ = some (.int .u8 m.k) := cell_box hbx 0
  have q22 : W.cell? ⟨w.heap.size, 22, none⟩ = some (.slice m.vs.a m.vs.n m.vs.c) := cell_box hbx 22
  have HLV := Lib.hid (vote_load hbx)
  have HRW := Lib.hid (hl.below hbl)
  have HBL := Lib.hid hbl
  have HW := Lib.hid hW
  clear hW hbx hbl hl
  unfold vsOf
  simp only [Mg.cells] at HW ⊢
  go_enter Tryd.func54, Tryd.ntmps54
  go_upto_region 1 with fail
  rw [← HW.out]
  have eA : (#[.int .u8 m.k, .int .u8 m.f, .int .u8 m.t, .int .u8 m.e, .int .u32 m.vw, .int .u32 m.sq, .int .u8 m.rq.c, .int .u32 m.rq.t, .int .u8 m.rq.k, .int .u8 m.rq.y, .int .u16 m.rq.v, .int .u64 m.ro, .int .u8 m.ct, .int .u8 m.pg, .int .u32 m.rs, .int .u8 m.vt.f, .int .u8 m.vt.e, .int .u32 m.vt.vw, .int .u32 m.vt.lo, .slice m.vt.ms.a m.vt.ms.n m.vt.ms.c, .slice m.vt.p.a m.vt.p.n m.vt.p.c, .slice m.vt.q.a m.vt.q.n m.vt.q.c, .slice m.vs.a m.vs.n m.vs.c, .slice m.sm.a m.sm.n m.sm.c, .slice m.dt.a m.dt.n m.dt.c] : Array Value) = m.cells.toArray := rfl
  rw [eA]
  clear eA HW
  generalize m.cells.toArray = A at *
  obtain ⟨gx, hgx⟩ : ∃ g, g = w.heap.size := ⟨_, rfl⟩
  rw [← hgx] at HLV q0 q22 ⊢
  clear hgx
  by_cases h6 : m.k = 6
  · have H6 := Lib.hid h6
    have e6 : (m.k == 6) = true := by simp [h6]
    clear h6
    go_upto_region 2 with fail
    refine wp_region_lit ?_
    refine wpl_val (v := .pointer (some ⟨gx, 15, none⟩)) (w1 := W) rfl (by go_simp) _ rfl ?_
    refine wpl_val (v := .agg m.vt.cells.toArray) (w1 := W) rfl (exec_load 32 (.tmp 6) rfl rfl HLV.out) _ rfl ?_
    simp only [Vt.cells]
    go_wp2_with fail
    go_ret
    refine ⟨_, _, _, rfl, ?_, HBL.out.alloc HBL.out.size _⟩
    (try rw [if_pos H6.out])
    exact row_block (heap_alloc_new _ _)
  · have H6 := Lib.hid h6
    have e6 : (m.k == 6) = false := by simp [h6]
    clear h6
    go_wp2_with fail
    go_ret
    refine ⟨_, _, _, rfl, ?_, HBL.out⟩
    (try rw [if_neg H6.out])
    exact HRW.out
end Go.Proofs.YtigpfaecbmnklaaDoor
