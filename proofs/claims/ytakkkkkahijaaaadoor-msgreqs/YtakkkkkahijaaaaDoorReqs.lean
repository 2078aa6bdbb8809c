/- The walk of MsgReqs: whatever request: true. -/
import Derived.Test.YtakkkkkahijaaaaDoorKnown
namespace Go.Proofs.YtakkkkkahijaaaaDoor
open Go.RowKit
set_option maxRecDepth 100000

def okB (r : Rq) : Bool := decide (1 ≤ r.c) && (decide (r.c ≤ 4) && (decide (0 < r.t) && (decide (1 ≤ r.k) && (decide (r.k ≤ 3) && (decide (r.y < 64) && (decide (r.k ≠ 2) || decide (r.v = 0)))))))

theorem is_ok (r : Rq) (h : r.ok) : r.is = (okB r || decide (r = Rq.zero)) := by
  obtain ⟨⟨c0, c1⟩, ⟨t0, t1⟩, ⟨k0, k1⟩, ⟨y0, y1⟩, ⟨v0, v1⟩⟩ := h
  by_cases hz : r = Rq.zero
  · subst hz; rfl
  · have ht : decide (r.t ≠ 0) = decide (0 < r.t) := by
      by_cases e : 0 < r.t
      · rw [decide_eq_true e, decide_eq_true (by omega)]
      · rw [decide_eq_false e, decide_eq_false (by omega)]
    unfold Rq.is okB Rq.isOp
    rw [ht]
    simp only [hz, decide_false, Bool.false_or, Bool.or_false, Bool.and_assoc]

theorem eq_bool (a : Bool) (w : World) (t : TypeId) (h : Tryd.prog.underlying t = some .bool) : (binOp .eql t (.bool a) (.bool a)).run Tryd.prog w = .ok (.bool true) w := by
  simp [binOp, run_equal_bool w t a a h]

set_option maxHeartbeats 8000000 in
theorem reqs_any (r : Rq) (hr : r.ok) (w : World) (ht : Tab w) : Calls Tryd.prog 6 #[.agg r.cells.toArray] w fun e w' => e = .returned (.bool true) ∧ Below w.heap.size w w' := by
  obtain ⟨W, hW⟩ : ∃ W, W = w.alloc (.cells r.cells.toArray 27) := ⟨_, rfl⟩
  have hbl : Below w.heap.size w W := by rw [hW]; exact (Below.refl _ _).alloc (Nat.le_refl _) _
  have hblk : W.heap[w.heap.size]? = some (.cells r.cells.toArray 27 (0, 0)) := by rw [hW]; exact heap_alloc_new _ _
  have CK := Lib.hid (known_any W (Tab.on ht hbl))
  have HBK := Lib.hid hblk
  have HBL := Lib.hid hbl
  have HW := Lib.hid hW
  have hIs := is_ok r hr
  have HIS := Lib.hid hIs
  have CI := Lib.hid (isReq_any r)
  have HQ := Lib.hid (fun w => eql27 r Rq.zero w)
  have hg := fun op a b w => guard27 op a b r Rq.zero w
  have HEB := Lib.hid (fun a w => eq_bool a w 4 Tryd.underlying4)
  generalize hib : r.is = ib at CI HIS
  generalize decide (r = Rq.zero) = zb at HIS HQ
  simp only [Rq.cells, Rq.zero] at HW hg ⊢
  simp only [Rq.cells] at CI
  clear hW hbl hblk ht hIs hib hr
  go_enter Tryd.func6, Tryd.ntmps6
  go_upto_region 1 with fail
  rw [← HW.out]
  clear HW
  go_wp2_with fail
  refine Calls.mono CK.out ?_
  rintro e w1 ⟨rfl, hb1⟩
  have hk1 : w1.heap[w.heap.size]? = some (.cells r.cells.toArray 27 (0, 0)) := (hb1.block _ (lt_of_block HBK.out)).trans HBK.out
  have B1 := Lib.hid (HBL.out.trans (hb1.mono HBL.out.size))
  have p0 : w1.cell? ⟨w.heap.size, 0, none⟩ = some (.int .u8 r.c) := by rw [cell_of_row _ _ _ _ _ _ hk1]; rfl
  have p1 : w1.cell? ⟨w.heap.size, 1, none⟩ = some (.int .u32 r.t) := by rw [cell_of_row _ _ _ _ _ _ hk1]; rfl
  have p2 : w1.cell? ⟨w.heap.size, 2, none⟩ = some (.int .u8 r.k) := by rw [cell_of_row _ _ _ _ _ _ hk1]; rfl
  have p3 : w1.cell? ⟨w.heap.size, 3, none⟩ = some (.int .u8 r.y) := by rw [cell_of_row _ _ _ _ _ _ hk1]; rfl
  have p4 : w1.cell? ⟨w.heap.size, 4, none⟩ = some (.int .u16 r.v) := by rw [cell_of_row _ _ _ _ _ _ hk1]; rfl
  have HK1 := Lib.hid hk1
  clear hb1 hk1 CK
  obtain ⟨ob, hob⟩ : ∃ ob, ob = okB r := ⟨_, rfl⟩
  have HOB := Lib.hid hob
  have hgoal : ∀ w2, Below w1.heap.size w1 w2 → Below w.heap.size w w2 := fun w2 h => B1.out.trans (h.mono B1.out.size)
  have HGL := Lib.hid hgoal
  clear hob hgoal
  go_upto_region 3 with fail
  go_cut [3] from 6 (fun s3 wx => s3 = .bool ob ∧ wx = w1)
  case first =>
    by_cases h1 : 1 ≤ r.c
    · by_cases h2 : r.c ≤ 4
      · by_cases h3 : 0 < r.t
        · by_cases h4 : 1 ≤ r.k
          · by_cases h5 : r.k ≤ 3
            · by_cases h6 : r.y < 64
              · by_cases h7 : r.k = 2
                · by_cases h8 : r.v = 0
                  · have D := Lib.hid (And.intro h1 (And.intro h2 (And.intro h3 (And.intro h6 (And.intro h7 h8)))))
                    go_wp2_with fail
                    go_meet
                    exact ⟨by rw [HOB.out, okB]; obtain ⟨a1, a2, a3, a6, a7, a8⟩ := D.out; simp [a1, a2, a3, a6, a7, a8], rfl⟩
                  · have D := Lib.hid (And.intro h1 (And.intro h2 (And.intro h3 (And.intro h6 (And.intro h7 h8)))))
                    go_wp2_with fail
                    go_meet
                    exact ⟨by rw [HOB.out, okB]; obtain ⟨a1, a2, a3, a6, a7, a8⟩ := D.out; simp [a1, a2, a3, a6, a7, a8], rfl⟩
                · have D := Lib.hid (And.intro h1 (And.intro h2 (And.intro h3 (And.intro h4 (And.intro h5 (And.intro h6 h7))))))
                  go_wp2_with fail
                  go_meet
                  exact ⟨by rw [HOB.out, okB]; obtain ⟨a1, a2, a3, a4, a5, a6, a7⟩ := D.out; simp [a1, a2, a3, a4, a5, a6, a7], rfl⟩
              · have E := Lib.hid (show okB r = false by unfold okB; rw [decide_eq_false h6]; simp)
                go_wp2_with fail
                go_meet
                exact ⟨by rw [HOB.out, E.out], rfl⟩
            · have E := Lib.hid (show okB r = false by unfold okB; rw [decide_eq_false h5]; simp)
              go_wp2_with fail
              go_meet
              exact ⟨by rw [HOB.out, E.out], rfl⟩
          · have E := Lib.hid (show okB r = false by unfold okB; rw [decide_eq_false h4]; simp)
            go_wp2_with fail
            go_meet
            exact ⟨by rw [HOB.out, E.out], rfl⟩
        · have E := Lib.hid (show okB r = false by unfold okB; rw [decide_eq_false h3]; simp)
          go_wp2_with fail
          go_meet
          exact ⟨by rw [HOB.out, E.out], rfl⟩
      · have E := Lib.hid (show okB r = false by unfold okB; rw [decide_eq_false h2]; simp)
        go_wp2_with fail
        go_meet
        exact ⟨by rw [HOB.out, E.out], rfl⟩
    · have E := Lib.hid (show okB r = false by unfold okB; rw [decide_eq_false h1]; simp)
      go_wp2_with fail
      go_meet
      exact ⟨by rw [HOB.out, E.out], rfl⟩
  case rest =>
    obtain ⟨rfl, rfl⟩ := hcut
    go_wp2_with fail
    refine Calls.mono (CI.out _) ?_
    rintro e w2 ⟨rfl, hb2⟩
    have hk2 := (hb2.block _ (lt_of_block HK1.out)).trans HK1.out
    have z0 : w2.cell? ⟨w.heap.size, 0, none⟩ = some (.int .u8 r.c) := by rw [cell_of_row _ _ _ _ _ _ hk2]; rfl
    have z1 : w2.cell? ⟨w.heap.size, 1, none⟩ = some (.int .u32 r.t) := by rw [cell_of_row _ _ _ _ _ _ hk2]; rfl
    have z2 : w2.cell? ⟨w.heap.size, 2, none⟩ = some (.int .u8 r.k) := by rw [cell_of_row _ _ _ _ _ _ hk2]; rfl
    have z3 : w2.cell? ⟨w.heap.size, 3, none⟩ = some (.int .u8 r.y) := by rw [cell_of_row _ _ _ _ _ _ hk2]; rfl
    have z4 : w2.cell? ⟨w.heap.size, 4, none⟩ = some (.int .u16 r.v) := by rw [cell_of_row _ _ _ _ _ _ hk2]; rfl
    have HB2 := Lib.hid (HGL.out _ hb2)
    have hq := HQ.out
    simp only [Rq.cells, Rq.zero] at hq
    have hib := HIS.out
    rw [← HOB.out] at hib
    clear hk2 hb2 p0 p1 p2 p3 p4
    cases ob
    · have e1 : ib = zb := by simpa using hib
      subst e1
      cases ib
      · clear hib
        go_wp2_with fail
        go_ret
        exact ⟨by first | rfl | simp, HB2.out⟩
      · clear hib
        go_wp2_with fail
        go_ret
        exact ⟨by first | rfl | simp, HB2.out⟩
    · have e1 : ib = true := by simpa using hib
      subst e1
      clear hib hq
      go_wp2_with fail
      go_ret
      exact ⟨by first | rfl | simp, HB2.out⟩
end Go.Proofs.YtakkkkkahijaaaaDoor
