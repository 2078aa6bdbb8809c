/- Whether it is a vote. -/
import Derived.Test.YtmkeckablkccnaaDoorLists3
namespace Go.Proofs.YtmkeckablkccnaaDoor
open Go.RowKit
set_option maxRecDepth 100000

/-- P3.1: a vote -/
def voteB (v : Vt) (c : Vc) : Bool := isRp v.f && (isEp v.e && (isNv v.vw && (isSq v.lo && (upB mkOk mkAb c.ms && (upB enOk enAb c.p && upB enOk enAt c.q)))))
/-- the requests of its lists are in range -/
def VcOk (c : Vc) : Prop := (∀ x ∈ c.p, x.rq.ok) ∧ ∀ x ∈ c.q, x.rq.ok

set_option maxHeartbeats 4000000 in
theorem isVote_any (w : World) (v : Vt) (c : Vc) (hv : VtAt w v c) (hok : VcOk c) (ht : Tab w) :
    Calls Tryd.prog 86 #[.agg v.cells.toArray] w fun e w' => e = .returned (.bool (voteB v c)) ∧ Below w.heap.size w w' := by
  obtain ⟨r, hr⟩ : ∃ r, r = voteB v c := ⟨_, rfl⟩
  rw [← hr]
  unfold voteB at hr
  obtain ⟨W, hW⟩ : ∃ W, W = w.alloc (.cells v.cells.toArray 32) := ⟨_, rfl⟩
  have hbl : Below w.heap.size w W := by rw [hW]; exact (Below.refl _ _).alloc (Nat.le_refl _) _
  have hWs : W.heap.size = w.heap.size + 1 := by rw [hW]; simp
  have q0 : W.cell? ⟨w.heap.size, 0, none⟩ = some (.int .u8 v.f) := by rw [hW]; simp [Vt.cells]
  have q1 : W.cell? ⟨w.heap.size, 1, none⟩ = some (.int .u8 v.e) := by rw [hW]; simp [Vt.cells]
  have q2 : W.cell? ⟨w.heap.size, 2, none⟩ = some (.int .u32 v.vw) := by rw [hW]; simp [Vt.cells]
  have q3 : W.cell? ⟨w.heap.size, 3, none⟩ = some (.int .u32 v.lo) := by rw [hW]; simp [Vt.cells]
  have q4 : W.cell? ⟨w.heap.size, 4, none⟩ = some (.slice v.ms.a v.ms.n v.ms.c) := by rw [hW]; simp [Vt.cells]
  have q5 : W.cell? ⟨w.heap.size, 5, none⟩ = some (.slice v.p.a v.p.n v.p.c) := by rw [hW]; simp [Vt.cells]
  have q6 : W.cell? ⟨w.heap.size, 6, none⟩ = some (.slice v.q.a v.q.n v.q.c) := by rw [hW]; simp [Vt.cells]
  have C1 := Lib.hid (isReplica_any v.f)
  have C2 := Lib.hid (isEpoch_any v.e)
  have C3 := Lib.hid (isNewView_any v.vw)
  have C4 := Lib.hid (isSeq_any v.lo)
  have hvW := hv.below hbl
  have C5 := Lib.hid (areMarks_any W v.ms c.ms hvW.1)
  have C6 := Lib.hid (fun w' (h : Below W.heap.size W w') => areEntries49 w' v.p c.p ((hvW.below h).2.1))
  have C7 := Lib.hid (fun w' (h : Below W.heap.size W w') => areEntries50 w' v.q c.q ((hvW.below h).2.2) hok.2 (Tab.on (Tab.on ht hbl) h))
  generalize isRp v.f = b1 at C1 hr
  generalize isEp v.e = b2 at C2 hr
  generalize isNv v.vw = b3 at C3 hr
  generalize isSq v.lo = b4 at C4 hr
  generalize upB mkOk mkAb c.ms = b5 at C5 hr
  generalize upB enOk enAb c.p = b6 at C6 hr
  generalize upB enOk enAt c.q = b7 at C7 hr
  have HR := Lib.hid hr
  have HBL := Lib.hid hbl
  have HWS := Lib.hid hWs
  have HW := Lib.hid hW
  clear hr hbl hW hWs hv hok ht hvW
  simp only [Vt.cells] at HW ⊢
  go_enter Tryd.func86, Tryd.ntmps86
  go_upto_region 1 with fail
  rw [← HW.out]
  clear HW
  go_wp2_with fail
  refine Calls.mono (C1.out _) ?_
  rintro e w' ⟨rfl, rfl⟩
  cases b1
  · go_wp2_with fail
    go_ret
    exact ⟨by rw [HR.out]; rfl, HBL.out⟩
  go_wp2_with fail
  refine Calls.mono (C2.out _) ?_
  rintro e w' ⟨rfl, rfl⟩
  cases b2
  · go_wp2_with fail
    go_ret
    exact ⟨by rw [HR.out]; rfl, HBL.out⟩
  go_wp2_with fail
  refine Calls.mono (C3.out _) ?_
  rintro e w' ⟨rfl, rfl⟩
  cases b3
  · go_wp2_with fail
    go_ret
    exact ⟨by rw [HR.out]; rfl, HBL.out⟩
  go_wp2_with fail
  refine Calls.mono (C4.out _) ?_
  rintro e w' ⟨rfl, rfl⟩
  cases b4
  · go_wp2_with fail
    go_ret
    exact ⟨by rw [HR.out]; rfl, HBL.out⟩
  go_wp2_with fail
  refine Calls.mono C5.out ?_
  rintro e w1 ⟨rfl, hb1⟩
  have p5 := (hb1.cell (p := ⟨w.heap.size, 5, none⟩) (by show w.heap.size < _; rw [HWS.out]; omega)).trans q5
  have HB1 := Lib.hid hb1
  clear hb1
  cases b5
  · go_wp2_with fail
    go_ret
    exact ⟨by rw [HR.out]; rfl, HBL.out.trans (HB1.out.mono HBL.out.size)⟩
  go_wp2_with fail
  refine Calls.mono (C6.out _ HB1.out) ?_
  rintro e w2 ⟨rfl, hb2⟩
  have HB2 := Lib.hid (Below.up HB1.out hb2)
  have p6 := (HB2.out.cell (p := ⟨w.heap.size, 6, none⟩) (by show w.heap.size < _; rw [HWS.out]; omega)).trans q6
  clear hb2
  cases b6
  · go_wp2_with fail
    go_ret
    exact ⟨by rw [HR.out]; rfl, HBL.out.trans (HB2.out.mono HBL.out.size)⟩
  go_wp2_with fail
  refine Calls.mono (C7.out _ HB2.out) ?_
  rintro e w3 ⟨rfl, hb3⟩
  have HB3 := Lib.hid (Below.up HB2.out hb3)
  clear hb3
  go_wp2_with fail
  go_ret
  exact ⟨by rw [HR.out]; rfl, HBL.out.trans (HB3.out.mono HBL.out.size)⟩
end Go.Proofs.YtmkeckablkccnaaDoor
