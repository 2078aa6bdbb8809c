/- Heads, requests and parts of a message. -/
import Derived.Test.YtmkeckablkccnaaDoorSame
import Derived.Deep.Cut
namespace Go.Proofs.YtmkeckablkccnaaDoor
open Go.RowKit
set_option maxRecDepth 100000

def headB (m : Mg) : Bool := if m.k = 1 then isRp m.t && decide (m.e = 0) else if m.k = 14 then isRp m.f && isEp m.e else isRp m.f && (isRp m.t && isEp m.e)
def realB (r : Rq) (a : Int) : Bool := !decide (r = Rq.zero) && (r.is && decide ((10 + r.c) % 256 = a))
def reqB (m : Mg) : Bool := if m.k = 1 then realB m.rq m.f else if m.k = 14 then realB m.rq m.t else m.rq.is
def fitB (m : Mg) (vb vsb : Bool) (p : Int) : Bool :=
  if p = 0 then isVw m.vw && (decide (m.k ≠ 7) || isNv m.vw)
  else if p = 1 then isSq m.sq && (!isPh m.k || isPl m.sq)
  else if p = 2 then reqB m
  else if p = 4 then decide (m.k = 10) || decide (m.ct = m.e)
  else if p = 5 then decide (m.pg < 8) || (decide (m.k = 11) && decide (m.pg = 8))
  else if p = 7 then vb && (decide (m.vt.f = m.f) && decide (m.vt.e = m.e))
  else if p = 8 then vsb
  else if p = 9 then decide (m.sm.n = 8)
  else if p = 10 then decide (m.dt.n ≤ 64)
  else true

theorem size37' : (Tryd.prog.info? 37).map (·.size) = some 25 := by kernel_rfl

theorem box_new (w : World) (m : Mg) : (w.alloc (.cells m.cells.toArray 37)).heap[w.heap.size]? = some (.cells m.cells.toArray 37 (0, 0)) := heap_alloc_new _ _

set_option maxHeartbeats 1600000 in
theorem isRealReq_any (r : Rq) (a : Int) (w : World) : Calls Tryd.prog 109 #[.agg r.cells.toArray, .int .u8 a] w fun e w' => e = .returned (.bool (realB r a)) ∧ Below w.heap.size w w' := by
  obtain ⟨b, hb⟩ : ∃ b, b = realB r a := ⟨_, rfl⟩
  rw [← hb]
  unfold realB at hb
  have HB := Lib.hid hb
  have hq := neq27 r Rq.zero
  have hg := fun op a b w => guard27 op a b r Rq.zero w
  have C := isReq_any r (w.alloc (.cells r.cells.toArray 27))
  have hbl : Below w.heap.size w (w.alloc (.cells r.cells.toArray 27)) := (Below.refl _ _).alloc (Nat.le_refl _) _
  have HBL := Lib.hid hbl
  obtain ⟨W, hW⟩ : ∃ W, W = w.alloc (.cells r.cells.toArray 27) := ⟨_, rfl⟩
  have hws : W.heap.size = w.heap.size + 1 := by rw [hW]; simp
  have q0 : W.cell? ⟨w.heap.size, 0, none⟩ = some (.int .u8 r.c) := by rw [hW]; simp [Rq.cells]
  rw [← hW] at C HBL
  generalize decide (r = Rq.zero) = z at HB hq
  simp only [Rq.cells, Rq.zero] at hq hg C hW ⊢
  have HW := Lib.hid hW
  have HWS := Lib.hid hws
  generalize hi : r.is = ib at HB C
  have HC := Lib.hid C
  have HQ0 := Lib.hid q0
  clear hb hbl hW C hws q0 hi
  cases z
  · go_enter Tryd.func109, Tryd.ntmps109
    go_wp2_with fail
    rw [← HW.out]
    refine Calls.mono HC.out ?_
    rintro e w1 ⟨rfl, hb1⟩
    have p0 := (hb1.cell (p := ⟨w.heap.size, 0, none⟩) (by show w.heap.size < _; rw [HWS.out]; omega)).trans HQ0.out
    have HB1 := Lib.hid (HBL.out.trans (hb1.mono (by rw [HWS.out]; omega)))
    clear hb1
    cases ib
    · go_wp2_with fail
      go_ret
      exact ⟨by rw [HB.out]; rfl, HB1.out⟩
    · by_cases ha : (10 + r.c) % 256 = a
      · have d : ((10 + r.c) % 256 == a) = true := by simp [ha]
        have HA := Lib.hid ha
        clear ha
        go_wp2_with fail
        go_ret
        exact ⟨by rw [HB.out]; simp [HA.out], HB1.out⟩
      · have d : ((10 + r.c) % 256 == a) = false := by simp [ha]
        have HA := Lib.hid ha
        clear ha
        go_wp2_with fail
        go_ret
        exact ⟨by rw [HB.out]; simp [HA.out], HB1.out⟩
  · go_enter Tryd.func109, Tryd.ntmps109
    go_wp2_with fail
    go_ret
    refine ⟨by rw [HB.out]; rfl, ?_⟩
    rw [← HW.out]; exact HBL.out

set_option maxHeartbeats 1600000 in
theorem isHead_any (w : World) (m : Mg) : Calls Tryd.prog 44 #[.agg m.cells.toArray] w fun e w' => e = .returned (.bool (headB m)) ∧ Below w.heap.size w w' := by
  obtain ⟨b, hb⟩ : ∃ b, b = headB m := ⟨_, rfl⟩
  rw [← hb]
  unfold headB at hb
  have HB := Lib.hid hb
  have C1 := Lib.hid (isReplica_any m.f)
  have C2 := Lib.hid (isReplica_any m.t)
  have C3 := Lib.hid (isEpoch_any m.e)
  generalize isRp m.f = b1 at C1 HB
  generalize isRp m.t = b2 at C2 HB
  generalize isEp m.e = b3 at C3 HB
  clear hb
  obtain ⟨W, hW⟩ : ∃ W, W = w.alloc (.cells m.cells.toArray 37) := ⟨_, rfl⟩
  have hbx : W.heap[w.heap.size]? = some (.cells m.cells.toArray 37 (0, 0)) := by rw [hW]; exact heap_alloc_new _ _
  have hbl : Below w.heap.size w W := by rw [hW]; exact (Below.refl _ _).alloc (Nat.le_refl _) _
  have q0 : W.cell? ⟨w.heap.size, 0, none⟩ = some (.int .u8 m.k) := cell_box hbx 0
  have q1 : W.cell? ⟨w.heap.size, 1, none⟩ = some (.int .u8 m.f) := cell_box hbx 1
  have q2 : W.cell? ⟨w.heap.size, 2, none⟩ = some (.int .u8 m.t) := cell_box hbx 2
  have q3 : W.cell? ⟨w.heap.size, 3, none⟩ = some (.int .u8 m.e) := cell_box hbx 3
  have HBX := Lib.hid hbx
  have HBL := Lib.hid hbl
  have HW := Lib.hid hW
  clear hW hbx hbl
  simp only [Mg.cells] at HW ⊢
  go_enter Tryd.func44, Tryd.ntmps44
  go_upto_region 1 with fail
  rw [← HW.out]
  have eA : (#[.int .u8 m.k, .int .u8 m.f, .int .u8 m.t, .int .u8 m.e, .int .u32 m.vw, .int .u32 m.sq, .int .u8 m.rq.c, .int .u32 m.rq.t, .int .u8 m.rq.k, .int .u8 m.rq.y, .int .u16 m.rq.v, .int .u64 m.ro, .int .u8 m.ct, .int .u8 m.pg, .int .u32 m.rs, .int .u8 m.vt.f, .int .u8 m.vt.e, .int .u32 m.vt.vw, .int .u32 m.vt.lo, .slice m.vt.ms.a m.vt.ms.n m.vt.ms.c, .slice m.vt.p.a m.vt.p.n m.vt.p.c, .slice m.vt.q.a m.vt.q.n m.vt.q.c, .slice m.vs.a m.vs.n m.vs.c, .slice m.sm.a m.sm.n m.sm.c, .slice m.dt.a m.dt.n m.dt.c] : Array Value) = m.cells.toArray := rfl
  rw [eA]
  clear eA HW
  have hsz : m.cells.toArray.size = 25 := rfl
  generalize hA : m.cells.toArray = A at *
  have HSZ := Lib.hid hsz
  clear hA hsz
  by_cases h1 : m.k = 1
  · by_cases h0 : m.e = 0
    · have H1 := Lib.hid h1
      have H0 := Lib.hid h0
      go_wp2_with fail
      refine Calls.mono (C2.out _) ?_
      rintro e w' ⟨rfl, rfl⟩
      cases b2 <;>
      · go_wp2_with fail
        go_ret
        exact ⟨by rw [HB.out]; simp [H1.out, H0.out], HBL.out⟩
    · have H1 := Lib.hid h1
      have H0 := Lib.hid h0
      go_wp2_with fail
      refine Calls.mono (C2.out _) ?_
      rintro e w' ⟨rfl, rfl⟩
      cases b2 <;>
      · go_wp2_with fail
        go_ret
        exact ⟨by rw [HB.out]; simp [H1.out, H0.out], HBL.out⟩
  · by_cases h2 : m.k = 14
    · have H1 := Lib.hid h1
      have H2 := Lib.hid h2
      go_wp2_with fail
      refine Calls.mono (C1.out _) ?_
      rintro e w' ⟨rfl, rfl⟩
      cases b1
      · go_wp2_with fail
        go_ret
        exact ⟨by rw [HB.out]; simp [H2.out], HBL.out⟩
      · go_wp2_with fail
        refine Calls.mono (C3.out _) ?_
        rintro e w' ⟨rfl, rfl⟩
        go_wp2_with fail
        go_ret
        exact ⟨by rw [HB.out]; simp [H2.out], HBL.out⟩
    · have H1 := Lib.hid h1
      have H2 := Lib.hid h2
      go_wp2_with fail
      refine Calls.mono (C1.out _) ?_
      rintro e w' ⟨rfl, rfl⟩
      cases b1
      · go_wp2_with fail
        go_ret
        exact ⟨by rw [HB.out]; simp [H1.out, H2.out], HBL.out⟩
      · go_wp2_with fail
        refine Calls.mono (C2.out _) ?_
        rintro e w' ⟨rfl, rfl⟩
        cases b2
        · go_wp2_with fail
          go_ret
          exact ⟨by rw [HB.out]; simp [H1.out, H2.out], HBL.out⟩
        · go_wp2_with fail
          refine Calls.mono (C3.out _) ?_
          rintro e w' ⟨rfl, rfl⟩
          go_wp2_with fail
          go_ret
          exact ⟨by rw [HB.out]; simp [H1.out, H2.out], HBL.out⟩

set_option maxHeartbeats 1600000 in
theorem fitsReq_any (w : World) (m : Mg) : Calls Tryd.prog 85 #[.agg m.cells.toArray] w fun e w' => e = .returned (.bool (reqB m)) ∧ Below w.heap.size w w' := by
  obtain ⟨b, hb⟩ : ∃ b, b = reqB m := ⟨_, rfl⟩
  rw [← hb]
  unfold reqB at hb
  have HB := Lib.hid hb
  have C1 := Lib.hid (isRealReq_any m.rq m.f)
  have C2 := Lib.hid (isRealReq_any m.rq m.t)
  have C3 := Lib.hid (isReq_any m.rq)
  generalize realB m.rq m.f = b1 at C1 HB
  generalize realB m.rq m.t = b2 at C2 HB
  generalize m.rq.is = b3 at C3 HB
  simp only [Rq.cells] at C1 C2 C3
  clear hb
  obtain ⟨W, hW⟩ : ∃ W, W = w.alloc (.cells m.cells.toArray 37) := ⟨_, rfl⟩
  have hbx : W.heap[w.heap.size]? = some (.cells m.cells.toArray 37 (0, 0)) := by rw [hW]; exact heap_alloc_new _ _
  have hbl : Below w.heap.size w W := by rw [hW]; exact (Below.refl _ _).alloc (Nat.le_refl _) _
  have q0 : W.cell? ⟨w.heap.size, 0, none⟩ = some (.int .u8 m.k) := cell_box hbx 0
  have q1 : W.cell? ⟨w.heap.size, 1, none⟩ = some (.int .u8 m.f) := cell_box hbx 1
  have q2 : W.cell? ⟨w.heap.size, 2, none⟩ = some (.int .u8 m.t) := cell_box hbx 2
  have q6 : W.cell? ⟨w.heap.size, 6, none⟩ = some (.int .u8 m.rq.c) := cell_box hbx 6
  have q7 : W.cell? ⟨w.heap.size, 7, none⟩ = some (.int .u32 m.rq.t) := cell_box hbx 7
  have q8 : W.cell? ⟨w.heap.size, 8, none⟩ = some (.int .u8 m.rq.k) := cell_box hbx 8
  have q9 : W.cell? ⟨w.heap.size, 9, none⟩ = some (.int .u8 m.rq.y) := cell_box hbx 9
  have q10 : W.cell? ⟨w.heap.size, 10, none⟩ = some (.int .u16 m.rq.v) := cell_box hbx 10
  have HBX := Lib.hid hbx
  have HBL := Lib.hid hbl
  have HW := Lib.hid hW
  clear hW hbx hbl
  simp only [Mg.cells] at HW ⊢
  go_enter Tryd.func85, Tryd.ntmps85
  go_upto_region 1 with fail
  rw [← HW.out]
  have eA : (#[.int .u8 m.k, .int .u8 m.f, .int .u8 m.t, .int .u8 m.e, .int .u32 m.vw, .int .u32 m.sq, .int .u8 m.rq.c, .int .u32 m.rq.t, .int .u8 m.rq.k, .int .u8 m.rq.y, .int .u16 m.rq.v, .int .u64 m.ro, .int .u8 m.ct, .int .u8 m.pg, .int .u32 m.rs, .int .u8 m.vt.f, .int .u8 m.vt.e, .int .u32 m.vt.vw, .int .u32 m.vt.lo, .slice m.vt.ms.a m.vt.ms.n m.vt.ms.c, .slice m.vt.p.a m.vt.p.n m.vt.p.c, .slice m.vt.q.a m.vt.q.n m.vt.q.c, .slice m.vs.a m.vs.n m.vs.c, .slice m.sm.a m.sm.n m.sm.c, .slice m.dt.a m.dt.n m.dt.c] : Array Value) = m.cells.toArray := rfl
  rw [eA]
  clear eA HW
  have hsz : m.cells.toArray.size = 25 := rfl
  generalize hA : m.cells.toArray = A at *
  have HSZ := Lib.hid hsz
  clear hA hsz
  by_cases h1 : m.k = 1
  · have H1 := Lib.hid h1
    go_wp2_with fail
    refine Calls.mono (C1.out _) ?_
    rintro e w1 ⟨rfl, hb1⟩
    have HB1 := Lib.hid (HBL.out.trans (hb1.mono HBL.out.size))
    clear hb1
    go_wp2_with fail
    go_ret
    exact ⟨by rw [HB.out]; simp [H1.out], HB1.out⟩
  · by_cases h2 : m.k = 14
    · have H1 := Lib.hid h1
      have H2 := Lib.hid h2
      go_wp2_with fail
      refine Calls.mono (C2.out _) ?_
      rintro e w1 ⟨rfl, hb1⟩
      have HB1 := Lib.hid (HBL.out.trans (hb1.mono HBL.out.size))
      clear hb1
      go_wp2_with fail
      go_ret
      exact ⟨by rw [HB.out]; simp [H2.out], HB1.out⟩
    · have H1 := Lib.hid h1
      have H2 := Lib.hid h2
      go_wp2_with fail
      refine Calls.mono (C3.out _) ?_
      rintro e w1 ⟨rfl, hb1⟩
      have HB1 := Lib.hid (HBL.out.trans (hb1.mono HBL.out.size))
      clear hb1
      go_wp2_with fail
      go_ret
      exact ⟨by rw [HB.out]; simp [H1.out, H2.out], HB1.out⟩

set_option maxHeartbeats 8000000 in
theorem fits_any (w : World) (m : Mg) (vb vsb : Bool) (p : Int) (hp0 : 0 ≤ p) (hp1 : p ≤ 10) (hv : p = 7 → ∀ w1, Below w.heap.size w w1 → Calls Tryd.prog 86 #[.agg m.vt.cells.toArray] w1 fun e w2 => e = .returned (.bool vb) ∧ Below w1.heap.size w1 w2) (hvs : p = 8 → ∀ w1, Below w.heap.size w w1 → Calls Tryd.prog 87 #[.slice m.vs.a m.vs.n m.vs.c, .int .u32 m.vw] w1 fun e w2 => e = .returned (.bool vsb) ∧ Below w1.heap.size w1 w2) :
    Calls Tryd.prog 46 #[.agg m.cells.toArray, .int .u8 p] w fun e w' => e = .returned (.bool (fitB m vb vsb p)) ∧ Below w.heap.size w w' := by
  obtain ⟨b, hb⟩ : ∃ b, b = fitB m vb vsb p := ⟨_, rfl⟩
  rw [← hb]
  unfold fitB at hb
  have HB := Lib.hid hb
  have CV := Lib.hid (isView_any m.vw)
  have CN := Lib.hid (isNewView_any m.vw)
  have CS := Lib.hid (isSeq_any m.sq)
  have CH := Lib.hid (isPhase_any m.k)
  have CP := Lib.hid (isPlace_any m.sq)
  have CR := Lib.hid (fun w => fitsReq_any w m)
  generalize isVw m.vw = v1 at CV HB
  generalize isNv m.vw = v2 at CN HB
  generalize isSq m.sq = v3 at CS HB
  generalize isPh m.k = v4 at CH HB
  generalize isPl m.sq = v5 at CP HB
  generalize reqB m = v6 at CR HB
  have HV := Lib.hid hv
  have HVS := Lib.hid hvs
  clear hb hv hvs
  obtain ⟨W, hW⟩ : ∃ W, W = w.alloc (.cells m.cells.toArray 37) := ⟨_, rfl⟩
  have hbx : W.heap[w.heap.size]? = some (.cells m.cells.toArray 37 (0, 0)) := by rw [hW]; exact heap_alloc_new _ _
  have hbl : Below w.heap.size w W := by rw [hW]; exact (Below.refl _ _).alloc (Nat.le_refl _) _
  have q0 : W.cell? ⟨w.heap.size, 0, none⟩ = some (.int .u8 m.k) := cell_box hbx 0
  have q1 : W.cell? ⟨w.heap.size, 1, none⟩ = some (.int .u8 m.f) := cell_box hbx 1
  have q3 : W.cell? ⟨w.heap.size, 3, none⟩ = some (.int .u8 m.e) := cell_box hbx 3
  have q4 : W.cell? ⟨w.heap.size, 4, none⟩ = some (.int .u32 m.vw) := cell_box hbx 4
  have q5 : W.cell? ⟨w.heap.size, 5, none⟩ = some (.int .u32 m.sq) := cell_box hbx 5
  have q12 : W.cell? ⟨w.heap.size, 12, none⟩ = some (.int .u8 m.ct) := cell_box hbx 12
  have q13 : W.cell? ⟨w.heap.size, 13, none⟩ = some (.int .u8 m.pg) := cell_box hbx 13
  have q15 : W.cell? ⟨w.heap.size, 15, none⟩ = some (.int .u8 m.vt.f) := cell_box hbx 15
  have q16 : W.cell? ⟨w.heap.size, 16, none⟩ = some (.int .u8 m.vt.e) := cell_box hbx 16
  have q17 : W.cell? ⟨w.heap.size, 17, none⟩ = some (.int .u32 m.vt.vw) := cell_box hbx 17
  have q18 : W.cell? ⟨w.heap.size, 18, none⟩ = some (.int .u32 m.vt.lo) := cell_box hbx 18
  have q19 : W.cell? ⟨w.heap.size, 19, none⟩ = some (.slice m.vt.ms.a m.vt.ms.n m.vt.ms.c) := cell_box hbx 19
  have q20 : W.cell? ⟨w.heap.size, 20, none⟩ = some (.slice m.vt.p.a m.vt.p.n m.vt.p.c) := cell_box hbx 20
  have q21 : W.cell? ⟨w.heap.size, 21, none⟩ = some (.slice m.vt.q.a m.vt.q.n m.vt.q.c) := cell_box hbx 21
  have q22 : W.cell? ⟨w.heap.size, 22, none⟩ = some (.slice m.vs.a m.vs.n m.vs.c) := cell_box hbx 22
  have q23 : W.cell? ⟨w.heap.size, 23, none⟩ = some (.slice m.sm.a m.sm.n m.sm.c) := cell_box hbx 23
  have q24 : W.cell? ⟨w.heap.size, 24, none⟩ = some (.slice m.dt.a m.dt.n m.dt.c) := cell_box hbx 24
  have HBX := Lib.hid hbx
  have HBL := Lib.hid hbl
  have HW := Lib.hid hW
  clear hW hbx hbl
  simp only [Mg.cells] at HW ⊢
  go_enter Tryd.func46, Tryd.ntmps46
  go_upto_region 1 with fail
  rw [← HW.out]
  have eA : (#[.int .u8 m.k, .int .u8 m.f, .int .u8 m.t, .int .u8 m.e, .int .u32 m.vw, .int .u32 m.sq, .int .u8 m.rq.c, .int .u32 m.rq.t, .int .u8 m.rq.k, .int .u8 m.rq.y, .int .u16 m.rq.v, .int .u64 m.ro, .int .u8 m.ct, .int .u8 m.pg, .int .u32 m.rs, .int .u8 m.vt.f, .int .u8 m.vt.e, .int .u32 m.vt.vw, .int .u32 m.vt.lo, .slice m.vt.ms.a m.vt.ms.n m.vt.ms.c, .slice m.vt.p.a m.vt.p.n m.vt.p.c, .slice m.vt.q.a m.vt.q.n m.vt.q.c, .slice m.vs.a m.vs.n m.vs.c, .slice m.sm.a m.sm.n m.sm.c, .slice m.dt.a m.dt.n m.dt.c] : Array Value) = m.cells.toArray := rfl
  rw [eA]
  clear eA HW
  have hcase : p = 0 ∨ p = 1 ∨ p = 2 ∨ p = 3 ∨ p = 4 ∨ p = 5 ∨ p = 6 ∨ p = 7 ∨ p = 8 ∨ p = 9 ∨ p = 10 := by omega
  have hsz : m.cells.toArray.size = 25 := rfl
  generalize hA : m.cells.toArray = A at *
  have HSZ := Lib.hid hsz
  clear hA hsz
  rcases hcase with rfl | rfl | rfl | rfl | rfl | rfl | rfl | rfl | rfl | rfl | rfl
  · by_cases h7 : m.k = 7
    · have H7 := Lib.hid h7
      go_wp2_with fail
      refine Calls.mono (CV.out _) ?_
      rintro e w' ⟨rfl, rfl⟩
      cases v1
      · go_wp2_with fail
        go_ret
        exact ⟨by rw [HB.out]; simp [H7.out], HBL.out⟩
      · go_wp2_with fail
        refine Calls.mono (CN.out _) ?_
        rintro e w' ⟨rfl, rfl⟩
        go_wp2_with fail
        go_ret
        exact ⟨by rw [HB.out]; simp [H7.out], HBL.out⟩
    · have H7 := Lib.hid h7
      go_wp2_with fail
      refine Calls.mono (CV.out _) ?_
      rintro e w' ⟨rfl, rfl⟩
      cases v1
      · go_wp2_with fail
        go_ret
        exact ⟨by rw [HB.out]; simp [H7.out], HBL.out⟩
      · go_wp2_with fail
        go_ret
        exact ⟨by rw [HB.out]; simp [H7.out], HBL.out⟩
  · go_wp2_with fail
    refine Calls.mono (CS.out _) ?_
    rintro e w' ⟨rfl, rfl⟩
    cases v3
    · go_wp2_with fail
      go_ret
      exact ⟨by rw [HB.out]; simp, HBL.out⟩
    · go_wp2_with fail
      refine Calls.mono (CH.out _) ?_
      rintro e w' ⟨rfl, rfl⟩
      cases v4
      · go_wp2_with fail
        go_ret
        exact ⟨by rw [HB.out]; simp, HBL.out⟩
      · go_wp2_with fail
        refine Calls.mono (CP.out _) ?_
        rintro e w' ⟨rfl, rfl⟩
        go_wp2_with fail
        go_ret
        exact ⟨by rw [HB.out]; simp, HBL.out⟩
  · go_upto_region 7 with fail
    refine wp_region_lit ?_
    refine wpList_load_row rfl 37 (.tmp 2) rfl w.heap.size rfl 37 _ (0, 0) _ HBX.out Tryd.underlying37 rfl (by rw [HSZ.out]; exact size37') ?_
    go_wp2_with fail
    refine Calls.mono (CR.out _) ?_
    rintro e w1 ⟨rfl, hb1⟩
    have HB1 := Lib.hid (HBL.out.trans (hb1.mono HBL.out.size))
    clear hb1
    go_wp2_with fail
    go_ret
    exact ⟨by rw [HB.out]; simp, HB1.out⟩
  · go_wp2_with fail
    go_ret
    exact ⟨by rw [HB.out]; simp, HBL.out⟩
  · by_cases h10 : m.k = 10
    · have H10 := Lib.hid h10
      go_wp2_with fail
      go_ret
      exact ⟨by rw [HB.out]; simp [H10.out], HBL.out⟩
    · have H10 := Lib.hid h10
      by_cases hc : m.ct = m.e
      · have HC := Lib.hid hc
        go_wp2_with fail
        go_ret
        exact ⟨by rw [HB.out]; simp [H10.out, HC.out], HBL.out⟩
      · have HC := Lib.hid hc
        go_wp2_with fail
        go_ret
        exact ⟨by rw [HB.out]; simp [H10.out, HC.out], HBL.out⟩
  · by_cases h8 : m.pg < 8
    · have H8 := Lib.hid h8
      go_wp2_with fail
      go_ret
      exact ⟨by rw [HB.out]; simp [H8.out], HBL.out⟩
    · have H8 := Lib.hid h8
      by_cases h11 : m.k = 11
      · have H11 := Lib.hid h11
        by_cases he : m.pg = 8
        · have HE := Lib.hid he
          go_wp2_with fail
          go_ret
          exact ⟨by rw [HB.out]; simp [H11.out, HE.out], HBL.out⟩
        · have HE := Lib.hid he
          go_wp2_with fail
          go_ret
          have e1 : (m.pg == 8) = false := by simp [HE.out]
          have e2 : decide (m.pg < 8) = false := by simp; omega
          exact ⟨by rw [HB.out]; simp [e2, H11.out, HE.out], HBL.out⟩
      · have H11 := Lib.hid h11
        go_wp2_with fail
        go_ret
        exact ⟨by rw [HB.out]; simp [H8.out, H11.out], HBL.out⟩
  · go_wp2_with fail
    go_ret
    exact ⟨by rw [HB.out]; simp, HBL.out⟩
  · simp only [Vt.cells] at HV
    go_wp2_with fail
    refine Calls.mono (HV.out (by first | rfl | trivial) _ HBL.out) ?_
    rintro e w1 ⟨rfl, hb1⟩
    have hsw : w.heap.size < W.heap.size := lt_of_block HBX.out
    have p15 := (hb1.cell (p := ⟨w.heap.size, 15, none⟩) hsw).trans q15
    have p16 := (hb1.cell (p := ⟨w.heap.size, 16, none⟩) hsw).trans q16
    have p1 := (hb1.cell (p := ⟨w.heap.size, 1, none⟩) hsw).trans q1
    have p3 := (hb1.cell (p := ⟨w.heap.size, 3, none⟩) hsw).trans q3
    have HB1 := Lib.hid (HBL.out.trans (hb1.mono HBL.out.size))
    clear hb1 hsw
    cases vb
    · go_wp2_with fail
      go_ret
      exact ⟨by rw [HB.out]; simp, HB1.out⟩
    · by_cases hf : m.vt.f = m.f
      · have d1 : (m.vt.f == m.f) = true := by simp [hf]
        have HF := Lib.hid hf
        clear hf
        by_cases he : m.vt.e = m.e
        · have d2 : (m.vt.e == m.e) = true := by simp [he]
          have HE := Lib.hid he
          clear he
          go_wp2_with fail
          go_ret
          exact ⟨by rw [HB.out]; simp [HF.out, HE.out], HB1.out⟩
        · have d2 : (m.vt.e == m.e) = false := by simp [he]
          have HE := Lib.hid he
          clear he
          go_wp2_with fail
          go_ret
          exact ⟨by rw [HB.out]; simp [HE.out], HB1.out⟩
      · have d1 : (m.vt.f == m.f) = false := by simp [hf]
        have HF := Lib.hid hf
        clear hf
        go_wp2_with fail
        go_ret
        exact ⟨by rw [HB.out]; simp [HF.out], HB1.out⟩
  · go_wp2_with fail
    refine Calls.mono (HVS.out (by first | rfl | trivial) _ HBL.out) ?_
    rintro e w1 ⟨rfl, hb1⟩
    have HB1 := Lib.hid (HBL.out.trans (hb1.mono HBL.out.size))
    clear hb1
    go_wp2_with fail
    go_ret
    exact ⟨by rw [HB.out]; simp, HB1.out⟩
  · by_cases h8 : m.sm.n = 8
    · have H8 := Lib.hid h8
      go_wp2_with fail
      go_ret
      exact ⟨by rw [HB.out]; simp [H8.out], HBL.out⟩
    · have H8 := Lib.hid h8
      have h8' : ¬ (m.sm.n : Int) = 8 := by omega
      clear h8
      go_wp2_with fail
      go_ret
      exact ⟨by rw [HB.out]; simp [H8.out]; have := H8.out; omega, HBL.out⟩
  · by_cases h8 : m.dt.n ≤ 64
    · have H8 := Lib.hid h8
      have h8' : (m.dt.n : Int) ≤ 64 := by omega
      clear h8
      go_wp2_with fail
      go_ret
      exact ⟨by rw [HB.out]; simp [H8.out], HBL.out⟩
    · have H8 := Lib.hid h8
      have h8' : ¬ (m.dt.n : Int) ≤ 64 := by omega
      clear h8
      go_wp2_with fail
      go_ret
      exact ⟨by rw [HB.out]; simp [H8.out], HBL.out⟩

end Go.Proofs.YtmkeckablkccnaaDoor
