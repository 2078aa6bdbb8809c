/- Votes: whether two are the same. -/
import Derived.Test.YtmkeckablkccnaaDoorEq
namespace Go.Proofs.YtmkeckablkccnaaDoor
open Go.RowKit
set_option maxRecDepth 100000

/-- a slice as it is handed over -/
structure Sl where
  a : Option Addr
  n : Nat
  c : Nat
@[reducible] def Sl.val (s : Sl) : Value := .slice s.a s.n s.c

/-- a vote as it is handed over: its lists lie in memory -/
structure Vt where
  f : Int
  e : Int
  vw : Int
  lo : Int
  ms : Sl
  p : Sl
  q : Sl
def Vt.cells (v : Vt) : List Value := [.int .u8 v.f, .int .u8 v.e, .int .u32 v.vw, .int .u32 v.lo, .slice v.ms.a v.ms.n v.ms.c, .slice v.p.a v.p.n v.p.c, .slice v.q.a v.q.n v.q.c]
/-- what its lists hold -/
structure Vc where
  ms : List Mk
  p : List En
  q : List En
deriving DecidableEq
def VtAt (w : World) (v : Vt) (c : Vc) : Prop := Row w 2 Mk.cells v.ms.val c.ms ∧ Row w 7 En.cells v.p.val c.p ∧ Row w 7 En.cells v.q.val c.q
theorem VtAt.below {w w' : World} {v : Vt} {c : Vc} (h : VtAt w v c) (hb : Below w.heap.size w w') : VtAt w' v c := ⟨h.1.below hb, h.2.1.below hb, h.2.2.below hb⟩
def sameV (a : Vt) (ca : Vc) (b : Vt) (cb : Vc) : Bool := decide (a.f = b.f) && (decide (a.e = b.e) && (decide (a.vw = b.vw) && (decide (a.lo = b.lo) && (decide (ca.ms = cb.ms) && (decide (ca.p = cb.p) && decide (ca.q = cb.q))))))

/-- a slice's value is one cell -/
theorem Row.one {α : Type} {w : World} {k : Nat} {enc : α → List Value} {v : Value} {xs : List α} (h : Row w k enc v xs) : ∃ ao n cap, v = .slice ao n cap := by
  obtain ⟨ao, cap, e, _⟩ := h
  exact ⟨ao, _, cap, e⟩

set_option maxHeartbeats 4000000 in
theorem sameVote_any (w : World) (a b : Vt) (ca cb : Vc) (ha : VtAt w a ca) (hb : VtAt w b cb) :
    Calls Tryd.prog 40 #[.agg a.cells.toArray, .agg b.cells.toArray] w fun e w' => e = .returned (.bool (sameV a ca b cb)) ∧ Below w.heap.size w w' := by
  obtain ⟨W, hW⟩ : ∃ W, W = (w.alloc (.cells a.cells.toArray 32)).alloc (.cells b.cells.toArray 32) := ⟨_, rfl⟩
  have hWs : W.heap.size = w.heap.size + 2 := by rw [hW]; simp
  have hWb : Below w.heap.size w W := by rw [hW]; exact ((Below.refl _ _).alloc (Nat.le_refl _) _).alloc (by simp) _
  have qa0 : W.cell? ⟨w.heap.size, 0, none⟩ = some (.int .u8 a.f) := by rw [hW]; simp [Vt.cells]
  have qa1 : W.cell? ⟨w.heap.size, 1, none⟩ = some (.int .u8 a.e) := by rw [hW]; simp [Vt.cells]
  have qa2 : W.cell? ⟨w.heap.size, 2, none⟩ = some (.int .u32 a.vw) := by rw [hW]; simp [Vt.cells]
  have qa3 : W.cell? ⟨w.heap.size, 3, none⟩ = some (.int .u32 a.lo) := by rw [hW]; simp [Vt.cells]
  have qa4 : W.cell? ⟨w.heap.size, 4, none⟩ = some (.slice a.ms.a a.ms.n a.ms.c) := by rw [hW]; simp [Vt.cells]
  have qa5 : W.cell? ⟨w.heap.size, 5, none⟩ = some (.slice a.p.a a.p.n a.p.c) := by rw [hW]; simp [Vt.cells]
  have qa6 : W.cell? ⟨w.heap.size, 6, none⟩ = some (.slice a.q.a a.q.n a.q.c) := by rw [hW]; simp [Vt.cells]
  have qb0 : W.cell? ⟨w.heap.size + 1, 0, none⟩ = some (.int .u8 b.f) := by rw [hW]; simp [Vt.cells]
  have qb1 : W.cell? ⟨w.heap.size + 1, 1, none⟩ = some (.int .u8 b.e) := by rw [hW]; simp [Vt.cells]
  have qb2 : W.cell? ⟨w.heap.size + 1, 2, none⟩ = some (.int .u32 b.vw) := by rw [hW]; simp [Vt.cells]
  have qb3 : W.cell? ⟨w.heap.size + 1, 3, none⟩ = some (.int .u32 b.lo) := by rw [hW]; simp [Vt.cells]
  have qb4 : W.cell? ⟨w.heap.size + 1, 4, none⟩ = some (.slice b.ms.a b.ms.n b.ms.c) := by rw [hW]; simp [Vt.cells]
  have qb5 : W.cell? ⟨w.heap.size + 1, 5, none⟩ = some (.slice b.p.a b.p.n b.p.c) := by rw [hW]; simp [Vt.cells]
  have qb6 : W.cell? ⟨w.heap.size + 1, 6, none⟩ = some (.slice b.q.a b.q.n b.q.c) := by rw [hW]; simp [Vt.cells]
  obtain ⟨r, hr⟩ : ∃ r, r = sameV a ca b cb := ⟨_, rfl⟩
  rw [← hr]
  unfold sameV at hr
  have HR := Lib.hid hr
  have HA := Lib.hid (ha.below hWb)
  have HB := Lib.hid (hb.below hWb)
  have HWB := Lib.hid hWb
  have HWS := Lib.hid hWs
  have HW := Lib.hid hW
  simp only [Vt.cells] at HW ⊢
  clear hr ha hb hWb hWs hW
  by_cases h1 : a.f = b.f
  · have d0 : (a.f == b.f) = true := by simp [h1]
    have H0 := Lib.hid h1
    clear h1
    by_cases h2 : a.e = b.e
    · have d1 : (a.e == b.e) = true := by simp [h2]
      have H1 := Lib.hid h2
      clear h2
      by_cases h3 : a.vw = b.vw
      · have d2 : (a.vw == b.vw) = true := by simp [h3]
        have H2 := Lib.hid h3
        clear h3
        by_cases h4 : a.lo = b.lo
        · have d3 : (a.lo == b.lo) = true := by simp [h4]
          have H3 := Lib.hid h4
          clear h4
          have E1 := equal63 W a.ms.val b.ms.val _ _ HA.out.1 HB.out.1
          go_enter Tryd.func40, Tryd.ntmps40
          generalize hm1 : decide (ca.ms = cb.ms) = m1 at E1
          have F1 := Lib.hid E1
          have G1 := Lib.hid hm1
          clear E1 hm1
          go_wp2_with fail
          rw [← HW.out]
          refine Calls.mono F1.out ?_
          rintro e w1 ⟨rfl, hb1⟩
          have pa5 := (hb1.cell (p := ⟨w.heap.size, 5, none⟩) (by show w.heap.size < _; rw [HWS.out]; omega)).trans qa5
          have pb5 := (hb1.cell (p := ⟨w.heap.size + 1, 5, none⟩) (by show w.heap.size + 1 < _; rw [HWS.out]; omega)).trans qb5
          have E2 := equal64 w1 a.p.val b.p.val _ _ (HA.out.2.1.below hb1) (HB.out.2.1.below hb1)
          generalize hm2 : decide (ca.p = cb.p) = m2 at E2
          have B1 := Lib.hid hb1
          have F2 := Lib.hid E2
          have G2 := Lib.hid hm2
          clear E2 hm2 hb1
          cases m1
          · go_wp2_with fail
            go_ret
            refine ⟨?_, HWB.out.trans (B1.out.mono (by rw [HWS.out]; omega))⟩
            rw [HR.out, G1.out]; simp
          · go_wp2_with fail
            refine Calls.mono F2.out ?_
            rintro e w2 ⟨rfl, hb2⟩
            have hb12 := B1.out.trans (hb2.mono B1.out.size)
            have pa6 := (hb12.cell (p := ⟨w.heap.size, 6, none⟩) (by show w.heap.size < _; rw [HWS.out]; omega)).trans qa6
            have pb6 := (hb12.cell (p := ⟨w.heap.size + 1, 6, none⟩) (by show w.heap.size + 1 < _; rw [HWS.out]; omega)).trans qb6
            have E3 := equal64 w2 a.q.val b.q.val _ _ (HA.out.2.2.below hb12) (HB.out.2.2.below hb12)
            generalize hm3 : decide (ca.q = cb.q) = m3 at E3
            have B2 := Lib.hid hb12
            have F3 := Lib.hid E3
            have G3 := Lib.hid hm3
            clear E3 hm3 hb2 hb12
            cases m2
            · go_wp2_with fail
              go_ret
              refine ⟨?_, HWB.out.trans (B2.out.mono (by rw [HWS.out]; omega))⟩
              rw [HR.out, G2.out]; simp
            · go_wp2_with fail
              refine Calls.mono F3.out ?_
              rintro e w3 ⟨rfl, hb3⟩
              have B3 := Lib.hid (B2.out.trans (hb3.mono B2.out.size))
              clear hb3
              go_wp2_with fail
              go_ret
              refine ⟨?_, HWB.out.trans (B3.out.mono (by rw [HWS.out]; omega))⟩
              rw [HR.out, G1.out, G2.out, G3.out]; simp [H0.out, H1.out, H2.out, H3.out]
        · have d3 : (a.lo == b.lo) = false := by simp [h4]
          have H3 := Lib.hid h4
          clear h4
          go_enter Tryd.func40, Tryd.ntmps40
          go_wp2_with fail
          go_ret
          refine ⟨?_, by rw [← HW.out]; exact HWB.out⟩
          rw [HR.out]; simp [H3.out]
      · have d2 : (a.vw == b.vw) = false := by simp [h3]
        have H2 := Lib.hid h3
        clear h3
        go_enter Tryd.func40, Tryd.ntmps40
        go_wp2_with fail
        go_ret
        refine ⟨?_, by rw [← HW.out]; exact HWB.out⟩
        rw [HR.out]; simp [H2.out]
    · have d1 : (a.e == b.e) = false := by simp [h2]
      have H1 := Lib.hid h2
      clear h2
      go_enter Tryd.func40, Tryd.ntmps40
      go_wp2_with fail
      go_ret
      refine ⟨?_, by rw [← HW.out]; exact HWB.out⟩
      rw [HR.out]; simp [H1.out]
  · have d0 : (a.f == b.f) = false := by simp [h1]
    have H0 := Lib.hid h1
    clear h1
    go_enter Tryd.func40, Tryd.ntmps40
    go_wp2_with fail
    go_ret
    refine ⟨?_, by rw [← HW.out]; exact HWB.out⟩
    rw [HR.out]; simp [H0.out]

end Go.Proofs.YtmkeckablkccnaaDoor
