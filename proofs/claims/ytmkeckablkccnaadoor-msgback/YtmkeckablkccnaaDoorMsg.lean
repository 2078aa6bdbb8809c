/- Messages: whether two are the same. -/
import Derived.Test.YtmkeckablkccnaaDoorVote
namespace Go.Proofs.YtmkeckablkccnaaDoor
open Go.RowKit
set_option maxRecDepth 100000

/-- what a message holds beside its lists -/
structure Wd where
  k : Int
  f : Int
  t : Int
  e : Int
  vw : Int
  sq : Int
  rq : Rq
  ro : Int
  ct : Int
  pg : Int
  rs : Int
deriving DecidableEq
def Wd.cells (m : Wd) : List Value := [.int .u8 m.k, .int .u8 m.f, .int .u8 m.t, .int .u8 m.e, .int .u32 m.vw, .int .u32 m.sq, .int .u8 m.rq.c, .int .u32 m.rq.t, .int .u8 m.rq.k, .int .u8 m.rq.y, .int .u16 m.rq.v, .int .u64 m.ro, .int .u8 m.ct, .int .u8 m.pg, .int .u32 m.rs]

/-- a message as it is handed over: its lists lie in memory -/
structure Mg extends Wd where
  vt : Vt
  vs : Sl
  sm : Sl
  dt : Sl
def Mg.cells (m : Mg) : List Value := [.int .u8 m.k, .int .u8 m.f, .int .u8 m.t, .int .u8 m.e, .int .u32 m.vw, .int .u32 m.sq, .int .u8 m.rq.c, .int .u32 m.rq.t, .int .u8 m.rq.k, .int .u8 m.rq.y, .int .u16 m.rq.v, .int .u64 m.ro, .int .u8 m.ct, .int .u8 m.pg, .int .u32 m.rs, .int .u8 m.vt.f, .int .u8 m.vt.e, .int .u32 m.vt.vw, .int .u32 m.vt.lo, .slice m.vt.ms.a m.vt.ms.n m.vt.ms.c, .slice m.vt.p.a m.vt.p.n m.vt.p.c, .slice m.vt.q.a m.vt.q.n m.vt.q.c, .slice m.vs.a m.vs.n m.vs.c, .slice m.sm.a m.sm.n m.sm.c, .slice m.dt.a m.dt.n m.dt.c]

/-- what its lists hold -/
structure Mc where
  vt : Vc
  vs : List (Vt × Vc)
  sm : List Int
  dt : List Int

def vcell (x : Vt × Vc) : List Value := x.1.cells
def VsAt (w : World) (v : Sl) (l : List (Vt × Vc)) : Prop := Row w 7 vcell v.val l ∧ ∀ x ∈ l, VtAt w x.1 x.2
def DtAt (w : World) (v : Sl) (l : List Int) : Prop := v.n = l.length ∧ Bytes w v.a l ∧ (v.a = none → v.c = 0) ∧ l.length ≤ v.c ∧ l.length ≤ 50000 ∧ ∀ x ∈ l, isByte x
def ucell (x : Int) : List Value := [Value.int .u64 x]
structure MgAt (w : World) (m : Mg) (c : Mc) : Prop where
  vt : VtAt w m.vt c.vt
  vs : VsAt w m.vs c.vs
  sm : Row w 1 (fun x => [Value.int .u64 x]) m.sm.val c.sm
  dt : DtAt w m.dt c.dt

theorem VsAt.below {w w' : World} {v : Sl} {l : List (Vt × Vc)} (h : VsAt w v l) (hb : Below w.heap.size w w') : VsAt w' v l := ⟨h.1.below hb, fun x hx => (h.2 x hx).below hb⟩
theorem DtAt.below {w w' : World} {v : Sl} {l : List Int} (h : DtAt w v l) (hb : Below w.heap.size w w') : DtAt w' v l := by
  obtain ⟨e, h1, h2⟩ := h
  exact ⟨e, bytes_below h1 hb (Nat.le_refl _), h2⟩
theorem MgAt.below {w w' : World} {m : Mg} {c : Mc} (h : MgAt w m c) (hb : Below w.heap.size w w') : MgAt w' m c := ⟨h.vt.below hb, h.vs.below hb, h.sm.below hb, h.dt.below hb⟩

def sameVs (xs ys : List (Vt × Vc)) : Bool := decide (xs.length = ys.length) && (xs.zip ys).all fun p => sameV p.1.1 p.1.2 p.2.1 p.2.2
def sameM (a : Mg) (ca : Mc) (b : Mg) (cb : Mc) : Bool := decide (a.toWd = b.toWd) && (sameV a.vt ca.vt b.vt cb.vt && (sameVs ca.vs cb.vs && (decide (ca.sm = cb.sm) && decide (ca.dt = cb.dt))))

theorem eql75 (x y : Wd) (w : World) : (binOp .eql 87 (.agg x.cells.toArray) (.agg y.cells.toArray)).run Tryd.prog w = .ok (.bool (decide (x = y))) w := by
  have u5 := Tryd.underlying5; have a5 := Tryd.isAgg5; have z5 := Tryd.sizeOf5
  have u22 := Tryd.underlying22; have a22 := Tryd.isAgg22; have z22 := Tryd.sizeOf22
  have u23 := Tryd.underlying23; have a23 := Tryd.isAgg23; have z23 := Tryd.sizeOf23
  have u28 := Tryd.underlying28; have a28 := Tryd.isAgg28; have z28 := Tryd.sizeOf28
  have u25 := Tryd.underlying25; have a25 := Tryd.isAgg25; have z25 := Tryd.sizeOf25
  have u27 := Tryd.underlying27; have a27 := Tryd.isAgg27; have z27 := Tryd.sizeOf27
  have hS : Tryd.prog.underlying 87 = some (.struct (Tryd.prog.fieldsOf 87)) := by kernel_rfl
  have hp : Tryd.prog.stoodInHeld 87 = false := by kernel_rfl
  have hS7 : Tryd.prog.underlying 27 = some (.struct (Tryd.prog.fieldsOf 27)) := by kernel_rfl
  have hp7 : Tryd.prog.stoodInHeld 27 = false := by kernel_rfl
  have hS5 : Tryd.prog.underlying 25 = some (.struct (Tryd.prog.fieldsOf 25)) := by kernel_rfl
  have hp5 : Tryd.prog.stoodInHeld 25 = false := by kernel_rfl
  have h27 : ∀ (xs ys : Array Value) (w : World), (Op.equalIn 9999 27 (.agg xs) (.agg ys)).run Tryd.prog w = (Op.eqFields 9998 xs ys (Tryd.prog.fieldsOf 27).toList).run Tryd.prog w := fun xs ys w => by
    rw [show (9999 : Nat) = 9998 + 1 from rfl, run_equalIn_agg w 9998 27 _ _ hS7 hp7]
  have h25 : ∀ (xs ys : Array Value) (w : World), (Op.equalIn 9998 25 (.agg xs) (.agg ys)).run Tryd.prog w = (Op.eqFields 9997 xs ys (Tryd.prog.fieldsOf 25).toList).run Tryd.prog w := fun xs ys w => by
    rw [show (9998 : Nat) = 9997 + 1 from rfl, run_equalIn_agg w 9997 25 _ _ hS5 hp5]
  simp only [Wd.cells]
  rw [run_eql_struct, show (10000 : Nat) = 9999 + 1 from rfl, run_equalIn_agg w 9999 87 _ _ hS hp]
  simp only [Program.fieldsOf, Tryd.underlying87]
  simp only [Program.fieldsOf, Tryd.underlying25] at h25
  simp only [Program.fieldsOf, Tryd.underlying27] at h27
  go_simp
  obtain ⟨x1, x2, x3, x4, x5, x6, ⟨x7, x8, x9, x10, x11⟩, x12, x13, x14, x15⟩ := x
  obtain ⟨y1, y2, y3, y4, y5, y6, ⟨y7, y8, y9, y10, y11⟩, y12, y13, y14, y15⟩ := y
  simp only [Wd.mk.injEq, Rq.mk.injEq]
  rcases Decidable.em (x1 = y1) with h1 | h1
  rotate_left
  · simp [h1]
  rcases Decidable.em (x2 = y2) with h2 | h2
  rotate_left
  · simp [h2]
  rcases Decidable.em (x3 = y3) with h3 | h3
  rotate_left
  · simp [h3]
  rcases Decidable.em (x4 = y4) with h4 | h4
  rotate_left
  · simp [h4]
  rcases Decidable.em (x5 = y5) with h5 | h5
  rotate_left
  · simp [h5]
  rcases Decidable.em (x6 = y6) with h6 | h6
  rotate_left
  · simp [h6]
  rcases Decidable.em (x7 = y7) with h7 | h7
  rotate_left
  · simp [h7]
  rcases Decidable.em (x8 = y8) with h8 | h8
  rotate_left
  · simp [h8]
  rcases Decidable.em (x9 = y9) with h9 | h9
  rotate_left
  · simp [h9]
  rcases Decidable.em (x10 = y10) with h10 | h10
  rotate_left
  · simp [h10]
  rcases Decidable.em (x11 = y11) with h11 | h11
  rotate_left
  · simp [h11]
  rcases Decidable.em (x12 = y12) with h12 | h12
  rotate_left
  · simp [h12]
  rcases Decidable.em (x13 = y13) with h13 | h13
  rotate_left
  · simp [h13]
  rcases Decidable.em (x14 = y14) with h14 | h14
  rotate_left
  · simp [h14]
  rcases Decidable.em (x15 = y15) with h15 | h15
  rotate_left
  · simp [h15]
  simp [h1, h2, h3, h4, h5, h6, h7, h8, h9, h10, h11, h12, h13, h14, h15]

theorem guard75 : GuardAt Tryd.prog 87 (fun x : Wd => .agg x.cells.toArray) := GuardAt.agg _ (by kernel_rfl)

theorem size75 : (Tryd.prog.info? 87).map (·.size) = some 15 := by kernel_rfl

set_option maxHeartbeats 1600000 in
theorem wordsOf_any (m : Mg) (w : World) : Calls Tryd.prog 39 #[.agg m.cells.toArray] w fun e w' => e = .returned (.agg m.toWd.cells.toArray) ∧ Below w.heap.size w w' := by
  simp only [Mg.cells, Wd.cells]
  go_enter Tryd.func39, Tryd.ntmps39
  go_wp2_with fail
  (try simp only [Exit.inBlock, Exit.then])
  refine bodyPost_ret (results_cell_row (P := Tryd.prog) rfl _ _ (w.heap.size + 1) 87 _ (0, 0) _ rfl (heap_alloc2_new _ _ _) Tryd.underlying87 rfl size75) rfl ?_
  exact ⟨rfl, ((Below.refl _ _).alloc (Nat.le_refl _) _).alloc (by simp) _⟩

set_option maxHeartbeats 4000000 in
theorem equalFunc_any (w : World) (v1 v2 : Sl) (xs ys : List (Vt × Vc)) (h1 : VsAt w v1 xs) (h2 : VsAt w v2 ys) :
    Calls Tryd.prog 41 #[.slice v1.a v1.n v1.c, .slice v2.a v2.n v2.c, .func (.func 40) #[] #[]] w fun e w' => e = .returned (.bool (sameVs xs ys)) ∧ Below w.heap.size w w' := by
  have M1 := Lib.hid h1.2
  have M2 := Lib.hid h2.2
  obtain ⟨⟨a1, c1, q1, -, -, hn1, hr1⟩, -⟩ := h1
  obtain ⟨⟨a2, c2, q2, -, -, hn2, hr2⟩, -⟩ := h2
  simp only [Sl.val] at q1 q2
  rw [q1, q2]
  clear q1 q2
  have H1 := Lib.hid hr1
  have H2 := Lib.hid hr2
  clear hr1 hr2
  obtain ⟨r, hr⟩ : ∃ r, r = sameVs xs ys := ⟨_, rfl⟩
  rw [← hr]
  unfold sameVs at hr
  have HR := Lib.hid hr
  clear hr
  by_cases hnm : xs.length = ys.length
  · generalize hn : xs.length = n at *
    generalize hm : ys.length = m at *
    subst hnm
    have HN := Lib.hid hn
    have HM := Lib.hid hm
    clear hn hm
    go_enter Tryd.func41, Tryd.ntmps41
    go_wp2_with fail
    go_loopw [17] (fun vi wr => ∃ j : Nat, j ≤ n ∧ vi = .int .i64 j ∧ Hid (Below w.heap.size w wr) ∧ Hid (∀ (i : Nat) x y, i < j → xs[i]? = some x → ys[i]? = some y → sameV x.1 x.2 y.1 y.2 = true)) (fun i _ => n - (intOf i).toNat)
    case atStart => exact ⟨0, by omega, rfl, Lib.hid (Below.refl _ _), Lib.hid (fun i _ _ h => by omega)⟩
    case round =>
      obtain ⟨j, hj, rfl, HB, A⟩ := hrel
      by_cases hlt : j < n
      · obtain ⟨x, hx⟩ : ∃ x, xs[j]? = some x := ⟨_, List.getElem?_eq_getElem (by rw [HN.out]; exact hlt)⟩
        obtain ⟨y, hy⟩ : ∃ y, ys[j]? = some y := ⟨_, List.getElem?_eq_getElem (by rw [HM.out]; exact hlt)⟩
        obtain ⟨b1, o1, e1, g1⟩ := H1.out j x hx
        obtain ⟨b2, o2, e2, g2⟩ := H2.out j y hy
        subst e1; subst e2
        have X := Lib.hid ((M1.out x (List.mem_of_getElem? hx)).below HB.out)
        have Y := Lib.hid ((M2.out y (List.mem_of_getElem? hy)).below HB.out)
        have HX := Lib.hid hx
        have HY := Lib.hid hy
        have hc : ∀ (b o : Nat) (z : Vt × Vc), (∀ i u, (vcell z)[i]? = some u → w.cell? ⟨b, o + j * 7 + i, none⟩ = some u) → ∀ i u, z.1.cells[i]? = some u → wr.cell? ⟨b, o + j * 7 + i, none⟩ = some u := fun b o z h i u hu => by
          have h3 := h i u hu
          rw [HB.out.cell (cell_block h3)]; exact h3
        have G1 := hc b1 o1 x g1
        have G2 := hc b2 o2 y g2
        obtain ⟨x, cx⟩ := x
        obtain ⟨y, cy⟩ := y
        simp only at X Y G1 G2
        have l10 : wr.cell? ⟨b1, o1 + j * 7, none⟩ = some (.int .u8 x.f) := G1 0 _ rfl
        have l20 : ∀ o, (wr.alloc o).cell? ⟨b2, o2 + j * 7, none⟩ = some (.int .u8 y.f) := fun o => (((Below.refl wr.heap.size wr).alloc (Nat.le_refl _) o).cell (cell_block (G2 0 _ rfl))).trans (G2 0 _ rfl)
        have l11 : wr.cell? ⟨b1, o1 + j * 7 + 1, none⟩ = some (.int .u8 x.e) := G1 1 _ rfl
        have l21 : ∀ o, (wr.alloc o).cell? ⟨b2, o2 + j * 7 + 1, none⟩ = some (.int .u8 y.e) := fun o => (((Below.refl wr.heap.size wr).alloc (Nat.le_refl _) o).cell (cell_block (G2 1 _ rfl))).trans (G2 1 _ rfl)
        have l12 : wr.cell? ⟨b1, o1 + j * 7 + 2, none⟩ = some (.int .u32 x.vw) := G1 2 _ rfl
        have l22 : ∀ o, (wr.alloc o).cell? ⟨b2, o2 + j * 7 + 2, none⟩ = some (.int .u32 y.vw) := fun o => (((Below.refl wr.heap.size wr).alloc (Nat.le_refl _) o).cell (cell_block (G2 2 _ rfl))).trans (G2 2 _ rfl)
        have l13 : wr.cell? ⟨b1, o1 + j * 7 + 3, none⟩ = some (.int .u32 x.lo) := G1 3 _ rfl
        have l23 : ∀ o, (wr.alloc o).cell? ⟨b2, o2 + j * 7 + 3, none⟩ = some (.int .u32 y.lo) := fun o => (((Below.refl wr.heap.size wr).alloc (Nat.le_refl _) o).cell (cell_block (G2 3 _ rfl))).trans (G2 3 _ rfl)
        have l14 : wr.cell? ⟨b1, o1 + j * 7 + 4, none⟩ = some (.slice x.ms.a x.ms.n x.ms.c) := G1 4 _ rfl
        have l24 : ∀ o, (wr.alloc o).cell? ⟨b2, o2 + j * 7 + 4, none⟩ = some (.slice y.ms.a y.ms.n y.ms.c) := fun o => (((Below.refl wr.heap.size wr).alloc (Nat.le_refl _) o).cell (cell_block (G2 4 _ rfl))).trans (G2 4 _ rfl)
        have l15 : wr.cell? ⟨b1, o1 + j * 7 + 5, none⟩ = some (.slice x.p.a x.p.n x.p.c) := G1 5 _ rfl
        have l25 : ∀ o, (wr.alloc o).cell? ⟨b2, o2 + j * 7 + 5, none⟩ = some (.slice y.p.a y.p.n y.p.c) := fun o => (((Below.refl wr.heap.size wr).alloc (Nat.le_refl _) o).cell (cell_block (G2 5 _ rfl))).trans (G2 5 _ rfl)
        have l16 : wr.cell? ⟨b1, o1 + j * 7 + 6, none⟩ = some (.slice x.q.a x.q.n x.q.c) := G1 6 _ rfl
        have l26 : ∀ o, (wr.alloc o).cell? ⟨b2, o2 + j * 7 + 6, none⟩ = some (.slice y.q.a y.q.n y.q.c) := fun o => (((Below.refl wr.heap.size wr).alloc (Nat.le_refl _) o).cell (cell_block (G2 6 _ rfl))).trans (G2 6 _ rfl)
        have hnew : ∀ o1 o2, Below wr.heap.size wr ((wr.alloc o1).alloc o2) := fun o1 o2 => ((Below.refl _ _).alloc (Nat.le_refl _) _).alloc (by simp) _
        have S := Lib.hid (fun o1 o2 => sameVote_any ((wr.alloc o1).alloc o2) x y cx cy (X.out.below (hnew o1 o2)) (Y.out.below (hnew o1 o2)))
        have HNW := Lib.hid hnew
        clear g1 g2 G1 G2 hx hy hc hnew
        generalize hs : sameV x cx y cy = sb at S
        have HSB := Lib.hid hs
        simp only [Vt.cells] at S
        clear hs
        go_wp2_with fail
        refine Calls.mono (S.out _ _) ?_
        rintro e w1 ⟨rfl, hb1⟩
        have B1 := Lib.hid (HB.out.trans (((HNW.out _ _).trans (hb1.mono (HNW.out _ _).size)).mono HB.out.size))
        clear hb1
        cases sb
        · go_wp2_with fail
          go_ret
          refine ⟨?_, B1.out⟩
          rw [HR.out]
          have : ((xs.zip ys).all fun p => sameV p.1.1 p.1.2 p.2.1 p.2.2) = false := by
            rw [List.all_eq_false]
            refine ⟨((x, cx), (y, cy)), ?_, by simp [HSB.out]⟩
            have hz : (xs.zip ys)[j]? = some ((x, cx), (y, cy)) := by simp [List.getElem?_zip_eq_some, HX.out, HY.out]
            exact List.mem_of_getElem? hz
          rw [this]; rfl
        · go_wp2_with fail
          go_round
          case measure => simp [intOf]; omega
          case rel =>
            refine ⟨j + 1, by omega, by go_num, B1, Lib.hid (fun i x' y' hi hx' hy' => ?_)⟩
            by_cases e : i = j
            · subst e
              rw [HX.out] at hx'; rw [HY.out] at hy'
              injection hx' with hx'; injection hy' with hy'
              subst hx'; subst hy'
              exact HSB.out
            · exact A.out i x' y' (by omega) hx' hy'
      · obtain rfl : j = n := by omega
        go_wp2_with fail
        go_ret
        refine ⟨?_, HB.out⟩
        rw [HR.out]
        have : ((xs.zip ys).all fun p => sameV p.1.1 p.1.2 p.2.1 p.2.2) = true := by
          rw [List.all_eq_true]
          intro p hp
          obtain ⟨i, hi⟩ := List.mem_iff_getElem?.1 hp
          have h3 := List.getElem?_zip_eq_some.1 hi
          refine A.out i p.1 p.2 ?_ h3.1 h3.2
          have := (List.getElem?_eq_some_iff.1 h3.1).1
          rw [HN.out] at this
          exact this
        rw [this]; rfl
  · have hnm' : ¬ (xs.length : Int) = (ys.length : Int) := by omega
    have HNE := Lib.hid hnm
    clear hnm
    generalize hn : xs.length = n at *
    generalize hm : ys.length = m at *
    go_enter Tryd.func41, Tryd.ntmps41
    go_wp2_with fail
    go_ret
    exact ⟨by rw [HR.out]; simp [HNE.out], Below.refl _ _⟩

end Go.Proofs.YtmkeckablkccnaaDoor
