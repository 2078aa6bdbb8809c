/- Messages: whether two are the same. Laws for a region that draws its order: an operation that yields is taken first. Same. -/
import Derived.Test.YtbpfkeeikhhlnaaGreatDoorC02
import Derived.Test.YtbpfkeeikhhlnaaGreatDoorC01
import Derived.Deep.RegionHeld3
import Derived.WalkKit
namespace Go.Proofs.YtbpfkeeikhhlnaaGreatDoor
open Go.RowKit
set_option maxRecDepth 100000

/-- what a message holds beside its lists -/
structure Wd where
  k : Int
  f : Int
  t : Int
  e : Int
  vw : Int
  sq : Int
  rq : Rq
  ro : Int
  ct : Int
  pg : Int
  rs : Int
deriving DecidableEq
def Wd.cells (m : Wd) : List Value := [.int .u8 m.k, .int .u8 m.f, .int .u8 m.t, .int .u8 m.e, .int .u32 m.vw, .int .u32 m.sq, .int .u8 m.rq.c, .int .u32 m.rq.t, .int .u8 m.rq.k, .int .u8 m.rq.y, .int .u16 m.rq.v, .int .u64 m.ro, .int .u8 m.ct, .int .u8 m.pg, .int .u32 m.rs]

/-- a message as it is handed over: its lists lie in memory -/
structure Mg extends Wd where
  vt : Vt
  vs : Sl
  sm : Sl
  dt : Sl
def Mg.cells (m : Mg) : List Value := [.int .u8 m.k, .int .u8 m.f, .int .u8 m.t, .int .u8 m.e, .int .u32 m.vw, .int .u32 m.sq, .int .u8 m.rq.c, .int .u32 m.rq.t, .int .u8 m.rq.k, .int .u8 m.rq.y, .int .u16 m.rq.v, .int .u64 m.ro, .int .u8 m.ct, .int .u8 m.pg, .int .u32 m.rs, .int .u8 m.vt.f, .int .u8 m.vt.e, .int .u32 m.vt.vw, .int .u32 m.vt.lo, .slice m.vt.ms.a m.vt.ms.n m.vt.ms.c, .slice m.vt.p.a m.vt.p.n m.vt.p.c, .slice m.vt.q.a m.vt.q.n m.vt.q.c, .slice m.vs.a m.vs.n m.vs.c, .slice m.sm.a m.sm.n m.sm.c, .slice m.dt.a m.dt.n m.dt.c]

/-- what its lists hold -/
structure Mc where
  vt : Vc
  vs : List (Vt × Vc)
  sm : List Int
  dt : List Int

def vcell (x : Vt × Vc) : List Value := x.1.cells
def VsAt (w : World) (v : Sl) (l : List (Vt × Vc)) : Prop := Row w 7 vcell v.val l ∧ ∀ x ∈ l, VtAt w x.1 x.2
def DtAt (w : World) (v : Sl) (l : List Int) : Prop := v.n = l.length ∧ Bytes w v.a l ∧ (v.a = none → v.c = 0) ∧ l.length ≤ v.c ∧ l.length ≤ 50000 ∧ ∀ x ∈ l, isByte x
structure MgAt (w : World) (m : Mg) (c : Mc) : Prop where
  vt : VtAt w m.vt c.vt
  vs : VsAt w m.vs c.vs
  sm : Row w 1 (fun x => [Value.int .u64 x]) m.sm.val c.sm
  dt : DtAt w m.dt c.dt

theorem VsAt.below {w w' : World} {v : Sl} {l : List (Vt × Vc)} (h : VsAt w v l) (hb : Below w.heap.size w w') : VsAt w' v l := ⟨h.1.below hb, fun x hx => (h.2 x hx).below hb⟩
theorem DtAt.below {w w' : World} {v : Sl} {l : List Int} (h : DtAt w v l) (hb : Below w.heap.size w w') : DtAt w' v l := by
  obtain ⟨e, h1, h2⟩ := h
  exact ⟨e, bytes_below h1 hb (Nat.le_refl _), h2⟩
theorem MgAt.below {w w' : World} {m : Mg} {c : Mc} (h : MgAt w m c) (hb : Below w.heap.size w w') : MgAt w' m c := ⟨h.vt.below hb, h.vs.below hb, h.sm.below hb, h.dt.below hb⟩

def sameVs (xs ys : List (Vt × Vc)) : Bool := decide (xs.length = ys.length) && (xs.zip ys).all fun p => sameV p.1.1 p.1.2 p.2.1 p.2.2
def sameM (a : Mg) (ca : Mc) (b : Mg) (cb : Mc) : Bool := decide (a.toWd = b.toWd) && (sameV a.vt ca.vt b.vt cb.vt && (sameVs ca.vs cb.vs && (decide (ca.sm = cb.sm) && decide (ca.dt = cb.dt))))

theorem eql75 (x y : Wd) (w : World) : (binOp .eql 82 (.agg x.cells.toArray) (.agg y.cells.toArray)).run Tryz.prog w = .ok (.bool (decide (x = y))) w := by
  have u5 := Tryz.underlying5; have a5 := Tryz.isAgg5; have z5 := Tryz.sizeOf5
  have u22 := Tryz.underlying22; have a22 := Tryz.isAgg22; have z22 := Tryz.sizeOf22
  have u23 := Tryz.underlying23; have a23 := Tryz.isAgg23; have z23 := Tryz.sizeOf23
  have u28 := Tryz.underlying28; have a28 := Tryz.isAgg28; have z28 := Tryz.sizeOf28
  have u25 := Tryz.underlying25; have a25 := Tryz.isAgg25; have z25 := Tryz.sizeOf25
  have u27 := Tryz.underlying27; have a27 := Tryz.isAgg27; have z27 := Tryz.sizeOf27
  have hS : Tryz.prog.underlying 82 = some (.struct (Tryz.prog.fieldsOf 82)) := by kernel_rfl
  have hp : Tryz.prog.stoodInHeld 82 = false := by kernel_rfl
  have hS7 : Tryz.prog.underlying 27 = some (.struct (Tryz.prog.fieldsOf 27)) := by kernel_rfl
  have hp7 : Tryz.prog.stoodInHeld 27 = false := by kernel_rfl
  have hS5 : Tryz.prog.underlying 25 = some (.struct (Tryz.prog.fieldsOf 25)) := by kernel_rfl
  have hp5 : Tryz.prog.stoodInHeld 25 = false := by kernel_rfl
  have h27 : ∀ (xs ys : Array Value) (w : World), (Op.equalIn 9999 27 (.agg xs) (.agg ys)).run Tryz.prog w = (Op.eqFields 9998 xs ys (Tryz.prog.fieldsOf 27).toList).run Tryz.prog w := fun xs ys w => by
    rw [show (9999 : Nat) = 9998 + 1 from rfl, run_equalIn_agg w 9998 27 _ _ hS7 hp7]
  have h25 : ∀ (xs ys : Array Value) (w : World), (Op.equalIn 9998 25 (.agg xs) (.agg ys)).run Tryz.prog w = (Op.eqFields 9997 xs ys (Tryz.prog.fieldsOf 25).toList).run Tryz.prog w := fun xs ys w => by
    rw [show (9998 : Nat) = 9997 + 1 from rfl, run_equalIn_agg w 9997 25 _ _ hS5 hp5]
  simp only [Wd.cells]
  rw [run_eql_struct, show (10000 : Nat) = 9999 + 1 from rfl, run_equalIn_agg w 9999 82 _ _ hS hp]
  simp only [Program.fieldsOf, Tryz.underlying82]
  simp only [Program.fieldsOf, Tryz.underlying25] at h25
  simp only [Program.fieldsOf, Tryz.underlying27] at h27
  go_simp
  obtain ⟨x1, x2, x3, x4, x5, x6, ⟨x7, x8, x9, x10, x11⟩, x12, x13, x14, x15⟩ := x
  obtain ⟨y1, y2, y3, y4, y5, y6, ⟨y7, y8, y9, y10, y11⟩, y12, y13, y14, y15⟩ := y
  simp only [Wd.mk.injEq, Rq.mk.injEq]
  rcases Decidable.em (x1 = y1) with h1 | h1
  rotate_left
  · simp [h1]
  rcases Decidable.em (x2 = y2) with h2 | h2
  rotate_left
  · simp [h2]
  rcases Decidable.em (x3 = y3) with h3 | h3
  rotate_left
  · simp [h3]
  rcases Decidable.em (x4 = y4) with h4 | h4
  rotate_left
  · simp [h4]
  rcases Decidable.em (x5 = y5) with h5 | h5
  rotate_left
  · simp [h5]
  rcases Decidable.em (x6 = y6) with h6 | h6
  rotate_left
  · simp [h6]
  rcases Decidable.em (x7 = y7) with h7 | h7
  rotate_left
  · simp [h7]
  rcases Decidable.em (x8 = y8) with h8 | h8
  rotate_left
  · simp [h8]
  rcases Decidable.em (x9 = y9) with h9 | h9
  rotate_left
  · simp [h9]
  rcases Decidable.em (x10 = y10) with h10 | h10
  rotate_left
  · simp [h10]
  rcases Decidable.em (x11 = y11) with h11 | h11
  rotate_left
  · simp [h11]
  rcases Decidable.em (x12 = y12) with h12 | h12
  rotate_left
  · simp [h12]
  rcases Decidable.em (x13 = y13) with h13 | h13
  rotate_left
  · simp [h13]
  rcases Decidable.em (x14 = y14) with h14 | h14
  rotate_left
  · simp [h14]
  rcases Decidable.em (x15 = y15) with h15 | h15
  rotate_left
  · simp [h15]
  simp [h1, h2, h3, h4, h5, h6, h7, h8, h9, h10, h11, h12, h13, h14, h15]

theorem guard75 : GuardAt Tryz.prog 82 (fun x : Wd => .agg x.cells.toArray) := GuardAt.agg _ (by kernel_rfl)

theorem size75 : (Tryz.prog.info? 82).map (·.size) = some 15 := by kernel_rfl

set_option maxHeartbeats 1600000 in
theorem wordsOf_any (m : Mg) (w : World) : Calls Tryz.prog 50 #[.agg m.cells.toArray] w fun e w' => e = .returned (.agg m.toWd.cells.toArray) ∧ Below w.heap.size w w' := by
  simp only [Mg.cells, Wd.cells]
  go_enter Tryz.func50, Tryz.ntmps50
  go_wp2_with fail
  (try simp only [Exit.inBlock, Exit.then])
  refine bodyPost_ret (results_cell_row (P := Tryz.prog) rfl _ _ (w.heap.size + 1) 82 _ (0, 0) _ rfl (heap_alloc2_new _ _ _) Tryz.underlying82 rfl size75) rfl ?_
  exact ⟨rfl, ((Below.refl _ _).alloc (Nat.le_refl _) _).alloc (by simp) _⟩

set_option maxHeartbeats 4000000 in
theorem equalFunc_any (w : World) (v1 v2 : Sl) (xs ys : List (Vt × Vc)) (h1 : VsAt w v1 xs) (h2 : VsAt w v2 ys) :
    Calls Tryz.prog 52 #[.slice v1.a v1.n v1.c, .slice v2.a v2.n v2.c, .func (.func 51) #[] #[]] w fun e w' => e = .returned (.bool (sameVs xs ys)) ∧ Below w.heap.size w w' := by
  have M1 := Lib.hid h1.2
  have M2 := Lib.hid h2.2
  obtain ⟨⟨a1, c1, q1, -, -, hn1, hr1⟩, -⟩ := h1
  obtain ⟨⟨a2, c2, q2, -, -, hn2, hr2⟩, -⟩ := h2
  simp only [Sl.val] at q1 q2
  rw [q1, q2]
  clear q1 q2
  have H1 := Lib.hid hr1
  have H2 := Lib.hid hr2
  clear hr1 hr2
  obtain ⟨r, hr⟩ : ∃ r, r = sameVs xs ys := ⟨_, rfl⟩
  rw [← hr]
  unfold sameVs at hr
  have HR := Lib.hid hr
  clear hr
  by_cases hnm : xs.length = ys.length
  · generalize hn : xs.length = n at *
    generalize hm : ys.length = m at *
    subst hnm
    have HN := Lib.hid hn
    have HM := Lib.hid hm
    clear hn hm
    go_enter Tryz.func52, Tryz.ntmps52
    go_wp2_with fail
    go_loopw [17] (fun vi wr => ∃ j : Nat, j ≤ n ∧ vi = .int .i64 j ∧ Hid (Below w.heap.size w wr) ∧ Hid (∀ (i : Nat) x y, i < j → xs[i]? = some x → ys[i]? = some y → sameV x.1 x.2 y.1 y.2 = true)) (fun i _ => n - (intOf i).toNat)
    case atStart => exact ⟨0, by omega, rfl, Lib.hid (Below.refl _ _), Lib.hid (fun i _ _ h => by omega)⟩
    case round =>
      obtain ⟨j, hj, rfl, HB, A⟩ := hrel
      by_cases hlt : j < n
      · obtain ⟨x, hx⟩ : ∃ x, xs[j]? = some x := ⟨_, List.getElem?_eq_getElem (by rw [HN.out]; exact hlt)⟩
        obtain ⟨y, hy⟩ : ∃ y, ys[j]? = some y := ⟨_, List.getElem?_eq_getElem (by rw [HM.out]; exact hlt)⟩
        obtain ⟨b1, o1, e1, g1⟩ := H1.out j x hx
        obtain ⟨b2, o2, e2, g2⟩ := H2.out j y hy
        subst e1; subst e2
        have X := Lib.hid ((M1.out x (List.mem_of_getElem? hx)).below HB.out)
        have Y := Lib.hid ((M2.out y (List.mem_of_getElem? hy)).below HB.out)
        have HX := Lib.hid hx
        have HY := Lib.hid hy
        have hc : ∀ (b o : Nat) (z : Vt × Vc), (∀ i u, (vcell z)[i]? = some u → w.cell? ⟨b, o + j * 7 + i, none⟩ = some u) → ∀ i u, z.1.cells[i]? = some u → wr.cell? ⟨b, o + j * 7 + i, none⟩ = some u := fun b o z h i u hu => by
          have h3 := h i u hu
          rw [HB.out.cell (cell_block h3)]; exact h3
        have G1 := hc b1 o1 x g1
        have G2 := hc b2 o2 y g2
        obtain ⟨x, cx⟩ := x
        obtain ⟨y, cy⟩ := y
        simp only at X Y G1 G2
        have l10 : wr.cell? ⟨b1, o1 + j * 7, none⟩ = some (.int .u8 x.f) := G1 0 _ rfl
        have l20 : ∀ o, (wr.alloc o).cell? ⟨b2, o2 + j * 7, none⟩ = some (.int .u8 y.f) := fun o => (((Below.refl wr.heap.size wr).alloc (Nat.le_refl _) o).cell (cell_block (G2 0 _ rfl))).trans (G2 0 _ rfl)
        have l11 : wr.cell? ⟨b1, o1 + j * 7 + 1, none⟩ = some (.int .u8 x.e) := G1 1 _ rfl
        have l21 : ∀ o, (wr.alloc o).cell? ⟨b2, o2 + j * 7 + 1, none⟩ = some (.int .u8 y.e) := fun o => (((Below.refl wr.heap.size wr).alloc (Nat.le_refl _) o).cell (cell_block (G2 1 _ rfl))).trans (G2 1 _ rfl)
        have l12 : wr.cell? ⟨b1, o1 + j * 7 + 2, none⟩ = some (.int .u32 x.vw) := G1 2 _ rfl
        have l22 : ∀ o, (wr.alloc o).cell? ⟨b2, o2 + j * 7 + 2, none⟩ = some (.int .u32 y.vw) := fun o => (((Below.refl wr.heap.size wr).alloc (Nat.le_refl _) o).cell (cell_block (G2 2 _ rfl))).trans (G2 2 _ rfl)
        have l13 : wr.cell? ⟨b1, o1 + j * 7 + 3, none⟩ = some (.int .u32 x.lo) := G1 3 _ rfl
        have l23 : ∀ o, (wr.alloc o).cell? ⟨b2, o2 + j * 7 + 3, none⟩ = some (.int .u32 y.lo) := fun o => (((Below.refl wr.heap.size wr).alloc (Nat.le_refl _) o).cell (cell_block (G2 3 _ rfl))).trans (G2 3 _ rfl)
        have l14 : wr.cell? ⟨b1, o1 + j * 7 + 4, none⟩ = some (.slice x.ms.a x.ms.n x.ms.c) := G1 4 _ rfl
        have l24 : ∀ o, (wr.alloc o).cell? ⟨b2, o2 + j * 7 + 4, none⟩ = some (.slice y.ms.a y.ms.n y.ms.c) := fun o => (((Below.refl wr.heap.size wr).alloc (Nat.le_refl _) o).cell (cell_block (G2 4 _ rfl))).trans (G2 4 _ rfl)
        have l15 : wr.cell? ⟨b1, o1 + j * 7 + 5, none⟩ = some (.slice x.p.a x.p.n x.p.c) := G1 5 _ rfl
        have l25 : ∀ o, (wr.alloc o).cell? ⟨b2, o2 + j * 7 + 5, none⟩ = some (.slice y.p.a y.p.n y.p.c) := fun o => (((Below.refl wr.heap.size wr).alloc (Nat.le_refl _) o).cell (cell_block (G2 5 _ rfl))).trans (G2 5 _ rfl)
        have l16 : wr.cell? ⟨b1, o1 + j * 7 + 6, none⟩ = some (.slice x.q.a x.q.n x.q.c) := G1 6 _ rfl
        have l26 : ∀ o, (wr.alloc o).cell? ⟨b2, o2 + j * 7 + 6, none⟩ = some (.slice y.q.a y.q.n y.q.c) := fun o => (((Below.refl wr.heap.size wr).alloc (Nat.le_refl _) o).cell (cell_block (G2 6 _ rfl))).trans (G2 6 _ rfl)
        have hnew : ∀ o1 o2, Below wr.heap.size wr ((wr.alloc o1).alloc o2) := fun o1 o2 => ((Below.refl _ _).alloc (Nat.le_refl _) _).alloc (by simp) _
        have S := Lib.hid (fun o1 o2 => sameVote_any ((wr.alloc o1).alloc o2) x y cx cy (X.out.below (hnew o1 o2)) (Y.out.below (hnew o1 o2)))
        have HNW := Lib.hid hnew
        clear g1 g2 G1 G2 hx hy hc hnew
        generalize hs : sameV x cx y cy = sb at S
        have HSB := Lib.hid hs
        simp only [Vt.cells] at S
        clear hs
        go_wp2_with fail
        refine Calls.mono (S.out _ _) ?_
        rintro e w1 ⟨rfl, hb1⟩
        have B1 := Lib.hid (HB.out.trans (((HNW.out _ _).trans (hb1.mono (HNW.out _ _).size)).mono HB.out.size))
        clear hb1
        cases sb
        · go_wp2_with fail
          go_ret
          refine ⟨?_, B1.out⟩
          rw [HR.out]
          have : ((xs.zip ys).all fun p => sameV p.1.1 p.1.2 p.2.1 p.2.2) = false := by
            rw [List.all_eq_false]
            refine ⟨((x, cx), (y, cy)), ?_, by simp [HSB.out]⟩
            have hz : (xs.zip ys)[j]? = some ((x, cx), (y, cy)) := by simp [List.getElem?_zip_eq_some, HX.out, HY.out]
            exact List.mem_of_getElem? hz
          rw [this]; rfl
        · go_wp2_with fail
          go_round
          case measure => simp [intOf]; omega
          case rel =>
            refine ⟨j + 1, by omega, by go_num, B1, Lib.hid (fun i x' y' hi hx' hy' => ?_)⟩
            by_cases e : i = j
            · subst e
              rw [HX.out] at hx'; rw [HY.out] at hy'
              injection hx' with hx'; injection hy' with hy'
              subst hx'; subst hy'
              exact HSB.out
            · exact A.out i x' y' (by omega) hx' hy'
      · obtain rfl : j = n := by omega
        go_wp2_with fail
        go_ret
        refine ⟨?_, HB.out⟩
        rw [HR.out]
        have : ((xs.zip ys).all fun p => sameV p.1.1 p.1.2 p.2.1 p.2.2) = true := by
          rw [List.all_eq_true]
          intro p hp
          obtain ⟨i, hi⟩ := List.mem_iff_getElem?.1 hp
          have h3 := List.getElem?_zip_eq_some.1 hi
          refine A.out i p.1 p.2 ?_ h3.1 h3.2
          have := (List.getElem?_eq_some_iff.1 h3.1).1
          rw [HN.out] at this
          exact this
        rw [this]; rfl
  · have hnm' : ¬ (xs.length : Int) = (ys.length : Int) := by omega
    have HNE := Lib.hid hnm
    clear hnm
    generalize hn : xs.length = n at *
    generalize hm : ys.length = m at *
    go_enter Tryz.func52, Tryz.ntmps52
    go_wp2_with fail
    go_ret
    exact ⟨by rw [HR.out]; simp [HNE.out], Below.refl _ _⟩
end Go.Proofs.YtbpfkeeikhhlnaaGreatDoor
namespace Go.Proofs.YtbpfkeeikhhlnaaGreatDoor
open Go.RowKit

theorem tk {P : Program} {ops : Array Oper} {Q : Exit → Act → World → Prop} {md : Region.Mode} {S : World → Prop} {oi : Oper} {fuel d : Nat} {listed : Array Bool} {t t' : Array Value} {df : List Deferred} {w : World} (i : Nat) (v : Value) (hi : ops[i]? = some oi) (hy : YieldsIf P ops S oi v ⟨t, df⟩) (hS : S w)
    (h : wpAnyH P md ops Q S fuel (listed.setIfInBounds i true) ⟨t', df⟩ w) (hd : oi.dst = some d := by rfl) (hs : Region.noSelect ops = true := by kernel_rfl) (hf : Region.free md ops listed i = true := by kernel_rfl) (hr : (Region.ready md ops listed).contains i = true := by kernel_rfl)
    (hQ : ∀ c a w, Q (.panic c) (a.put oi.dst v) w → Q (.panic c) a w := by exact fun _ _ _ h => h) (ha : t.setIfInBounds d v = t' := by simp only [List.setIfInBounds_toArray, List.set_cons_succ, List.set_cons_zero]; rfl) : wpAnyH P md ops Q S (fuel + 1) listed ⟨t, df⟩ w := by
  refine wpAnyH_take hi hs hf hr hQ hy hS ?_
  rw [hd]; subst ha; exact h

theorem tm {P : Program} {ops : Array Oper} {Q : Exit → Act → World → Prop} {md : Region.Mode} {S : World → Prop} {oi : Oper} {fuel d : Nat} {listed : Array Bool} {t t' : Array Value} {df : List Deferred} {w : World} (i : Nat) (v : Value) (hi : ops[i]? = some oi) (hS : S w)
    (h : wpAnyH P md ops Q S fuel (listed.setIfInBounds i true) ⟨t', df⟩ w) (hy : YieldsIf P ops S oi v ⟨t, df⟩ := by exact .inl ⟨rfl, fun _ _ => rfl⟩) (hd : oi.dst = some d := by rfl) (hs : Region.noSelect ops = true := by kernel_rfl) (hf : Region.free md ops listed i = true := by kernel_rfl) (hr : (Region.ready md ops listed).contains i = true := by kernel_rfl)
    (hQ : ∀ c a w, Q (.panic c) (a.put oi.dst v) w → Q (.panic c) a w := by exact fun _ _ _ h => h) (ha : t.setIfInBounds d v = t' := by simp only [List.setIfInBounds_toArray, List.set_cons_succ, List.set_cons_zero]; rfl) : wpAnyH P md ops Q S (fuel + 1) listed ⟨t, df⟩ w := by
  refine wpAnyH_take hi hs hf hr hQ hy hS ?_
  rw [hd]; subst ha; exact h

theorem tg {P : Program} {ops : Array Oper} {Q : Exit → Act → World → Prop} {md : Region.Mode} {S : World → Prop} {oi : Oper} {fuel d : Nat} {listed : Array Bool} {t t' : Array Value} {df : List Deferred} {w : World} (i : Nat) (v : Value) (hi : ops[i]? = some oi) (hS : S w)
    (h : wpAnyH P md ops Q S fuel (listed.setIfInBounds i true) ⟨t', df⟩ w) (hy : YieldsIf P ops S oi v ⟨t, df⟩ := by exact .inl ⟨rfl, fun _ _ => by go_simp⟩) (hd : oi.dst = some d := by rfl) (hs : Region.noSelect ops = true := by kernel_rfl) (hf : Region.free md ops listed i = true := by kernel_rfl) (hr : (Region.ready md ops listed).contains i = true := by kernel_rfl)
    (hQ : ∀ c a w, Q (.panic c) (a.put oi.dst v) w → Q (.panic c) a w := by exact fun _ _ _ h => h) (ha : t.setIfInBounds d v = t' := by simp only [List.setIfInBounds_toArray, List.set_cons_succ, List.set_cons_zero]; rfl) : wpAnyH P md ops Q S (fuel + 1) listed ⟨t, df⟩ w := by
  refine wpAnyH_take hi hs hf hr hQ hy hS ?_
  rw [hd]; subst ha; exact h

theorem tn {P : Program} {ops : Array Oper} {Q : Exit → Act → World → Prop} {md : Region.Mode} {S : World → Prop} {oi : Oper} {fuel d : Nat} {listed : Array Bool} {t t' : Array Value} {df : List Deferred} {w : World} (i : Nat) (hi : ops[i]? = some oi) (hS : S w)
    (h : wpAnyH P md ops Q S fuel (listed.setIfInBounds i true) ⟨t', df⟩ w) (hy : YieldsIf P ops S oi undef ⟨t, df⟩ := by exact .inr ⟨rfl, rfl⟩) (hd : oi.dst = some d := by rfl) (hs : Region.noSelect ops = true := by kernel_rfl) (hf : Region.free md ops listed i = true := by kernel_rfl) (hr : (Region.ready md ops listed).contains i = true := by kernel_rfl)
    (hQ : ∀ c a w, Q (.panic c) (a.put oi.dst undef) w → Q (.panic c) a w := by exact fun _ _ _ h => h) (ha : t.setIfInBounds d undef = t' := by simp only [List.setIfInBounds_toArray, List.set_cons_succ, List.set_cons_zero]; rfl) : wpAnyH P md ops Q S (fuel + 1) listed ⟨t, df⟩ w := by
  refine wpAnyH_take hi hs hf hr hQ hy hS ?_
  rw [hd]; subst ha; exact h

theorem wv {P : Program} {ops : Array Oper} {Q : Exit → Act → World → Prop} {o : Oper} {rest : List Oper} {t t' : Array Value} {df : List Deferred} {d : Nat} {w : World} (v : Value) (w1 : World) (h : (execOp (Act.mk t df).eval o).run P w = .ok (.value v) w1) (k : wpList P ops Q rest ⟨t', df⟩ w1)
    (hgd : o.guard = none := by rfl) (hd : o.dst = some d := by rfl) (ha : t.setIfInBounds d v = t' := by simp only [List.setIfInBounds_toArray, List.set_cons_succ, List.set_cons_zero]; rfl) : wpList P ops Q (o :: rest) ⟨t, df⟩ w :=
  wpList_plain hgd fun K hK => by
    unfold Oper.wp; rw [h]; refine hK _ _ ?_
    subst ha; rw [hd]; exact k

theorem yi_load {P : Program} {ops : Array Oper} {S : World → Prop} {o : Oper} {v : Value} {a : Act} (ty : TypeId) (x : Operand) (p : Value) (hw : Region.wanted o (yielded ops a.tmps) = true) (ho : o.op = .load ty x) (hx : a.eval x = p)
    (h : ∀ w, S w → (Instr.loadAt ty p).run P w = .ok v w) : YieldsIf P ops S o v a := by
  refine .inl ⟨hw, fun w hS => ?_⟩
  unfold execOp
  simp only [ho, hx, Sem.run_bind, h w hS, Result.andThen_ok, Sem.run_pure]

theorem rdy1 {P : Program} {ops : Array Oper} {Q : Exit → Act → World → Prop} {md : Region.Mode} {S : World → Prop} {fuel : Nat} {listed : Array Bool} {a : Act} {w : World} {o : Oper} (i : Nat) (ho : ops[i]? = some o)
    (h : ∀ K' : Act → World → Prop, Shut (∀ a w, S w → (S w → wpAnyH P md ops Q S fuel (listed.setIfInBounds i true) a w) → K' a w) → if Region.wanted o (yielded ops a.tmps) = true then Oper.wp P o a w K' Q else K' (a.put o.dst undef) w)
    (hr : Region.ready md ops listed = [i] := by kernel_rfl) : wpAnyH P md ops Q S (fuel + 1) listed a w :=
  wpAnyH_ready hr (by simp) (.cons ho h .nil)
end Go.Proofs.YtbpfkeeikhhlnaaGreatDoor
namespace Go.Proofs.YtbpfkeeikhhlnaaGreatDoor
open Go.RowKit
set_option maxRecDepth 100000

theorem Below.up {W w0 w1 : World} (h0 : Below W.heap.size W w0) (h1 : Below w0.heap.size w0 w1) : Below W.heap.size W w1 := h0.trans (h1.mono h0.size)

theorem yi_eql {P : Program} {ops : Array Oper} {S : World → Prop} {o : Oper} {a : Act} {r : Bool} {va vb : Value} (hw : Region.wanted o (yielded ops a.tmps) = true) (ty : TypeId) (x y : Operand) (ho : o.op = .binOp .eql ty x y ty) (hx : a.eval x = va) (hy : a.eval y = vb)
    (h : ∀ w, (binOp .eql ty va vb).run P w = .ok (.bool r) w) (hg : ∀ op (x y : Operand) (w : World), (eqGuard op ty x y va vb).run P w = .ok () w) : YieldsIf P ops S o (.bool r) a := by
  refine .inl ⟨hw, fun w hS => ?_⟩
  unfold execOp
  simp only [ho, hx, hy]
  go_simp

theorem cell_box {w' : World} {g : Nat} {m : Mg} (h : w'.heap[g]? = some (.cells m.cells.toArray 37 (0, 0))) (i : Nat) : w'.cell? ⟨g, i, none⟩ = m.cells[i]? := by
  rw [cell_of_row _ _ i _ _ _ h]; simp

theorem mgA (m : Mg) : (#[.int .u8 m.k, .int .u8 m.f, .int .u8 m.t, .int .u8 m.e, .int .u32 m.vw, .int .u32 m.sq, .int .u8 m.rq.c, .int .u32 m.rq.t, .int .u8 m.rq.k, .int .u8 m.rq.y, .int .u16 m.rq.v, .int .u64 m.ro, .int .u8 m.ct, .int .u8 m.pg, .int .u32 m.rs, .int .u8 m.vt.f, .int .u8 m.vt.e, .int .u32 m.vt.vw, .int .u32 m.vt.lo, .slice m.vt.ms.a m.vt.ms.n m.vt.ms.c, .slice m.vt.p.a m.vt.p.n m.vt.p.c, .slice m.vt.q.a m.vt.q.n m.vt.q.c, .slice m.vs.a m.vs.n m.vs.c, .slice m.sm.a m.sm.n m.sm.c, .slice m.dt.a m.dt.n m.dt.c] : Array Value) = m.cells.toArray := rfl

theorem bl1 {w W : World} {b : Obj} (h : W = w.alloc b) : Below w.heap.size w W := by rw [h]; exact (Below.refl _ _).alloc (Nat.le_refl _) _

theorem bx1 {w W : World} {b : Obj} (h : W = w.alloc b) : W.heap[w.heap.size]? = some b := by rw [h]; exact heap_alloc_new _ _

theorem bl2 {w W : World} {b c : Obj} (h : W = (w.alloc b).alloc c) : Below w.heap.size w W := by rw [h]; exact ((Below.refl _ _).alloc (Nat.le_refl _) _).alloc (by simp) _

theorem fa2 {w W : World} {b c : Obj} (h : W = (w.alloc b).alloc c) : ∀ w', Below W.heap.size W w' → w'.heap[w.heap.size]? = some b := fun w' k => by rw [k.block w.heap.size (by rw [h]; simp; omega), h]; exact heap_alloc2_old _ _ _

theorem fb2 {w W : World} {b c : Obj} (h : W = (w.alloc b).alloc c) : ∀ w', Below W.heap.size W w' → w'.heap[w.heap.size + 1]? = some c := fun w' k => by rw [k.block (w.heap.size + 1) (by rw [h]; simp), h]; exact heap_alloc2_new _ _ _

theorem hq {W : World} {b i : Nat} {v : Value} (q : W.cell? ⟨b, i, none⟩ = some v) : ∀ wx, Below W.heap.size W wx → wx.cell? ⟨b, i, none⟩ = some v := fun wx h => by rw [h.cell (cell_block q)]; exact q

theorem ht {w W w' : World} (hb : Hid (Below w.heap.size w W)) (h : Below W.heap.size W w') (e : Hid (W.heap.size = w.heap.size + 1)) : Below w.heap.size w w' := hb.out.trans (h.mono (by have := e.out; omega))

theorem vote_load {w' : World} {g : Nat} {m : Mg} (h : w'.heap[g]? = some (.cells m.cells.toArray 37 (0, 0))) : (Instr.loadAt 32 (.pointer (some ⟨g, 15, none⟩))).run Tryz.prog w' = .ok (.agg m.vt.cells.toArray) w' := by
  have q15 : w'.cell? ⟨g, 15, none⟩ = some (.int .u8 m.vt.f) := by rw [cell_box h]; rfl
  have q16 : w'.cell? ⟨g, 16, none⟩ = some (.int .u8 m.vt.e) := by rw [cell_box h]; rfl
  have q17 : w'.cell? ⟨g, 17, none⟩ = some (.int .u32 m.vt.vw) := by rw [cell_box h]; rfl
  have q18 : w'.cell? ⟨g, 18, none⟩ = some (.int .u32 m.vt.lo) := by rw [cell_box h]; rfl
  have q19 : w'.cell? ⟨g, 19, none⟩ = some (.slice m.vt.ms.a m.vt.ms.n m.vt.ms.c) := by rw [cell_box h]; rfl
  have q20 : w'.cell? ⟨g, 20, none⟩ = some (.slice m.vt.p.a m.vt.p.n m.vt.p.c) := by rw [cell_box h]; rfl
  have q21 : w'.cell? ⟨g, 21, none⟩ = some (.slice m.vt.q.a m.vt.q.n m.vt.q.c) := by rw [cell_box h]; rfl
  have a32 := Tryz.isAgg32; have z32 := Tryz.sizeOf32
  simp only [Vt.cells]
  clear h
  go_simp

theorem vs_load {w' : World} {g : Nat} {m : Mg} (h : w'.heap[g]? = some (.cells m.cells.toArray 37 (0, 0))) : (Instr.loadAt 33 (.pointer (some ⟨g, 22, none⟩))).run Tryz.prog w' = .ok (.slice m.vs.a m.vs.n m.vs.c) w' := by
  have q : w'.cell? ⟨g, 22, none⟩ = some (.slice m.vs.a m.vs.n m.vs.c) := by rw [cell_box h]; rfl
  have a33 := Tryz.isAgg33; have z33 := Tryz.sizeOf33
  clear h
  go_simp

theorem sm_load {w' : World} {g : Nat} {m : Mg} (h : w'.heap[g]? = some (.cells m.cells.toArray 37 (0, 0))) : (Instr.loadAt 34 (.pointer (some ⟨g, 23, none⟩))).run Tryz.prog w' = .ok (.slice m.sm.a m.sm.n m.sm.c) w' := by
  have q : w'.cell? ⟨g, 23, none⟩ = some (.slice m.sm.a m.sm.n m.sm.c) := by rw [cell_box h]; rfl
  have a34 := Tryz.isAgg34; have z34 := Tryz.sizeOf34
  clear h
  go_simp

theorem dt_load {w' : World} {g : Nat} {m : Mg} (h : w'.heap[g]? = some (.cells m.cells.toArray 37 (0, 0))) : (Instr.loadAt 35 (.pointer (some ⟨g, 24, none⟩))).run Tryz.prog w' = .ok (.slice m.dt.a m.dt.n m.dt.c) w' := by
  have q : w'.cell? ⟨g, 24, none⟩ = some (.slice m.dt.a m.dt.n m.dt.c) := by rw [cell_box h]; rfl
  have a35 := Tryz.isAgg35; have z35 := Tryz.sizeOf35
  clear h
  go_simp

theorem msg_load {w' : World} {g : Nat} {m : Mg} (h : w'.heap[g]? = some (.cells m.cells.toArray 37 (0, 0))) : (Instr.loadAt 37 (.pointer (some ⟨g, 0, none⟩))).run Tryz.prog w' = .ok (.agg m.cells.toArray) w' := by
  simp only [Instr.loadAt, Instr.sureAddr, Sem.run_bind, Sem.run_pure, Result.andThen_ok]
  exact run_loadVar_row _ _ 37 37 _ (0, 0) _ h Tryz.underlying37 rfl (by kernel_rfl)

set_option maxHeartbeats 8000000 in
theorem same_any (w : World) (a b : Mg) (ca cb : Mc) (ha : MgAt w a ca) (hb : MgAt w b cb) :
    Calls Tryz.prog 16 #[.agg a.cells.toArray, .agg b.cells.toArray] w fun e w' => e = .returned (.bool (sameM a ca b cb)) ∧ Below w.heap.size w w' := by
  obtain ⟨W, hW⟩ : ∃ W, W = (w.alloc (.cells a.cells.toArray 37)).alloc (.cells b.cells.toArray 37) := ⟨_, rfl⟩
  have hWs : W.heap.size = w.heap.size + 2 := by rw [hW]; simp
  have hWb : Below w.heap.size w W := by rw [hW]; exact ((Below.refl _ _).alloc (Nat.le_refl _) _).alloc (by simp) _
  have fa : ∀ w', Below W.heap.size W w' → w'.heap[w.heap.size]? = some (.cells a.cells.toArray 37 (0, 0)) := fun w' h => by rw [h.block w.heap.size (by omega), hW]; first | exact heap_alloc2_old _ _ _ | exact heap_alloc2_new _ _ _
  have fb : ∀ w', Below W.heap.size W w' → w'.heap[(w.heap.size + 1)]? = some (.cells b.cells.toArray 37 (0, 0)) := fun w' h => by rw [h.block (w.heap.size + 1) (by omega), hW]; first | exact heap_alloc2_old _ _ _ | exact heap_alloc2_new _ _ _
  obtain ⟨r, hr⟩ : ∃ r, r = sameM a ca b cb := ⟨_, rfl⟩
  rw [← hr]
  unfold sameM at hr
  have HA := Lib.hid (ha.below hWb)
  have HB := Lib.hid (hb.below hWb)
  have HWB := Lib.hid hWb
  have HWS := Lib.hid hWs
  have FA := Lib.hid fa
  have FB := Lib.hid fb
  have hW0 := Below.refl W.heap.size W
  have hWc := hW
  have E0 := fun w => eql75 a.toWd b.toWd w
  have G0 := fun op x y w => guard75 op x y a.toWd b.toWd w
  obtain ⟨m1, hm1⟩ : ∃ m, m = decide (a.toWd = b.toWd) := ⟨_, rfl⟩
  obtain ⟨m2, hm2⟩ : ∃ m, m = sameV a.vt ca.vt b.vt cb.vt := ⟨_, rfl⟩
  obtain ⟨m3, hm3⟩ : ∃ m, m = sameVs ca.vs cb.vs := ⟨_, rfl⟩
  obtain ⟨m4, hm4⟩ : ∃ m, m = decide (ca.sm = cb.sm) := ⟨_, rfl⟩
  obtain ⟨m5, hm5⟩ : ∃ m, m = decide (ca.dt = cb.dt) := ⟨_, rfl⟩
  rw [← hm1] at E0
  have C1 := Lib.hid (fun w' => wordsOf_any a w')
  have C2 := Lib.hid (fun w' => wordsOf_any b w')
  have C3 := Lib.hid (fun w' (h : Below W.heap.size W w') => by have := sameVote_any w' a.vt b.vt _ _ (HA.out.vt.below h) (HB.out.vt.below h); rw [← hm2] at this; exact this)
  have C4 := Lib.hid (fun w' (h : Below W.heap.size W w') => by have := equalFunc_any w' a.vs b.vs _ _ (HA.out.vs.below h) (HB.out.vs.below h); rw [← hm3] at this; exact this)
  have C5 := Lib.hid (fun w' (h : Below W.heap.size W w') => by have := equal30 w' a.sm.val b.sm.val _ _ (HA.out.sm.below h) (HB.out.sm.below h); rw [← hm4] at this; exact this)
  have C6 := Lib.hid (fun w' (h : Below W.heap.size W w') => by
    have x := HA.out.dt.below h
    have y := HB.out.dt.below h
    have := equal31 w' a.dt.a b.dt.a a.dt.c b.dt.c _ _ x.2.1 y.2.1 (by have := x.2.2.2.2.1; omega) (by have := y.2.2.2.2.1; omega)
    rw [← x.1, ← y.1, ← hm5] at this; exact this)
  rw [← hm1, ← hm2, ← hm3, ← hm4, ← hm5] at hr
  have HR := Lib.hid hr
  simp only [Mg.cells] at hWc ⊢
  have HW := Lib.hid hWc
  clear hr ha hb hWb hWs hW hWc fa fb hm1 hm2 hm3 hm4 hm5
  go_enter Tryz.func16, Tryz.ntmps16
  go_wp2_with fail
  rw [← HW.out]
  have eA := mgA a
  have eB : (#[.int .u8 b.k, .int .u8 b.f, .int .u8 b.t, .int .u8 b.e, .int .u32 b.vw, .int .u32 b.sq, .int .u8 b.rq.c, .int .u32 b.rq.t, .int .u8 b.rq.k, .int .u8 b.rq.y, .int .u16 b.rq.v, .int .u64 b.ro, .int .u8 b.ct, .int .u8 b.pg, .int .u32 b.rs, .int .u8 b.vt.f, .int .u8 b.vt.e, .int .u32 b.vt.vw, .int .u32 b.vt.lo, .slice b.vt.ms.a b.vt.ms.n b.vt.ms.c, .slice b.vt.p.a b.vt.p.n b.vt.p.c, .slice b.vt.q.a b.vt.q.n b.vt.q.c, .slice b.vs.a b.vs.n b.vs.c, .slice b.sm.a b.sm.n b.sm.c, .slice b.dt.a b.dt.n b.dt.c] : Array Value) = b.cells.toArray := rfl
  rw [eA, eB]
  clear eA eB
  have LA := Lib.hid (fun w' h => msg_load (FA.out w' h))
  have LB := Lib.hid (fun w' h => msg_load (FB.out w' h))
  have VA := Lib.hid (fun w' h => vote_load (FA.out w' h))
  have VB := Lib.hid (fun w' h => vote_load (FB.out w' h))
  have SA := Lib.hid (fun w' h => vs_load (FA.out w' h))
  have SB := Lib.hid (fun w' h => vs_load (FB.out w' h))
  have UA := Lib.hid (fun w' h => sm_load (FA.out w' h))
  have UB := Lib.hid (fun w' h => sm_load (FB.out w' h))
  have DA := Lib.hid (fun w' h => dt_load (FA.out w' h))
  have DB := Lib.hid (fun w' h => dt_load (FB.out w' h))
  clear FA FB
  generalize a.cells.toArray = A at C1 LA ⊢
  generalize b.cells.toArray = B at C2 LB ⊢
  generalize a.toWd.cells.toArray = wa at C1 E0 G0
  generalize b.toWd.cells.toArray = wb at C2 E0 G0
  generalize a.vt.cells.toArray = va at C3 VA
  generalize b.vt.cells.toArray = vb at C3 VB
  generalize hg : w.heap.size = g at *
  refine wp_region_held_drew (S := fun w' => Below W.heap.size W w') (by kernel_rfl) hW0.drew (fun hS => ?_)
  refine tk 0 (.agg A) rfl (yi_load 37 (.tmp 2) _ rfl rfl rfl LA.out) hS ?_
  refine tk 2 (.agg B) rfl (yi_load 37 (.tmp 3) _ rfl rfl rfl LB.out) hS ?_
  refine rdy1 1 rfl (fun K hK => ?_)
  rw [if_pos (by rfl)]
  go_simp
  refine Calls.mono (C1.out _) ?_
  rintro e w1 ⟨rfl, hb⟩
  refine hK.out _ w1 (Below.up hS hb) (fun hS => ?_)
  clear hK K
  refine rdy1 3 rfl (fun K hK => ?_)
  rw [if_pos (by rfl)]
  go_simp
  refine Calls.mono (C2.out _) ?_
  rintro e w2 ⟨rfl, hb⟩
  refine hK.out _ w2 (Below.up hS hb) (fun hS => ?_)
  clear hK K
  cases m1
  · skip
    refine tk 4 (.bool false) rfl (yi_eql rfl 82 (.tmp 6) (.tmp 8) rfl rfl rfl E0 G0) hS ?_
    refine tm 5 (.bool false) rfl hS ?_
    refine tn 6 rfl hS ?_
    refine tn 7 rfl hS ?_
    refine tn 8 rfl hS ?_
    refine tn 9 rfl hS ?_
    refine tn 10 rfl hS ?_
    refine tm 11 (.bool false) rfl hS ?_
    refine tm 12 (.bool false) rfl hS ?_
    refine tn 13 rfl hS ?_
    refine tn 14 rfl hS ?_
    refine tn 15 rfl hS ?_
    refine tn 16 rfl hS ?_
    refine tn 17 rfl hS ?_
    refine tm 18 (.bool false) rfl hS ?_
    refine tm 19 (.bool false) rfl hS ?_
    refine tn 20 rfl hS ?_
    refine tn 21 rfl hS ?_
    refine tn 22 rfl hS ?_
    refine tn 23 rfl hS ?_
    refine tn 24 rfl hS ?_
    refine tm 25 (.bool false) rfl hS ?_
    refine tm 26 (.bool false) rfl hS ?_
    refine tn 27 rfl hS ?_
    refine tn 28 rfl hS ?_
    refine tn 29 rfl hS ?_
    refine tn 30 rfl hS ?_
    refine tn 31 rfl hS ?_
    refine tm 32 (.bool false) rfl hS ?_
    refine tm 33 (.bool false) rfl hS ?_
    refine wpAnyH_done (by kernel_rfl) ?_ _
    go_wp2_with fail
    go_ret
    refine ⟨?_, by rw [hg]; exact HWB.out.trans (hS.mono (by rw [HWS.out]; omega))⟩
    rw [HR.out]; rfl
  · skip
    refine tk 4 (.bool true) rfl (yi_eql rfl 82 (.tmp 6) (.tmp 8) rfl rfl rfl E0 G0) hS ?_
    refine tm 5 (.bool true) rfl hS ?_
    refine tg 6 (.pointer (some ⟨g, 15, none⟩)) rfl hS ?_
    refine tg 8 (.pointer (some ⟨g + 1, 15, none⟩)) rfl hS ?_
    refine tk 7 (.agg va) rfl (yi_load 32 (.tmp 11) _ rfl rfl rfl VA.out) hS ?_
    refine tk 9 (.agg vb) rfl (yi_load 32 (.tmp 13) _ rfl rfl rfl VB.out) hS ?_
    refine rdy1 10 rfl (fun K hK => ?_)
    rw [if_pos (by rfl)]
    go_simp
    refine Calls.mono (C3.out _ hS) ?_
    rintro e w3 ⟨rfl, hb⟩
    refine hK.out _ w3 (Below.up hS hb) (fun hS => ?_)
    clear hK K
    cases m2
    · skip
      refine tm 11 (.bool false) rfl hS ?_
      refine tm 12 (.bool false) rfl hS ?_
      refine tn 13 rfl hS ?_
      refine tn 14 rfl hS ?_
      refine tn 15 rfl hS ?_
      refine tn 16 rfl hS ?_
      refine tn 17 rfl hS ?_
      refine tm 18 (.bool false) rfl hS ?_
      refine tm 19 (.bool false) rfl hS ?_
      refine tn 20 rfl hS ?_
      refine tn 21 rfl hS ?_
      refine tn 22 rfl hS ?_
      refine tn 23 rfl hS ?_
      refine tn 24 rfl hS ?_
      refine tm 25 (.bool false) rfl hS ?_
      refine tm 26 (.bool false) rfl hS ?_
      refine tn 27 rfl hS ?_
      refine tn 28 rfl hS ?_
      refine tn 29 rfl hS ?_
      refine tn 30 rfl hS ?_
      refine tn 31 rfl hS ?_
      refine tm 32 (.bool false) rfl hS ?_
      refine tm 33 (.bool false) rfl hS ?_
      refine wpAnyH_done (by kernel_rfl) ?_ _
      go_wp2_with fail
      go_ret
      refine ⟨?_, by rw [hg]; exact HWB.out.trans (hS.mono (by rw [HWS.out]; omega))⟩
      rw [HR.out]; rfl
    · skip
      refine tm 11 (.bool true) rfl hS ?_
      refine tm 12 (.bool true) rfl hS ?_
      refine tg 13 (.pointer (some ⟨g, 22, none⟩)) rfl hS ?_
      refine tg 15 (.pointer (some ⟨g + 1, 22, none⟩)) rfl hS ?_
      refine tk 14 (.slice a.vs.a a.vs.n a.vs.c) rfl (yi_load 33 (.tmp 18) _ rfl rfl rfl SA.out) hS ?_
      refine tk 16 (.slice b.vs.a b.vs.n b.vs.c) rfl (yi_load 33 (.tmp 20) _ rfl rfl rfl SB.out) hS ?_
      refine rdy1 17 rfl (fun K hK => ?_)
      rw [if_pos (by rfl)]
      go_simp
      refine Calls.mono (C4.out _ hS) ?_
      rintro e w4 ⟨rfl, hb⟩
      refine hK.out _ w4 (Below.up hS hb) (fun hS => ?_)
      clear hK K
      cases m3
      · skip
        refine tm 18 (.bool false) rfl hS ?_
        refine tm 19 (.bool false) rfl hS ?_
        refine tn 20 rfl hS ?_
        refine tn 21 rfl hS ?_
        refine tn 22 rfl hS ?_
        refine tn 23 rfl hS ?_
        refine tn 24 rfl hS ?_
        refine tm 25 (.bool false) rfl hS ?_
        refine tm 26 (.bool false) rfl hS ?_
        refine tn 27 rfl hS ?_
        refine tn 28 rfl hS ?_
        refine tn 29 rfl hS ?_
        refine tn 30 rfl hS ?_
        refine tn 31 rfl hS ?_
        refine tm 32 (.bool false) rfl hS ?_
        refine tm 33 (.bool false) rfl hS ?_
        refine wpAnyH_done (by kernel_rfl) ?_ _
        go_wp2_with fail
        go_ret
        refine ⟨?_, by rw [hg]; exact HWB.out.trans (hS.mono (by rw [HWS.out]; omega))⟩
        rw [HR.out]; rfl
      · skip
        refine tm 18 (.bool true) rfl hS ?_
        refine tm 19 (.bool true) rfl hS ?_
        refine tg 20 (.pointer (some ⟨g, 23, none⟩)) rfl hS ?_
        refine tg 22 (.pointer (some ⟨g + 1, 23, none⟩)) rfl hS ?_
        refine tk 21 (.slice a.sm.a a.sm.n a.sm.c) rfl (yi_load 34 (.tmp 25) _ rfl rfl rfl UA.out) hS ?_
        refine tk 23 (.slice b.sm.a b.sm.n b.sm.c) rfl (yi_load 34 (.tmp 27) _ rfl rfl rfl UB.out) hS ?_
        refine rdy1 24 rfl (fun K hK => ?_)
        rw [if_pos (by rfl)]
        go_simp
        refine Calls.mono (C5.out _ hS) ?_
        rintro e w5 ⟨rfl, hb⟩
        refine hK.out _ w5 (Below.up hS hb) (fun hS => ?_)
        clear hK K
        cases m4
        · skip
          refine tm 25 (.bool false) rfl hS ?_
          refine tm 26 (.bool false) rfl hS ?_
          refine tn 27 rfl hS ?_
          refine tn 28 rfl hS ?_
          refine tn 29 rfl hS ?_
          refine tn 30 rfl hS ?_
          refine tn 31 rfl hS ?_
          refine tm 32 (.bool false) rfl hS ?_
          refine tm 33 (.bool false) rfl hS ?_
          refine wpAnyH_done (by kernel_rfl) ?_ _
          go_wp2_with fail
          go_ret
          refine ⟨?_, by rw [hg]; exact HWB.out.trans (hS.mono (by rw [HWS.out]; omega))⟩
          rw [HR.out]; rfl
        · skip
          refine tm 25 (.bool true) rfl hS ?_
          refine tm 26 (.bool true) rfl hS ?_
          refine tg 27 (.pointer (some ⟨g, 24, none⟩)) rfl hS ?_
          refine tg 29 (.pointer (some ⟨g + 1, 24, none⟩)) rfl hS ?_
          refine tk 28 (.slice a.dt.a a.dt.n a.dt.c) rfl (yi_load 35 (.tmp 32) _ rfl rfl rfl DA.out) hS ?_
          refine tk 30 (.slice b.dt.a b.dt.n b.dt.c) rfl (yi_load 35 (.tmp 34) _ rfl rfl rfl DB.out) hS ?_
          refine rdy1 31 rfl (fun K hK => ?_)
          rw [if_pos (by rfl)]
          go_simp
          refine Calls.mono (C6.out _ hS) ?_
          rintro e w6 ⟨rfl, hb⟩
          refine hK.out _ w6 (Below.up hS hb) (fun hS => ?_)
          clear hK K
          cases m5
          · skip
            refine tm 32 (.bool false) rfl hS ?_
            refine tm 33 (.bool false) rfl hS ?_
            refine wpAnyH_done (by kernel_rfl) ?_ _
            go_wp2_with fail
            go_ret
            refine ⟨?_, by rw [hg]; exact HWB.out.trans (hS.mono (by rw [HWS.out]; omega))⟩
            rw [HR.out]; rfl
          · skip
            refine tm 32 (.bool true) rfl hS ?_
            refine tm 33 (.bool true) rfl hS ?_
            refine wpAnyH_done (by kernel_rfl) ?_ _
            go_wp2_with fail
            go_ret
            refine ⟨?_, by rw [hg]; exact HWB.out.trans (hS.mono (by rw [HWS.out]; omega))⟩
            rw [HR.out]; rfl
end Go.Proofs.YtbpfkeeikhhlnaaGreatDoor
