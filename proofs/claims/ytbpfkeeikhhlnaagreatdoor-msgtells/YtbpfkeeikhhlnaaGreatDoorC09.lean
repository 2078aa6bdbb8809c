/- The document's votes: whether two are alike. -/
import Derived.Test.YtbpfkeeikhhlnaaGreatDoorC08
import Derived.Test.YtbpfkeeikhhlnaaGreatDoorC02
namespace Go.Proofs.YtbpfkeeikhhlnaaGreatDoor
open Go.RowKit
set_option maxRecDepth 100000

theorem World.below_drewN (w : World) (n : Nat) : Below w.heap.size w (w.drewN n) := ⟨rfl, rfl, rfl, Nat.le_refl _, fun _ _ => rfl⟩

set_option maxHeartbeats 8000000 in
theorem refSameVote_any (w : World) (a b : Vt) (ca cb : Vc) (ha : VtAt w a ca) (hb : VtAt w b cb) :
    Calls Tryz.prog 55 #[.agg a.cells.toArray, .agg b.cells.toArray] w fun e w' => e = .returned (.bool (sameV a ca b cb)) ∧ Below w.heap.size w w' := by
  obtain ⟨f1, e1, v1, l1, ⟨m1, am, c1⟩, ⟨p1, ap, d1⟩, ⟨q1, aq, k1⟩⟩ := a
  obtain ⟨f2, e2, v2, l2, ⟨m2, bm, c2⟩, ⟨p2, bp, d2⟩, ⟨q2, bq, k2⟩⟩ := b
  obtain ⟨xm, xp, xq⟩ := ca
  obtain ⟨ym, yp, yq⟩ := cb
  obtain ⟨h1, h2, h3⟩ := ha
  obtain ⟨h4, h5, h6⟩ := hb
  obtain ⟨_, _, eh1, -, -, zh1, rh1⟩ := h1
  injection eh1 with eah1 ebh1 ech1
  have RAm := Lib.hid rh1
  rw [← eah1] at RAm
  have HNm := Lib.hid ebh1.symm
  rw [← ebh1] at zh1
  clear rh1 eah1 ebh1 ech1
  obtain ⟨_, _, eh2, -, -, zh2, rh2⟩ := h2
  injection eh2 with eah2 ebh2 ech2
  have RAp := Lib.hid rh2
  rw [← eah2] at RAp
  have HNp := Lib.hid ebh2.symm
  rw [← ebh2] at zh2
  clear rh2 eah2 ebh2 ech2
  obtain ⟨_, _, eh3, -, -, zh3, rh3⟩ := h3
  injection eh3 with eah3 ebh3 ech3
  have RAq := Lib.hid rh3
  rw [← eah3] at RAq
  have HNq := Lib.hid ebh3.symm
  rw [← ebh3] at zh3
  clear rh3 eah3 ebh3 ech3
  obtain ⟨_, _, eh4, -, -, zh4, rh4⟩ := h4
  injection eh4 with eah4 ebh4 ech4
  have RBm := Lib.hid rh4
  rw [← eah4] at RBm
  have HMm := Lib.hid ebh4.symm
  rw [← ebh4] at zh4
  clear rh4 eah4 ebh4 ech4
  obtain ⟨_, _, eh5, -, -, zh5, rh5⟩ := h5
  injection eh5 with eah5 ebh5 ech5
  have RBp := Lib.hid rh5
  rw [← eah5] at RBp
  have HMp := Lib.hid ebh5.symm
  rw [← ebh5] at zh5
  clear rh5 eah5 ebh5 ech5
  obtain ⟨_, _, eh6, -, -, zh6, rh6⟩ := h6
  injection eh6 with eah6 ebh6 ech6
  have RBq := Lib.hid rh6
  rw [← eah6] at RBq
  have HMq := Lib.hid ebh6.symm
  rw [← ebh6] at zh6
  clear rh6 eah6 ebh6 ech6
  obtain ⟨W, hW⟩ : ∃ W, W = (w.alloc (.cells #[.int .u8 f1, .int .u8 e1, .int .u32 v1, .int .u32 l1, .slice m1 am c1, .slice p1 ap d1, .slice q1 aq k1] 32)).alloc (.cells #[.int .u8 f2, .int .u8 e2, .int .u32 v2, .int .u32 l2, .slice m2 bm c2, .slice p2 bp d2, .slice q2 bq k2] 32) := ⟨_, rfl⟩
  have hWb := bl2 hW
  have qa0 : W.cell? ⟨w.heap.size, 0, none⟩ = some (.int .u8 f1) := by rw [hW]; simp
  have qa1 : W.cell? ⟨w.heap.size, 1, none⟩ = some (.int .u8 e1) := by rw [hW]; simp
  have qa2 : W.cell? ⟨w.heap.size, 2, none⟩ = some (.int .u32 v1) := by rw [hW]; simp
  have qa3 : W.cell? ⟨w.heap.size, 3, none⟩ = some (.int .u32 l1) := by rw [hW]; simp
  have qa4 : W.cell? ⟨w.heap.size, 4, none⟩ = some (.slice m1 am c1) := by rw [hW]; simp
  have qa5 : W.cell? ⟨w.heap.size, 5, none⟩ = some (.slice p1 ap d1) := by rw [hW]; simp
  have qa6 : W.cell? ⟨w.heap.size, 6, none⟩ = some (.slice q1 aq k1) := by rw [hW]; simp
  have qb0 : W.cell? ⟨w.heap.size + 1, 0, none⟩ = some (.int .u8 f2) := by rw [hW]; simp
  have qb1 : W.cell? ⟨w.heap.size + 1, 1, none⟩ = some (.int .u8 e2) := by rw [hW]; simp
  have qb2 : W.cell? ⟨w.heap.size + 1, 2, none⟩ = some (.int .u32 v2) := by rw [hW]; simp
  have qb3 : W.cell? ⟨w.heap.size + 1, 3, none⟩ = some (.int .u32 l2) := by rw [hW]; simp
  have qb4 : W.cell? ⟨w.heap.size + 1, 4, none⟩ = some (.slice m2 bm c2) := by rw [hW]; simp
  have qb5 : W.cell? ⟨w.heap.size + 1, 5, none⟩ = some (.slice p2 bp d2) := by rw [hW]; simp
  have qb6 : W.cell? ⟨w.heap.size + 1, 6, none⟩ = some (.slice q2 bq k2) := by rw [hW]; simp
  have SA4 := Lib.hid (fun q => (World.cell?_drewN W q _).trans qa4)
  have SB4 := Lib.hid (fun q => (World.cell?_drewN W q _).trans qb4)
  have SA5 := Lib.hid (fun q => (World.cell?_drewN W q _).trans qa5)
  have SB5 := Lib.hid (fun q => (World.cell?_drewN W q _).trans qb5)
  have SA6 := Lib.hid (fun q => (World.cell?_drewN W q _).trans qa6)
  have SB6 := Lib.hid (fun q => (World.cell?_drewN W q _).trans qb6)
  have HWB := Lib.hid hWb
  have HW := Lib.hid hW
  obtain ⟨r, hr⟩ : ∃ r, r = sameV ⟨f1, e1, v1, l1, ⟨m1, am, c1⟩, ⟨p1, ap, d1⟩, ⟨q1, aq, k1⟩⟩ ⟨xm, xp, xq⟩ ⟨f2, e2, v2, l2, ⟨m2, bm, c2⟩, ⟨p2, bp, d2⟩, ⟨q2, bq, k2⟩⟩ ⟨ym, yp, yq⟩ := ⟨_, rfl⟩
  rw [← hr]
  simp only [sameV] at hr
  have HR := Lib.hid hr
  clear hr hWb hW
  simp only [Vt.cells]
  by_cases hc0 : f1 = f2
  · subst hc0
    by_cases hc1 : e1 = e2
    · subst hc1
      by_cases hc2 : v1 = v2
      · subst hc2
        by_cases hc3 : l1 = l2
        · subst hc3
          by_cases hc4 : am = bm
          · subst hc4
            by_cases hc5 : ap = bp
            · subst hc5
              by_cases hc6 : aq = bq
              · subst hc6
                go_enter Tryz.func55, Tryz.ntmps55
                go_upto_region 1 with fail
                rw [← HW.out]
                clear HW
                go_wp2_with fail
                go_loopw [5] (fun vi wr => ∃ j q : Nat, j ≤ am ∧ vi = .int .i64 j ∧ wr = W.drewN q ∧ Hid (∀ i, i < j → xm[i]? = ym[i]?)) (fun i _ => am - (intOf i).toNat)
                case atStart => exact ⟨0, 0, by omega, rfl, rfl, Lib.hid (fun i h => by omega)⟩
                case round =>
                  obtain ⟨j, q, hj, rfl, rfl, A⟩ := hrel
                  have sa := SA4.out q
                  have sb := SB4.out q
                  by_cases hlt : j < am
                  · obtain ⟨x, hx⟩ : ∃ x, xm[j]? = some x := ⟨_, List.getElem?_eq_getElem (by rw [HNm.out]; exact hlt)⟩
                    obtain ⟨y, hy⟩ : ∃ y, ym[j]? = some y := ⟨_, List.getElem?_eq_getElem (by rw [HMm.out]; exact hlt)⟩
                    obtain ⟨b1, o1, e1, g1⟩ := RAm.out j x hx
                    obtain ⟨b2, o2, e2, g2⟩ := RBm.out j y hy
                    rw [e1] at sa
                    rw [e2] at sb
                    have HX := Lib.hid hx
                    have HY := Lib.hid hy
                    clear hx hy
                    have l10 : (W.drewN q).cell? ⟨b1, o1 + j * 2, none⟩ = some (.int .u32 x.s) := by have t : w.cell? ⟨b1, o1 + j * 2, none⟩ = some (.int .u32 x.s) := g1 0 _ rfl; rw [World.cell?_drewN, HWB.out.cell (cell_block t)]; exact t
                    have l20 : (W.drewN q).cell? ⟨b2, o2 + j * 2, none⟩ = some (.int .u32 y.s) := by have t : w.cell? ⟨b2, o2 + j * 2, none⟩ = some (.int .u32 y.s) := g2 0 _ rfl; rw [World.cell?_drewN, HWB.out.cell (cell_block t)]; exact t
                    have l11 : (W.drewN q).cell? ⟨b1, o1 + j * 2 + 1, none⟩ = some (.int .u64 x.r) := by have t : w.cell? ⟨b1, o1 + j * 2 + 1, none⟩ = some (.int .u64 x.r) := g1 1 _ rfl; rw [World.cell?_drewN, HWB.out.cell (cell_block t)]; exact t
                    have l21 : (W.drewN q).cell? ⟨b2, o2 + j * 2 + 1, none⟩ = some (.int .u64 y.r) := by have t : w.cell? ⟨b2, o2 + j * 2 + 1, none⟩ = some (.int .u64 y.r) := g2 1 _ rfl; rw [World.cell?_drewN, HWB.out.cell (cell_block t)]; exact t
                    obtain ⟨wq, hwq⟩ : ∃ wq, wq = W.drewN q := ⟨_, rfl⟩
                    have HWQ := Lib.hid hwq
                    rw [← hwq] at l10 l20 l11 l21 sa sb ⊢
                    clear g1 g2 hwq e1 e2
                    by_cases hxy : x = y
                    · have hq : ∀ w, (binOp .neq 77 (.agg x.cells.toArray) (.agg y.cells.toArray)).run Tryz.prog w = .ok (.bool false) w := fun w => by rw [neq_of_eql (eql51 x y w)]; simp [hxy]
                      have hg := fun op a b w => guard51 op a b x y w
                      simp only [Mk.cells] at hq hg
                      have HXY := Lib.hid hxy
                      clear hxy
                      go_wp2_with fail
                      go_quiet (fail)
                      go_wp2_with fail
                      go_round
                      case measure => simp [intOf]; omega
                      case rel =>
                        refine ⟨j + 1, _, by omega, by go_num, by rw [HWQ.out, World.drewN_drewN], Lib.hid (fun i hi => ?_)⟩
                        by_cases e : i = j
                        · subst e; rw [HX.out, HY.out, HXY.out]
                        · exact A.out i (by omega)
                    · have hq : ∀ w, (binOp .neq 77 (.agg x.cells.toArray) (.agg y.cells.toArray)).run Tryz.prog w = .ok (.bool true) w := fun w => by rw [neq_of_eql (eql51 x y w)]; simp [hxy]
                      have hg := fun op a b w => guard51 op a b x y w
                      simp only [Mk.cells] at hq hg
                      have hne : ¬ xm = ym := ne_at HX.out HY.out hxy
                      have HNE := Lib.hid hne
                      clear hxy hne
                      go_wp2_with fail
                      go_quiet (fail)
                      go_wp2_with fail
                      go_ret
                      refine ⟨?_, ?_⟩
                      · rw [HR.out, decide_eq_false HNE.out]; simp
                      · rw [HWQ.out, World.drewN_drewN]; exact HWB.out.trans ((World.below_drewN _ _).mono HWB.out.size)
                  · obtain rfl : j = am := by omega
                    have EQm := Lib.hid (same_up HNm.out HMm.out A.out)
                    clear A hlt hj
                    go_wp2_with fail
                    go_loopw [6] (fun vi wr => ∃ j q : Nat, j ≤ ap ∧ vi = .int .i64 j ∧ wr = W.drewN q ∧ Hid (∀ i, i < j → xp[i]? = yp[i]?)) (fun i _ => ap - (intOf i).toNat)
                    case atStart => exact ⟨0, _, by omega, rfl, rfl, Lib.hid (fun i h => by omega)⟩
                    case round =>
                      obtain ⟨j, q, hj, rfl, rfl, A⟩ := hrel
                      have sa := SA5.out q
                      have sb := SB5.out q
                      by_cases hlt : j < ap
                      · obtain ⟨x, hx⟩ : ∃ x, xp[j]? = some x := ⟨_, List.getElem?_eq_getElem (by rw [HNp.out]; exact hlt)⟩
                        obtain ⟨y, hy⟩ : ∃ y, yp[j]? = some y := ⟨_, List.getElem?_eq_getElem (by rw [HMp.out]; exact hlt)⟩
                        obtain ⟨b1, o1, e1, g1⟩ := RAp.out j x hx
                        obtain ⟨b2, o2, e2, g2⟩ := RBp.out j y hy
                        rw [e1] at sa
                        rw [e2] at sb
                        have HX := Lib.hid hx
                        have HY := Lib.hid hy
                        clear hx hy
                        have l10 : (W.drewN q).cell? ⟨b1, o1 + j * 7, none⟩ = some (.int .u32 x.s) := by have t : w.cell? ⟨b1, o1 + j * 7, none⟩ = some (.int .u32 x.s) := g1 0 _ rfl; rw [World.cell?_drewN, HWB.out.cell (cell_block t)]; exact t
                        have l20 : (W.drewN q).cell? ⟨b2, o2 + j * 7, none⟩ = some (.int .u32 y.s) := by have t : w.cell? ⟨b2, o2 + j * 7, none⟩ = some (.int .u32 y.s) := g2 0 _ rfl; rw [World.cell?_drewN, HWB.out.cell (cell_block t)]; exact t
                        have l11 : (W.drewN q).cell? ⟨b1, o1 + j * 7 + 1, none⟩ = some (.int .u32 x.v) := by have t : w.cell? ⟨b1, o1 + j * 7 + 1, none⟩ = some (.int .u32 x.v) := g1 1 _ rfl; rw [World.cell?_drewN, HWB.out.cell (cell_block t)]; exact t
                        have l21 : (W.drewN q).cell? ⟨b2, o2 + j * 7 + 1, none⟩ = some (.int .u32 y.v) := by have t : w.cell? ⟨b2, o2 + j * 7 + 1, none⟩ = some (.int .u32 y.v) := g2 1 _ rfl; rw [World.cell?_drewN, HWB.out.cell (cell_block t)]; exact t
                        have l12 : (W.drewN q).cell? ⟨b1, o1 + j * 7 + 2, none⟩ = some (.int .u8 x.rq.c) := by have t : w.cell? ⟨b1, o1 + j * 7 + 2, none⟩ = some (.int .u8 x.rq.c) := g1 2 _ rfl; rw [World.cell?_drewN, HWB.out.cell (cell_block t)]; exact t
                        have l22 : (W.drewN q).cell? ⟨b2, o2 + j * 7 + 2, none⟩ = some (.int .u8 y.rq.c) := by have t : w.cell? ⟨b2, o2 + j * 7 + 2, none⟩ = some (.int .u8 y.rq.c) := g2 2 _ rfl; rw [World.cell?_drewN, HWB.out.cell (cell_block t)]; exact t
                        have l13 : (W.drewN q).cell? ⟨b1, o1 + j * 7 + 3, none⟩ = some (.int .u32 x.rq.t) := by have t : w.cell? ⟨b1, o1 + j * 7 + 3, none⟩ = some (.int .u32 x.rq.t) := g1 3 _ rfl; rw [World.cell?_drewN, HWB.out.cell (cell_block t)]; exact t
                        have l23 : (W.drewN q).cell? ⟨b2, o2 + j * 7 + 3, none⟩ = some (.int .u32 y.rq.t) := by have t : w.cell? ⟨b2, o2 + j * 7 + 3, none⟩ = some (.int .u32 y.rq.t) := g2 3 _ rfl; rw [World.cell?_drewN, HWB.out.cell (cell_block t)]; exact t
                        have l14 : (W.drewN q).cell? ⟨b1, o1 + j * 7 + 4, none⟩ = some (.int .u8 x.rq.k) := by have t : w.cell? ⟨b1, o1 + j * 7 + 4, none⟩ = some (.int .u8 x.rq.k) := g1 4 _ rfl; rw [World.cell?_drewN, HWB.out.cell (cell_block t)]; exact t
                        have l24 : (W.drewN q).cell? ⟨b2, o2 + j * 7 + 4, none⟩ = some (.int .u8 y.rq.k) := by have t : w.cell? ⟨b2, o2 + j * 7 + 4, none⟩ = some (.int .u8 y.rq.k) := g2 4 _ rfl; rw [World.cell?_drewN, HWB.out.cell (cell_block t)]; exact t
                        have l15 : (W.drewN q).cell? ⟨b1, o1 + j * 7 + 5, none⟩ = some (.int .u8 x.rq.y) := by have t : w.cell? ⟨b1, o1 + j * 7 + 5, none⟩ = some (.int .u8 x.rq.y) := g1 5 _ rfl; rw [World.cell?_drewN, HWB.out.cell (cell_block t)]; exact t
                        have l25 : (W.drewN q).cell? ⟨b2, o2 + j * 7 + 5, none⟩ = some (.int .u8 y.rq.y) := by have t : w.cell? ⟨b2, o2 + j * 7 + 5, none⟩ = some (.int .u8 y.rq.y) := g2 5 _ rfl; rw [World.cell?_drewN, HWB.out.cell (cell_block t)]; exact t
                        have l16 : (W.drewN q).cell? ⟨b1, o1 + j * 7 + 6, none⟩ = some (.int .u16 x.rq.v) := by have t : w.cell? ⟨b1, o1 + j * 7 + 6, none⟩ = some (.int .u16 x.rq.v) := g1 6 _ rfl; rw [World.cell?_drewN, HWB.out.cell (cell_block t)]; exact t
                        have l26 : (W.drewN q).cell? ⟨b2, o2 + j * 7 + 6, none⟩ = some (.int .u16 y.rq.v) := by have t : w.cell? ⟨b2, o2 + j * 7 + 6, none⟩ = some (.int .u16 y.rq.v) := g2 6 _ rfl; rw [World.cell?_drewN, HWB.out.cell (cell_block t)]; exact t
                        obtain ⟨wq, hwq⟩ : ∃ wq, wq = W.drewN q := ⟨_, rfl⟩
                        have HWQ := Lib.hid hwq
                        rw [← hwq] at l10 l20 l11 l21 l12 l22 l13 l23 l14 l24 l15 l25 l16 l26 sa sb ⊢
                        clear g1 g2 hwq e1 e2
                        by_cases hxy : x = y
                        · have hq : ∀ w, (binOp .neq 80 (.agg x.cells.toArray) (.agg y.cells.toArray)).run Tryz.prog w = .ok (.bool false) w := fun w => by rw [neq_of_eql (eql49 x y w)]; simp [hxy]
                          have hg := fun op a b w => guard49 op a b x y w
                          simp only [En.cells] at hq hg
                          have HXY := Lib.hid hxy
                          clear hxy
                          go_wp2_with fail
                          go_quiet (fail)
                          go_wp2_with fail
                          go_round
                          case measure => simp [intOf]; omega
                          case rel =>
                            refine ⟨j + 1, _, by omega, by go_num, by rw [HWQ.out, World.drewN_drewN], Lib.hid (fun i hi => ?_)⟩
                            by_cases e : i = j
                            · subst e; rw [HX.out, HY.out, HXY.out]
                            · exact A.out i (by omega)
                        · have hq : ∀ w, (binOp .neq 80 (.agg x.cells.toArray) (.agg y.cells.toArray)).run Tryz.prog w = .ok (.bool true) w := fun w => by rw [neq_of_eql (eql49 x y w)]; simp [hxy]
                          have hg := fun op a b w => guard49 op a b x y w
                          simp only [En.cells] at hq hg
                          have hne : ¬ xp = yp := ne_at HX.out HY.out hxy
                          have HNE := Lib.hid hne
                          clear hxy hne
                          go_wp2_with fail
                          go_quiet (fail)
                          go_wp2_with fail
                          go_ret
                          refine ⟨?_, ?_⟩
                          · rw [HR.out, decide_eq_false HNE.out]; simp
                          · rw [HWQ.out, World.drewN_drewN]; exact HWB.out.trans ((World.below_drewN _ _).mono HWB.out.size)
                      · obtain rfl : j = ap := by omega
                        have EQp := Lib.hid (same_up HNp.out HMp.out A.out)
                        clear A hlt hj
                        go_wp2_with fail
                        go_loopw [7] (fun vi wr => ∃ j q : Nat, j ≤ aq ∧ vi = .int .i64 j ∧ wr = W.drewN q ∧ Hid (∀ i, i < j → xq[i]? = yq[i]?)) (fun i _ => aq - (intOf i).toNat)
                        case atStart => exact ⟨0, _, by omega, rfl, rfl, Lib.hid (fun i h => by omega)⟩
                        case round =>
                          obtain ⟨j, q, hj, rfl, rfl, A⟩ := hrel
                          have sa := SA6.out q
                          have sb := SB6.out q
                          by_cases hlt : j < aq
                          · obtain ⟨x, hx⟩ : ∃ x, xq[j]? = some x := ⟨_, List.getElem?_eq_getElem (by rw [HNq.out]; exact hlt)⟩
                            obtain ⟨y, hy⟩ : ∃ y, yq[j]? = some y := ⟨_, List.getElem?_eq_getElem (by rw [HMq.out]; exact hlt)⟩
                            obtain ⟨b1, o1, e1, g1⟩ := RAq.out j x hx
                            obtain ⟨b2, o2, e2, g2⟩ := RBq.out j y hy
                            rw [e1] at sa
                            rw [e2] at sb
                            have HX := Lib.hid hx
                            have HY := Lib.hid hy
                            clear hx hy
                            have l10 : (W.drewN q).cell? ⟨b1, o1 + j * 7, none⟩ = some (.int .u32 x.s) := by have t : w.cell? ⟨b1, o1 + j * 7, none⟩ = some (.int .u32 x.s) := g1 0 _ rfl; rw [World.cell?_drewN, HWB.out.cell (cell_block t)]; exact t
                            have l20 : (W.drewN q).cell? ⟨b2, o2 + j * 7, none⟩ = some (.int .u32 y.s) := by have t : w.cell? ⟨b2, o2 + j * 7, none⟩ = some (.int .u32 y.s) := g2 0 _ rfl; rw [World.cell?_drewN, HWB.out.cell (cell_block t)]; exact t
                            have l11 : (W.drewN q).cell? ⟨b1, o1 + j * 7 + 1, none⟩ = some (.int .u32 x.v) := by have t : w.cell? ⟨b1, o1 + j * 7 + 1, none⟩ = some (.int .u32 x.v) := g1 1 _ rfl; rw [World.cell?_drewN, HWB.out.cell (cell_block t)]; exact t
                            have l21 : (W.drewN q).cell? ⟨b2, o2 + j * 7 + 1, none⟩ = some (.int .u32 y.v) := by have t : w.cell? ⟨b2, o2 + j * 7 + 1, none⟩ = some (.int .u32 y.v) := g2 1 _ rfl; rw [World.cell?_drewN, HWB.out.cell (cell_block t)]; exact t
                            have l12 : (W.drewN q).cell? ⟨b1, o1 + j * 7 + 2, none⟩ = some (.int .u8 x.rq.c) := by have t : w.cell? ⟨b1, o1 + j * 7 + 2, none⟩ = some (.int .u8 x.rq.c) := g1 2 _ rfl; rw [World.cell?_drewN, HWB.out.cell (cell_block t)]; exact t
                            have l22 : (W.drewN q).cell? ⟨b2, o2 + j * 7 + 2, none⟩ = some (.int .u8 y.rq.c) := by have t : w.cell? ⟨b2, o2 + j * 7 + 2, none⟩ = some (.int .u8 y.rq.c) := g2 2 _ rfl; rw [World.cell?_drewN, HWB.out.cell (cell_block t)]; exact t
                            have l13 : (W.drewN q).cell? ⟨b1, o1 + j * 7 + 3, none⟩ = some (.int .u32 x.rq.t) := by have t : w.cell? ⟨b1, o1 + j * 7 + 3, none⟩ = some (.int .u32 x.rq.t) := g1 3 _ rfl; rw [World.cell?_drewN, HWB.out.cell (cell_block t)]; exact t
                            have l23 : (W.drewN q).cell? ⟨b2, o2 + j * 7 + 3, none⟩ = some (.int .u32 y.rq.t) := by have t : w.cell? ⟨b2, o2 + j * 7 + 3, none⟩ = some (.int .u32 y.rq.t) := g2 3 _ rfl; rw [World.cell?_drewN, HWB.out.cell (cell_block t)]; exact t
                            have l14 : (W.drewN q).cell? ⟨b1, o1 + j * 7 + 4, none⟩ = some (.int .u8 x.rq.k) := by have t : w.cell? ⟨b1, o1 + j * 7 + 4, none⟩ = some (.int .u8 x.rq.k) := g1 4 _ rfl; rw [World.cell?_drewN, HWB.out.cell (cell_block t)]; exact t
                            have l24 : (W.drewN q).cell? ⟨b2, o2 + j * 7 + 4, none⟩ = some (.int .u8 y.rq.k) := by have t : w.cell? ⟨b2, o2 + j * 7 + 4, none⟩ = some (.int .u8 y.rq.k) := g2 4 _ rfl; rw [World.cell?_drewN, HWB.out.cell (cell_block t)]; exact t
                            have l15 : (W.drewN q).cell? ⟨b1, o1 + j * 7 + 5, none⟩ = some (.int .u8 x.rq.y) := by have t : w.cell? ⟨b1, o1 + j * 7 + 5, none⟩ = some (.int .u8 x.rq.y) := g1 5 _ rfl; rw [World.cell?_drewN, HWB.out.cell (cell_block t)]; exact t
                            have l25 : (W.drewN q).cell? ⟨b2, o2 + j * 7 + 5, none⟩ = some (.int .u8 y.rq.y) := by have t : w.cell? ⟨b2, o2 + j * 7 + 5, none⟩ = some (.int .u8 y.rq.y) := g2 5 _ rfl; rw [World.cell?_drewN, HWB.out.cell (cell_block t)]; exact t
                            have l16 : (W.drewN q).cell? ⟨b1, o1 + j * 7 + 6, none⟩ = some (.int .u16 x.rq.v) := by have t : w.cell? ⟨b1, o1 + j * 7 + 6, none⟩ = some (.int .u16 x.rq.v) := g1 6 _ rfl; rw [World.cell?_drewN, HWB.out.cell (cell_block t)]; exact t
                            have l26 : (W.drewN q).cell? ⟨b2, o2 + j * 7 + 6, none⟩ = some (.int .u16 y.rq.v) := by have t : w.cell? ⟨b2, o2 + j * 7 + 6, none⟩ = some (.int .u16 y.rq.v) := g2 6 _ rfl; rw [World.cell?_drewN, HWB.out.cell (cell_block t)]; exact t
                            obtain ⟨wq, hwq⟩ : ∃ wq, wq = W.drewN q := ⟨_, rfl⟩
                            have HWQ := Lib.hid hwq
                            rw [← hwq] at l10 l20 l11 l21 l12 l22 l13 l23 l14 l24 l15 l25 l16 l26 sa sb ⊢
                            clear g1 g2 hwq e1 e2
                            by_cases hxy : x = y
                            · have hq : ∀ w, (binOp .neq 80 (.agg x.cells.toArray) (.agg y.cells.toArray)).run Tryz.prog w = .ok (.bool false) w := fun w => by rw [neq_of_eql (eql49 x y w)]; simp [hxy]
                              have hg := fun op a b w => guard49 op a b x y w
                              simp only [En.cells] at hq hg
                              have HXY := Lib.hid hxy
                              clear hxy
                              go_wp2_with fail
                              go_quiet (fail)
                              go_wp2_with fail
                              go_round
                              case measure => simp [intOf]; omega
                              case rel =>
                                refine ⟨j + 1, _, by omega, by go_num, by rw [HWQ.out, World.drewN_drewN], Lib.hid (fun i hi => ?_)⟩
                                by_cases e : i = j
                                · subst e; rw [HX.out, HY.out, HXY.out]
                                · exact A.out i (by omega)
                            · have hq : ∀ w, (binOp .neq 80 (.agg x.cells.toArray) (.agg y.cells.toArray)).run Tryz.prog w = .ok (.bool true) w := fun w => by rw [neq_of_eql (eql49 x y w)]; simp [hxy]
                              have hg := fun op a b w => guard49 op a b x y w
                              simp only [En.cells] at hq hg
                              have hne : ¬ xq = yq := ne_at HX.out HY.out hxy
                              have HNE := Lib.hid hne
                              clear hxy hne
                              go_wp2_with fail
                              go_quiet (fail)
                              go_wp2_with fail
                              go_ret
                              refine ⟨?_, ?_⟩
                              · rw [HR.out, decide_eq_false HNE.out]; simp
                              · rw [HWQ.out, World.drewN_drewN]; exact HWB.out.trans ((World.below_drewN _ _).mono HWB.out.size)
                          · obtain rfl : j = aq := by omega
                            have EQq := Lib.hid (same_up HNq.out HMq.out A.out)
                            clear A hlt hj
                            go_wp2_with fail
                            go_ret
                            refine ⟨?_, HWB.out.trans ((World.below_drewN _ _).mono HWB.out.size)⟩
                            rw [HR.out, EQm.out, EQp.out, EQq.out]
                            simp
              · skip
                have HC := Lib.hid hc6
                have hci : ¬ (aq : Int) = (bq : Int) := by omega
                clear hc6
                go_enter Tryz.func55, Tryz.ntmps55
                go_upto_region 1 with fail
                rw [← HW.out]
                clear HW
                go_wp2_with fail
                go_ret
                refine ⟨?_, HWB.out⟩
                rw [HR.out, decide_eq_false (fun e => HC.out (by rw [← HNq.out, ← HMq.out, e]) : ¬ xq = yq)]; simp
            · skip
              have HC := Lib.hid hc5
              have hci : ¬ (ap : Int) = (bp : Int) := by omega
              clear hc5
              go_enter Tryz.func55, Tryz.ntmps55
              go_upto_region 1 with fail
              rw [← HW.out]
              clear HW
              go_wp2_with fail
              go_ret
              refine ⟨?_, HWB.out⟩
              rw [HR.out, decide_eq_false (fun e => HC.out (by rw [← HNp.out, ← HMp.out, e]) : ¬ xp = yp)]; simp
          · skip
            have HC := Lib.hid hc4
            have hci : ¬ (am : Int) = (bm : Int) := by omega
            clear hc4
            go_enter Tryz.func55, Tryz.ntmps55
            go_upto_region 1 with fail
            rw [← HW.out]
            clear HW
            go_wp2_with fail
            go_ret
            refine ⟨?_, HWB.out⟩
            rw [HR.out, decide_eq_false (fun e => HC.out (by rw [← HNm.out, ← HMm.out, e]) : ¬ xm = ym)]; simp
        · skip
          have HC := Lib.hid hc3
          skip
          go_enter Tryz.func55, Tryz.ntmps55
          go_upto_region 1 with fail
          rw [← HW.out]
          clear HW
          go_wp2_with fail
          go_ret
          refine ⟨?_, HWB.out⟩
          rw [HR.out, decide_eq_false HC.out]; simp
      · skip
        have HC := Lib.hid hc2
        skip
        go_enter Tryz.func55, Tryz.ntmps55
        go_upto_region 1 with fail
        rw [← HW.out]
        clear HW
        go_wp2_with fail
        go_ret
        refine ⟨?_, HWB.out⟩
        rw [HR.out, decide_eq_false HC.out]; simp
    · skip
      have HC := Lib.hid hc1
      skip
      go_enter Tryz.func55, Tryz.ntmps55
      go_upto_region 1 with fail
      rw [← HW.out]
      clear HW
      go_wp2_with fail
      go_ret
      refine ⟨?_, HWB.out⟩
      rw [HR.out, decide_eq_false HC.out]; simp
  · skip
    have HC := Lib.hid hc0
    skip
    go_enter Tryz.func55, Tryz.ntmps55
    go_upto_region 1 with fail
    rw [← HW.out]
    clear HW
    go_wp2_with fail
    go_ret
    refine ⟨?_, HWB.out⟩
    rw [HR.out, decide_eq_false HC.out]; simp
end Go.Proofs.YtbpfkeeikhhlnaaGreatDoor
