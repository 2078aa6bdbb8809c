/- The document's Same: lists alike or not. -/
import Derived.Test.YtbpfkeeikhhlnaaGreatDoorC14
import Derived.Test.YtbpfkeeikhhlnaaGreatDoorC15
namespace Go.Proofs.YtbpfkeeikhhlnaaGreatDoor
open Go.RowKit
set_option maxRecDepth 100000

theorem sameVs_no {xs ys : List (Vt × Vc)} {i : Nat} {x y : Vt × Vc} (hx : xs[i]? = some x) (hy : ys[i]? = some y) (h : sameV x.1 x.2 y.1 y.2 = false) : sameVs xs ys = false := by
  unfold sameVs
  rw [Bool.and_eq_false_iff]
  refine .inr ?_
  rw [← Bool.not_eq_true]
  intro hq
  rw [List.all_eq_true] at hq
  have hz : (xs.zip ys)[i]? = some (x, y) := by rw [List.getElem?_zip_eq_some]; exact ⟨hx, hy⟩
  have := hq _ (List.mem_of_getElem? hz)
  rw [h] at this
  cases this

theorem sameVs_all {xs ys : List (Vt × Vc)} (hl : xs.length = ys.length) (h : ∀ (j : Nat) (x y : Vt × Vc), xs[j]? = some x → ys[j]? = some y → sameV x.1 x.2 y.1 y.2 = true) : sameVs xs ys = true := by
  unfold sameVs
  rw [decide_eq_true hl, Bool.true_and, List.all_eq_true]
  intro p hp
  obtain ⟨j, hj⟩ := List.mem_iff_getElem?.1 hp
  obtain ⟨h1, h2⟩ := List.getElem?_zip_eq_some.1 hj
  exact h j p.1 p.2 h1 h2

set_option maxHeartbeats 8000000 in
theorem refSame_go (w : World) (a b : Mg) (ca cb : Mc) (ha : MgAt w a ca) (hb : MgAt w b cb) (e0 : a.k = b.k) (e1 : a.f = b.f) (e2 : a.t = b.t) (e3 : a.e = b.e) (e4 : a.vw = b.vw) (e5 : a.sq = b.sq) (e6 : a.rq = b.rq) (e7 : a.ro = b.ro) (e8 : a.ct = b.ct) (e9 : a.pg = b.pg) (e10 : a.rs = b.rs) (hs : sameV a.vt ca.vt b.vt cb.vt = true) (h1 : (a.vs.n : Int) = b.vs.n) (h2 : (a.sm.n : Int) = b.sm.n) (hd : ca.dt = cb.dt) :
    Calls Tryz.prog 17 #[.agg a.cells.toArray, .agg b.cells.toArray] w fun e w' => e = .returned (.bool (sameVs ca.vs cb.vs && decide (ca.sm = cb.sm))) ∧ Below w.heap.size w w' := by
  have d0 : (a.k != b.k) = false := by simp [e0]
  have d1 : (a.f != b.f) = false := by simp [e1]
  have d2 : (a.t != b.t) = false := by simp [e2]
  have d3 : (a.e != b.e) = false := by simp [e3]
  have d4 : (a.vw != b.vw) = false := by simp [e4]
  have d5 : (a.sq != b.sq) = false := by simp [e5]
  have q27 : ∀ w, _ := fun w => neq27 a.rq b.rq w
  rw [decide_eq_true e6] at q27
  simp only [Rq.cells] at q27
  have d7 : (a.ro != b.ro) = false := by simp [e7]
  have d8 : (a.ct != b.ct) = false := by simp [e8]
  have d9 : (a.pg != b.pg) = false := by simp [e9]
  have d10 : (a.rs != b.rs) = false := by simp [e10]
  clear e0 e1 e2 e3 e4 e5 e6 e7 e8 e9 e10
  obtain ⟨W, hW⟩ : ∃ W, W = (w.alloc (.cells a.cells.toArray 37)).alloc (.cells b.cells.toArray 37) := ⟨_, rfl⟩
  have hWs : W.heap.size = w.heap.size + 2 := by rw [hW]; simp
  have hWb := bl2 hW
  have FA := Lib.hid (fa2 hW)
  have FB := Lib.hid (fb2 hW)
  have HWB := Lib.hid hWb
  have hW0 := Below.refl W.heap.size W
  have a0 : W.cell? ⟨w.heap.size, 0, none⟩ = some (.int .u8 a.k) := by rw [cell_box (FA.out W hW0)]; rfl
  have b0 : W.cell? ⟨w.heap.size + 1, 0, none⟩ = some (.int .u8 b.k) := by rw [cell_box (FB.out W hW0)]; rfl
  have a1 : W.cell? ⟨w.heap.size, 1, none⟩ = some (.int .u8 a.f) := by rw [cell_box (FA.out W hW0)]; rfl
  have b1 : W.cell? ⟨w.heap.size + 1, 1, none⟩ = some (.int .u8 b.f) := by rw [cell_box (FB.out W hW0)]; rfl
  have a2 : W.cell? ⟨w.heap.size, 2, none⟩ = some (.int .u8 a.t) := by rw [cell_box (FA.out W hW0)]; rfl
  have b2 : W.cell? ⟨w.heap.size + 1, 2, none⟩ = some (.int .u8 b.t) := by rw [cell_box (FB.out W hW0)]; rfl
  have a3 : W.cell? ⟨w.heap.size, 3, none⟩ = some (.int .u8 a.e) := by rw [cell_box (FA.out W hW0)]; rfl
  have b3 : W.cell? ⟨w.heap.size + 1, 3, none⟩ = some (.int .u8 b.e) := by rw [cell_box (FB.out W hW0)]; rfl
  have a4 : W.cell? ⟨w.heap.size, 4, none⟩ = some (.int .u32 a.vw) := by rw [cell_box (FA.out W hW0)]; rfl
  have b4 : W.cell? ⟨w.heap.size + 1, 4, none⟩ = some (.int .u32 b.vw) := by rw [cell_box (FB.out W hW0)]; rfl
  have a5 : W.cell? ⟨w.heap.size, 5, none⟩ = some (.int .u32 a.sq) := by rw [cell_box (FA.out W hW0)]; rfl
  have b5 : W.cell? ⟨w.heap.size + 1, 5, none⟩ = some (.int .u32 b.sq) := by rw [cell_box (FB.out W hW0)]; rfl
  have a6 : W.cell? ⟨w.heap.size, 6, none⟩ = some (.int .u8 a.rq.c) := by rw [cell_box (FA.out W hW0)]; rfl
  have b6 : W.cell? ⟨w.heap.size + 1, 6, none⟩ = some (.int .u8 b.rq.c) := by rw [cell_box (FB.out W hW0)]; rfl
  have a7 : W.cell? ⟨w.heap.size, 7, none⟩ = some (.int .u32 a.rq.t) := by rw [cell_box (FA.out W hW0)]; rfl
  have b7 : W.cell? ⟨w.heap.size + 1, 7, none⟩ = some (.int .u32 b.rq.t) := by rw [cell_box (FB.out W hW0)]; rfl
  have a8 : W.cell? ⟨w.heap.size, 8, none⟩ = some (.int .u8 a.rq.k) := by rw [cell_box (FA.out W hW0)]; rfl
  have b8 : W.cell? ⟨w.heap.size + 1, 8, none⟩ = some (.int .u8 b.rq.k) := by rw [cell_box (FB.out W hW0)]; rfl
  have a9 : W.cell? ⟨w.heap.size, 9, none⟩ = some (.int .u8 a.rq.y) := by rw [cell_box (FA.out W hW0)]; rfl
  have b9 : W.cell? ⟨w.heap.size + 1, 9, none⟩ = some (.int .u8 b.rq.y) := by rw [cell_box (FB.out W hW0)]; rfl
  have a10 : W.cell? ⟨w.heap.size, 10, none⟩ = some (.int .u16 a.rq.v) := by rw [cell_box (FA.out W hW0)]; rfl
  have b10 : W.cell? ⟨w.heap.size + 1, 10, none⟩ = some (.int .u16 b.rq.v) := by rw [cell_box (FB.out W hW0)]; rfl
  have a11 : W.cell? ⟨w.heap.size, 11, none⟩ = some (.int .u64 a.ro) := by rw [cell_box (FA.out W hW0)]; rfl
  have b11 : W.cell? ⟨w.heap.size + 1, 11, none⟩ = some (.int .u64 b.ro) := by rw [cell_box (FB.out W hW0)]; rfl
  have a12 : W.cell? ⟨w.heap.size, 12, none⟩ = some (.int .u8 a.ct) := by rw [cell_box (FA.out W hW0)]; rfl
  have b12 : W.cell? ⟨w.heap.size + 1, 12, none⟩ = some (.int .u8 b.ct) := by rw [cell_box (FB.out W hW0)]; rfl
  have a13 : W.cell? ⟨w.heap.size, 13, none⟩ = some (.int .u8 a.pg) := by rw [cell_box (FA.out W hW0)]; rfl
  have b13 : W.cell? ⟨w.heap.size + 1, 13, none⟩ = some (.int .u8 b.pg) := by rw [cell_box (FB.out W hW0)]; rfl
  have a14 : W.cell? ⟨w.heap.size, 14, none⟩ = some (.int .u32 a.rs) := by rw [cell_box (FA.out W hW0)]; rfl
  have b14 : W.cell? ⟨w.heap.size + 1, 14, none⟩ = some (.int .u32 b.rs) := by rw [cell_box (FB.out W hW0)]; rfl
  have a15 : W.cell? ⟨w.heap.size, 15, none⟩ = some (.int .u8 a.vt.f) := by rw [cell_box (FA.out W hW0)]; rfl
  have b15 : W.cell? ⟨w.heap.size + 1, 15, none⟩ = some (.int .u8 b.vt.f) := by rw [cell_box (FB.out W hW0)]; rfl
  have a16 : W.cell? ⟨w.heap.size, 16, none⟩ = some (.int .u8 a.vt.e) := by rw [cell_box (FA.out W hW0)]; rfl
  have b16 : W.cell? ⟨w.heap.size + 1, 16, none⟩ = some (.int .u8 b.vt.e) := by rw [cell_box (FB.out W hW0)]; rfl
  have a17 : W.cell? ⟨w.heap.size, 17, none⟩ = some (.int .u32 a.vt.vw) := by rw [cell_box (FA.out W hW0)]; rfl
  have b17 : W.cell? ⟨w.heap.size + 1, 17, none⟩ = some (.int .u32 b.vt.vw) := by rw [cell_box (FB.out W hW0)]; rfl
  have a18 : W.cell? ⟨w.heap.size, 18, none⟩ = some (.int .u32 a.vt.lo) := by rw [cell_box (FA.out W hW0)]; rfl
  have b18 : W.cell? ⟨w.heap.size + 1, 18, none⟩ = some (.int .u32 b.vt.lo) := by rw [cell_box (FB.out W hW0)]; rfl
  have a19 : W.cell? ⟨w.heap.size, 19, none⟩ = some (.slice a.vt.ms.a a.vt.ms.n a.vt.ms.c) := by rw [cell_box (FA.out W hW0)]; rfl
  have b19 : W.cell? ⟨w.heap.size + 1, 19, none⟩ = some (.slice b.vt.ms.a b.vt.ms.n b.vt.ms.c) := by rw [cell_box (FB.out W hW0)]; rfl
  have a20 : W.cell? ⟨w.heap.size, 20, none⟩ = some (.slice a.vt.p.a a.vt.p.n a.vt.p.c) := by rw [cell_box (FA.out W hW0)]; rfl
  have b20 : W.cell? ⟨w.heap.size + 1, 20, none⟩ = some (.slice b.vt.p.a b.vt.p.n b.vt.p.c) := by rw [cell_box (FB.out W hW0)]; rfl
  have a21 : W.cell? ⟨w.heap.size, 21, none⟩ = some (.slice a.vt.q.a a.vt.q.n a.vt.q.c) := by rw [cell_box (FA.out W hW0)]; rfl
  have b21 : W.cell? ⟨w.heap.size + 1, 21, none⟩ = some (.slice b.vt.q.a b.vt.q.n b.vt.q.c) := by rw [cell_box (FB.out W hW0)]; rfl
  have HA := Lib.hid (ha.below hWb)
  have HB := Lib.hid (hb.below hWb)
  have hWc := hW
  simp only [Mg.cells] at hWc ⊢
  have HW := Lib.hid hWc
  have HG := fun op x y w => guard27 op x y a.rq b.rq w
  simp only [Rq.cells] at HG
  clear ha hb hWb hWs hW hWc hW0
  go_enter Tryz.func17, Tryz.ntmps17
  go_upto_region 1 with fail
  rw [← HW.out]
  clear HW
  try rw [mgA a]
  generalize a.cells.toArray = xa
  try rw [mgA b]
  generalize b.cells.toArray = xb
  go_wp2_with fail
  have V := refSameVote_any W a.vt b.vt ca.vt cb.vt HA.out.vt HB.out.vt
  simp only [Vt.cells] at V
  refine V.mono ?_
  clear V
  rintro e w1 ⟨rfl, kb⟩
  have B1 := Lib.hid kb
  rw [hs]
  have a22 : w1.cell? ⟨w.heap.size, 22, none⟩ = some (.slice a.vs.a a.vs.n a.vs.c) := by rw [cell_box (FA.out w1 kb)]; rfl
  have b22 : w1.cell? ⟨w.heap.size + 1, 22, none⟩ = some (.slice b.vs.a b.vs.n b.vs.c) := by rw [cell_box (FB.out w1 kb)]; rfl
  have a23 : w1.cell? ⟨w.heap.size, 23, none⟩ = some (.slice a.sm.a a.sm.n a.sm.c) := by rw [cell_box (FA.out w1 kb)]; rfl
  have b23 : w1.cell? ⟨w.heap.size + 1, 23, none⟩ = some (.slice b.sm.a b.sm.n b.sm.c) := by rw [cell_box (FB.out w1 kb)]; rfl
  have a24 : w1.cell? ⟨w.heap.size, 24, none⟩ = some (.slice a.dt.a a.dt.n a.dt.c) := by rw [cell_box (FA.out w1 kb)]; rfl
  have b24 : w1.cell? ⟨w.heap.size + 1, 24, none⟩ = some (.slice b.dt.a b.dt.n b.dt.c) := by rw [cell_box (FB.out w1 kb)]; rfl
  clear a0 b0 a1 b1 a2 b2 a3 b3 a4 b4 a5 b5 a6 b6 a7 b7 a8 b8 a9 b9 a10 b10 a11 b11 a12 b12 a13 b13 a14 b14 a15 b15 a16 b16 a17 b17 a18 b18 a19 b19 a20 b20 a21 b21
  have n1 : ((a.vs.n : Int) != (b.vs.n : Int)) = false := by simp [h1]
  have n2 : ((a.sm.n : Int) != (b.sm.n : Int)) = false := by simp [h2]
  have na : a.dt.n = ca.dt.length := HA.out.dt.1
  have nb : b.dt.n = cb.dt.length := HB.out.dt.1
  have sa : (convert 35 9 (.slice a.dt.a a.dt.n a.dt.c)).run Tryz.prog w1 = .ok (.string (strOfNums ca.dt)) w1 := by
    rw [na]
    exact str_bytes (bytes_below HA.out.dt.2.1 kb (Nat.le_refl _)) (fun h => List.eq_nil_of_length_eq_zero (by have := HA.out.dt.2.2.1 h; have := HA.out.dt.2.2.2.1; omega))
  have sb : (convert 35 9 (.slice b.dt.a b.dt.n b.dt.c)).run Tryz.prog w1 = .ok (.string (strOfNums cb.dt)) w1 := by
    rw [nb]
    exact str_bytes (bytes_below HB.out.dt.2.1 kb (Nat.le_refl _)) (fun h => List.eq_nil_of_length_eq_zero (by have := HB.out.dt.2.2.1 h; have := HB.out.dt.2.2.2.1; omega))
  have se := str_beq HA.out.dt.2.2.2.2.2 HB.out.dt.2.2.2.2.2
  rw [decide_eq_true hd] at se
  generalize strOfNums ca.dt = ta at *
  generalize strOfNums cb.dt = tb at *
  clear na nb hd
  have XA := Lib.hid (fun w' (k : Below w1.heap.size w1 w') => FA.out w' (kb.trans (k.mono kb.size)))
  have XB := Lib.hid (fun w' (k : Below w1.heap.size w1 w') => FB.out w' (kb.trans (k.mono kb.size)))
  have A1 := Lib.hid (HA.out.below kb)
  have C1 := Lib.hid (HB.out.below kb)
  have KB := Lib.hid (HWB.out.trans (kb.mono HWB.out.size))
  have h1' : a.vs.n = b.vs.n := by omega
  have h2' : a.sm.n = b.sm.n := by omega
  have L1 := Lib.hid h1'
  have L2 := Lib.hid h2'
  have la : a.vs.n = ca.vs.length := by obtain ⟨ao, cp, e, _⟩ := A1.out.vs.1; injection e
  have lb : b.vs.n = cb.vs.length := by obtain ⟨ao, cp, e, _⟩ := C1.out.vs.1; injection e
  have LA := Lib.hid la
  have LB := Lib.hid lb
  obtain ⟨ns, hns⟩ : ∃ n, a.sm.n = n := ⟨_, rfl⟩
  have NS := Lib.hid hns
  have sl : a.sm.n = ca.sm.length := by obtain ⟨ao, cp, e, _⟩ := A1.out.sm; injection e
  have sm : b.sm.n = cb.sm.length := by obtain ⟨ao, cp, e, _⟩ := C1.out.sm; injection e
  have SL := Lib.hid sl
  have SM := Lib.hid sm
  have bs : ns ≤ 1000000 := by obtain ⟨ao, cp, e, _, _, h3, _⟩ := A1.out.sm; rw [← hns, sl]; exact h3
  have bv : a.vs.n ≤ 1000000 := by obtain ⟨ao, cp, e, _, _, h3, _⟩ := A1.out.vs.1; rw [la]; exact h3
  clear hns sl sm
  obtain ⟨nv, hnv⟩ : ∃ n, a.vs.n = n := ⟨_, rfl⟩
  have NV := Lib.hid hnv
  rw [hnv] at bv
  clear la lb h1 h2 h1' h2' kb hnv
  go_wp2_with fail
  clear sa sb se
  go_loopw [5] (fun vi wr => ∃ i : Nat, i ≤ nv ∧ vi = .int .i64 i ∧ Hid (Below w1.heap.size w1 wr) ∧ Hid (∀ j x y, j < i → ca.vs[j]? = some x → cb.vs[j]? = some y → sameV x.1 x.2 y.1 y.2 = true)) (fun i _ => nv - (intOf i).toNat)
  case atStart => exact ⟨0, by omega, rfl, Lib.hid (Below.refl _ _), Lib.hid (fun j x y h => absurd h (Nat.not_lt_zero _))⟩
  case round =>
    obtain ⟨i, hi, rfl, HK, HE⟩ := hrel
    have a22 : wr.cell? ⟨w.heap.size, 22, none⟩ = some (.slice a.vs.a nv a.vs.c) := by rw [cell_box (XA.out wr HK.out), ← NV.out]; rfl
    have b22 : wr.cell? ⟨w.heap.size + 1, 22, none⟩ = some (.slice b.vs.a nv b.vs.c) := by rw [cell_box (XB.out wr HK.out), ← NV.out, L1.out]; rfl
    by_cases hlt : i < nv
    · obtain ⟨x, hx⟩ : ∃ x, ca.vs[i]? = some x := ⟨_, List.getElem?_eq_getElem (by rw [← LA.out, NV.out]; exact hlt)⟩
      obtain ⟨y, hy⟩ : ∃ y, cb.vs[i]? = some y := ⟨_, List.getElem?_eq_getElem (by rw [← LB.out, ← L1.out, NV.out]; exact hlt)⟩
      obtain ⟨bx, ox, ex, gx⟩ : ∃ bb off, a.vs.a = some ⟨bb, off, none⟩ ∧ ∀ k u, (vcell x)[k]? = some u → w1.cell? ⟨bb, off + i * 7 + k, none⟩ = some u := by
        obtain ⟨ao, cp, e, _, _, _, h⟩ := A1.out.vs.1
        injection e with e1 _ _
        obtain ⟨bb, off, e2, h2⟩ := h i x hx
        exact ⟨bb, off, e1.trans e2, h2⟩
      have Qx := Lib.hid (fun w' (k : Below w1.heap.size w1 w') => (show w'.cell? ⟨bx, ox + i * 7, none⟩ = some (.int .u8 x.1.f) ∧ w'.cell? ⟨bx, ox + i * 7 + 1, none⟩ = some (.int .u8 x.1.e) ∧ w'.cell? ⟨bx, ox + i * 7 + 2, none⟩ = some (.int .u32 x.1.vw) ∧ w'.cell? ⟨bx, ox + i * 7 + 3, none⟩ = some (.int .u32 x.1.lo) ∧ w'.cell? ⟨bx, ox + i * 7 + 4, none⟩ = some (.slice x.1.ms.a x.1.ms.n x.1.ms.c) ∧ w'.cell? ⟨bx, ox + i * 7 + 5, none⟩ = some (.slice x.1.p.a x.1.p.n x.1.p.c) ∧ w'.cell? ⟨bx, ox + i * 7 + 6, none⟩ = some (.slice x.1.q.a x.1.q.n x.1.q.c) from ⟨by have t : w1.cell? ⟨bx, ox + i * 7 + 0, none⟩ = some (.int .u8 x.1.f) := gx 0 _ rfl; rw [← t]; exact World.cell?_of_block (k.block _ (cell_block t)), by have t : w1.cell? ⟨bx, ox + i * 7 + 1, none⟩ = some (.int .u8 x.1.e) := gx 1 _ rfl; rw [← t]; exact World.cell?_of_block (k.block _ (cell_block t)), by have t : w1.cell? ⟨bx, ox + i * 7 + 2, none⟩ = some (.int .u32 x.1.vw) := gx 2 _ rfl; rw [← t]; exact World.cell?_of_block (k.block _ (cell_block t)), by have t : w1.cell? ⟨bx, ox + i * 7 + 3, none⟩ = some (.int .u32 x.1.lo) := gx 3 _ rfl; rw [← t]; exact World.cell?_of_block (k.block _ (cell_block t)), by have t : w1.cell? ⟨bx, ox + i * 7 + 4, none⟩ = some (.slice x.1.ms.a x.1.ms.n x.1.ms.c) := gx 4 _ rfl; rw [← t]; exact World.cell?_of_block (k.block _ (cell_block t)), by have t : w1.cell? ⟨bx, ox + i * 7 + 5, none⟩ = some (.slice x.1.p.a x.1.p.n x.1.p.c) := gx 5 _ rfl; rw [← t]; exact World.cell?_of_block (k.block _ (cell_block t)), by have t : w1.cell? ⟨bx, ox + i * 7 + 6, none⟩ = some (.slice x.1.q.a x.1.q.n x.1.q.c) := gx 6 _ rfl; rw [← t]; exact World.cell?_of_block (k.block _ (cell_block t))⟩))
      obtain ⟨by0, oy, ey, gy⟩ : ∃ bb off, b.vs.a = some ⟨bb, off, none⟩ ∧ ∀ k u, (vcell y)[k]? = some u → w1.cell? ⟨bb, off + i * 7 + k, none⟩ = some u := by
        obtain ⟨ao, cp, e, _, _, _, h⟩ := C1.out.vs.1
        injection e with e1 _ _
        obtain ⟨bb, off, e2, h2⟩ := h i y hy
        exact ⟨bb, off, e1.trans e2, h2⟩
      have Qy := Lib.hid (fun w' (k : Below w1.heap.size w1 w') => (show w'.cell? ⟨by0, oy + i * 7, none⟩ = some (.int .u8 y.1.f) ∧ w'.cell? ⟨by0, oy + i * 7 + 1, none⟩ = some (.int .u8 y.1.e) ∧ w'.cell? ⟨by0, oy + i * 7 + 2, none⟩ = some (.int .u32 y.1.vw) ∧ w'.cell? ⟨by0, oy + i * 7 + 3, none⟩ = some (.int .u32 y.1.lo) ∧ w'.cell? ⟨by0, oy + i * 7 + 4, none⟩ = some (.slice y.1.ms.a y.1.ms.n y.1.ms.c) ∧ w'.cell? ⟨by0, oy + i * 7 + 5, none⟩ = some (.slice y.1.p.a y.1.p.n y.1.p.c) ∧ w'.cell? ⟨by0, oy + i * 7 + 6, none⟩ = some (.slice y.1.q.a y.1.q.n y.1.q.c) from ⟨by have t : w1.cell? ⟨by0, oy + i * 7 + 0, none⟩ = some (.int .u8 y.1.f) := gy 0 _ rfl; rw [← t]; exact World.cell?_of_block (k.block _ (cell_block t)), by have t : w1.cell? ⟨by0, oy + i * 7 + 1, none⟩ = some (.int .u8 y.1.e) := gy 1 _ rfl; rw [← t]; exact World.cell?_of_block (k.block _ (cell_block t)), by have t : w1.cell? ⟨by0, oy + i * 7 + 2, none⟩ = some (.int .u32 y.1.vw) := gy 2 _ rfl; rw [← t]; exact World.cell?_of_block (k.block _ (cell_block t)), by have t : w1.cell? ⟨by0, oy + i * 7 + 3, none⟩ = some (.int .u32 y.1.lo) := gy 3 _ rfl; rw [← t]; exact World.cell?_of_block (k.block _ (cell_block t)), by have t : w1.cell? ⟨by0, oy + i * 7 + 4, none⟩ = some (.slice y.1.ms.a y.1.ms.n y.1.ms.c) := gy 4 _ rfl; rw [← t]; exact World.cell?_of_block (k.block _ (cell_block t)), by have t : w1.cell? ⟨by0, oy + i * 7 + 5, none⟩ = some (.slice y.1.p.a y.1.p.n y.1.p.c) := gy 5 _ rfl; rw [← t]; exact World.cell?_of_block (k.block _ (cell_block t)), by have t : w1.cell? ⟨by0, oy + i * 7 + 6, none⟩ = some (.slice y.1.q.a y.1.q.n y.1.q.c) := gy 6 _ rfl; rw [← t]; exact World.cell?_of_block (k.block _ (cell_block t))⟩))
      have VX := Lib.hid (A1.out.vs.2 x (List.mem_of_getElem? hx))
      have VY := Lib.hid (C1.out.vs.2 y (List.mem_of_getElem? hy))
      have SVC := Lib.hid (fun w' (k : Below w1.heap.size w1 w') => (show Calls Tryz.prog 55 #[.agg #[.int .u8 x.1.f, .int .u8 x.1.e, .int .u32 x.1.vw, .int .u32 x.1.lo, .slice x.1.ms.a x.1.ms.n x.1.ms.c, .slice x.1.p.a x.1.p.n x.1.p.c, .slice x.1.q.a x.1.q.n x.1.q.c], .agg #[.int .u8 y.1.f, .int .u8 y.1.e, .int .u32 y.1.vw, .int .u32 y.1.lo, .slice y.1.ms.a y.1.ms.n y.1.ms.c, .slice y.1.p.a y.1.p.n y.1.p.c, .slice y.1.q.a y.1.q.n y.1.q.c]] w' fun e w'' => e = .returned (.bool (sameV x.1 x.2 y.1 y.2)) ∧ Below w'.heap.size w' w'' from refSameVote_any w' x.1 y.1 x.2 y.2 (VX.out.below k) (VY.out.below k)))
      have q22 := Lib.hid (fun w' (k : Below w1.heap.size w1 w') => (show w'.cell? ⟨w.heap.size, 22, none⟩ = some (.slice (some ⟨bx, ox, none⟩) nv a.vs.c) by rw [cell_box (XA.out w' k), ← NV.out, ← ex]; rfl))
      have p22 := Lib.hid (fun w' (k : Below w1.heap.size w1 w') => (show w'.cell? ⟨w.heap.size + 1, 22, none⟩ = some (.slice (some ⟨by0, oy, none⟩) nv b.vs.c) by rw [cell_box (XB.out w' k), ← NV.out, L1.out, ← ey]; rfl))
      have HX := Lib.hid hx
      have HYY := Lib.hid hy
      clear gx gy hx hy ex ey
      go_wp2_with fail
      cases hsv : sameV x.1 x.2 y.1 y.2 with
      | false =>
        refine wp_region_held_drew (S := fun w' => Below w1.heap.size w1 w') (by kernel_rfl) (HK.out.drew) (fun hS => ?_)
        refine tg 0 (.pointer (some ⟨w.heap.size, 22, none⟩)) rfl hS ?_
        refine tk 1 (.slice (some ⟨bx, ox, none⟩) nv a.vs.c) rfl (yi_load 33 _ (.pointer (some ⟨w.heap.size, 22, none⟩)) rfl rfl rfl (fun w hw => by have q := q22.out _ hw; go_simp)) hS ?_
        refine tm 2 (.int .i64 ↑i) rfl hS ?_
        refine tg 3 (.pointer (some ⟨bx, ox + i * 7, none⟩)) rfl hS ?_
        refine tk 4 (.agg #[.int .u8 x.1.f, .int .u8 x.1.e, .int .u32 x.1.vw, .int .u32 x.1.lo, .slice x.1.ms.a x.1.ms.n x.1.ms.c, .slice x.1.p.a x.1.p.n x.1.p.c, .slice x.1.q.a x.1.q.n x.1.q.c]) rfl (yi_load 32 _ (.pointer (some ⟨bx, ox + i * 7, none⟩)) rfl rfl rfl (fun w hw => by obtain ⟨r0, r1, r2, r3, r4, r5, r6⟩ := Qx.out _ hw; go_simp)) hS ?_
        refine tg 5 (.pointer (some ⟨w.heap.size + 1, 22, none⟩)) rfl hS ?_
        refine tk 6 (.slice (some ⟨by0, oy, none⟩) nv b.vs.c) rfl (yi_load 33 _ (.pointer (some ⟨w.heap.size + 1, 22, none⟩)) rfl rfl rfl (fun w hw => by have q := p22.out _ hw; go_simp)) hS ?_
        refine tm 7 (.int .i64 ↑i) rfl hS ?_
        refine tg 8 (.pointer (some ⟨by0, oy + i * 7, none⟩)) rfl hS ?_
        refine tk 9 (.agg #[.int .u8 y.1.f, .int .u8 y.1.e, .int .u32 y.1.vw, .int .u32 y.1.lo, .slice y.1.ms.a y.1.ms.n y.1.ms.c, .slice y.1.p.a y.1.p.n y.1.p.c, .slice y.1.q.a y.1.q.n y.1.q.c]) rfl (yi_load 32 _ (.pointer (some ⟨by0, oy + i * 7, none⟩)) rfl rfl rfl (fun w hw => by obtain ⟨r0, r1, r2, r3, r4, r5, r6⟩ := Qy.out _ hw; go_simp)) hS ?_
        refine rdy1 10 rfl (fun K hK => ?_)
        rw [if_pos (by rfl)]
        go_simp
        refine Calls.mono (SVC.out _ hS) ?_
        rintro e w5 ⟨rfl, k5⟩
        rw [hsv]
        have hS5 := hS.trans (k5.mono hS.size)
        clear k5
        refine hK.out _ _ (hS5) (fun hS => ?_)
        clear hK K
        refine tm 11 (.bool true) rfl hS ?_
        refine wpAnyH_done (by kernel_rfl) ?_ _
        have TS := Lib.hid hS
        clear hS
        go_wp2_with fail
        go_ret
        refine ⟨?_, KB.out.trans (TS.out.mono KB.out.size)⟩
        rw [sameVs_no HX.out HYY.out hsv]
        rfl
      | true =>
        refine wp_region_held_drew (S := fun w' => Below w1.heap.size w1 w') (by kernel_rfl) (HK.out.drew) (fun hS => ?_)
        refine tg 0 (.pointer (some ⟨w.heap.size, 22, none⟩)) rfl hS ?_
        refine tk 1 (.slice (some ⟨bx, ox, none⟩) nv a.vs.c) rfl (yi_load 33 _ (.pointer (some ⟨w.heap.size, 22, none⟩)) rfl rfl rfl (fun w hw => by have q := q22.out _ hw; go_simp)) hS ?_
        refine tm 2 (.int .i64 ↑i) rfl hS ?_
        refine tg 3 (.pointer (some ⟨bx, ox + i * 7, none⟩)) rfl hS ?_
        refine tk 4 (.agg #[.int .u8 x.1.f, .int .u8 x.1.e, .int .u32 x.1.vw, .int .u32 x.1.lo, .slice x.1.ms.a x.1.ms.n x.1.ms.c, .slice x.1.p.a x.1.p.n x.1.p.c, .slice x.1.q.a x.1.q.n x.1.q.c]) rfl (yi_load 32 _ (.pointer (some ⟨bx, ox + i * 7, none⟩)) rfl rfl rfl (fun w hw => by obtain ⟨r0, r1, r2, r3, r4, r5, r6⟩ := Qx.out _ hw; go_simp)) hS ?_
        refine tg 5 (.pointer (some ⟨w.heap.size + 1, 22, none⟩)) rfl hS ?_
        refine tk 6 (.slice (some ⟨by0, oy, none⟩) nv b.vs.c) rfl (yi_load 33 _ (.pointer (some ⟨w.heap.size + 1, 22, none⟩)) rfl rfl rfl (fun w hw => by have q := p22.out _ hw; go_simp)) hS ?_
        refine tm 7 (.int .i64 ↑i) rfl hS ?_
        refine tg 8 (.pointer (some ⟨by0, oy + i * 7, none⟩)) rfl hS ?_
        refine tk 9 (.agg #[.int .u8 y.1.f, .int .u8 y.1.e, .int .u32 y.1.vw, .int .u32 y.1.lo, .slice y.1.ms.a y.1.ms.n y.1.ms.c, .slice y.1.p.a y.1.p.n y.1.p.c, .slice y.1.q.a y.1.q.n y.1.q.c]) rfl (yi_load 32 _ (.pointer (some ⟨by0, oy + i * 7, none⟩)) rfl rfl rfl (fun w hw => by obtain ⟨r0, r1, r2, r3, r4, r5, r6⟩ := Qy.out _ hw; go_simp)) hS ?_
        refine rdy1 10 rfl (fun K hK => ?_)
        rw [if_pos (by rfl)]
        go_simp
        refine Calls.mono (SVC.out _ hS) ?_
        rintro e w5 ⟨rfl, k5⟩
        rw [hsv]
        have hS5 := hS.trans (k5.mono hS.size)
        clear k5
        refine hK.out _ _ (hS5) (fun hS => ?_)
        clear hK K
        refine tm 11 (.bool false) rfl hS ?_
        refine wpAnyH_done (by kernel_rfl) ?_ _
        have TS := Lib.hid hS
        clear hS
        go_wp2_with fail
        go_round
        case rel =>
          refine ⟨i + 1, by omega, by go_num, TS, Lib.hid (fun j u v hj hu hv => ?_)⟩
          by_cases e : j = i
          · subst e
            rw [HX.out] at hu
            rw [HYY.out] at hv
            injection hu with hu
            injection hv with hv
            subst hu hv
            exact hsv
          · exact HE.out j u v (by omega) hu hv
        case measure => simp [intOf]; omega
    · obtain rfl : i = nv := by omega
      have hall : sameVs ca.vs cb.vs = true := sameVs_all (by rw [← LA.out, ← LB.out, L1.out]) (fun j x y hx hy => HE.out j x y (by have := (List.getElem?_eq_some_iff.1 hx).1; rw [← LA.out, NV.out] at this; exact this) hx hy)
      have ALL := Lib.hid hall
      clear hall HE
      go_wp2_with fail
      go_loopw [6] (fun vi wr => ∃ k : Nat, k ≤ ns ∧ vi = .int .i64 k ∧ Hid (Below w1.heap.size w1 wr) ∧ Hid (∀ j, j < k → ca.sm[j]? = cb.sm[j]?)) (fun i _ => ns - (intOf i).toNat)
      case atStart => exact ⟨0, by omega, rfl, HK, Lib.hid (fun j h => absurd h (Nat.not_lt_zero _))⟩
      case round =>
        obtain ⟨k, hk, rfl, HK2, HE2⟩ := hrel
        have a23 : wr.cell? ⟨w.heap.size, 23, none⟩ = some (.slice a.sm.a ns a.sm.c) := by rw [cell_box (XA.out wr HK2.out), ← NS.out]; rfl
        have b23 : wr.cell? ⟨w.heap.size + 1, 23, none⟩ = some (.slice b.sm.a ns b.sm.c) := by rw [cell_box (XB.out wr HK2.out), ← NS.out, L2.out]; rfl
        by_cases hlt : k < ns
        · obtain ⟨x, hx⟩ : ∃ x, ca.sm[k]? = some x := ⟨_, List.getElem?_eq_getElem (by rw [← SL.out, NS.out]; exact hlt)⟩
          obtain ⟨y, hy⟩ : ∃ y, cb.sm[k]? = some y := ⟨_, List.getElem?_eq_getElem (by rw [← SM.out, ← L2.out, NS.out]; exact hlt)⟩
          obtain ⟨bx0, ox, ex, gx⟩ : ∃ bb off, a.sm.a = some ⟨bb, off, none⟩ ∧ w1.cell? ⟨bb, off + k, none⟩ = some (.int .u64 x) := by
            obtain ⟨ao, cp, e, _, _, _, h⟩ := A1.out.sm
            injection e with e1 _ _
            obtain ⟨bb, off, e2, h2⟩ := h k x hx
            have h3 := h2 0 (.int .u64 x) rfl
            rw [show off + k * 1 + 0 = off + k by omega] at h3
            exact ⟨bb, off, e1.trans e2, h3⟩
          have Qx := Lib.hid (fun w' (q : Below w1.heap.size w1 w') => (show w'.cell? ⟨bx0, ox + k, none⟩ = some (.int .u64 x) by rw [← gx]; exact World.cell?_of_block (q.block _ (cell_block gx))))
          obtain ⟨by0, oy, ey, gy⟩ : ∃ bb off, b.sm.a = some ⟨bb, off, none⟩ ∧ w1.cell? ⟨bb, off + k, none⟩ = some (.int .u64 y) := by
            obtain ⟨ao, cp, e, _, _, _, h⟩ := C1.out.sm
            injection e with e1 _ _
            obtain ⟨bb, off, e2, h2⟩ := h k y hy
            have h3 := h2 0 (.int .u64 y) rfl
            rw [show off + k * 1 + 0 = off + k by omega] at h3
            exact ⟨bb, off, e1.trans e2, h3⟩
          have Qy := Lib.hid (fun w' (q : Below w1.heap.size w1 w') => (show w'.cell? ⟨by0, oy + k, none⟩ = some (.int .u64 y) by rw [← gy]; exact World.cell?_of_block (q.block _ (cell_block gy))))
          have q23 := Lib.hid (fun w' (q : Below w1.heap.size w1 w') => (show w'.cell? ⟨w.heap.size, 23, none⟩ = some (.slice (some ⟨bx0, ox, none⟩) ns a.sm.c) by rw [cell_box (XA.out w' q), ← NS.out, ← ex]; rfl))
          have p23 := Lib.hid (fun w' (q : Below w1.heap.size w1 w') => (show w'.cell? ⟨w.heap.size + 1, 23, none⟩ = some (.slice (some ⟨by0, oy, none⟩) ns b.sm.c) by rw [cell_box (XB.out w' q), ← NS.out, L2.out, ← ey]; rfl))
          have HX := Lib.hid hx
          have HYY := Lib.hid hy
          clear gx gy hx hy ex ey
          go_wp2_with fail
          by_cases hxy : x = y
          · subst hxy
            refine wp_region_held_drew (S := fun w' => Below w1.heap.size w1 w') (by kernel_rfl) (HK2.out.drew) (fun hS => ?_)
            refine tg 0 (.pointer (some ⟨w.heap.size, 23, none⟩)) rfl hS ?_
            refine tk 1 (.slice (some ⟨bx0, ox, none⟩) ns a.sm.c) rfl (yi_load 34 _ (.pointer (some ⟨w.heap.size, 23, none⟩)) rfl rfl rfl (fun w hw => by have q := q23.out _ hw; go_simp)) hS ?_
            refine tm 2 (.int .i64 ↑k) rfl hS ?_
            refine tg 3 (.pointer (some ⟨bx0, ox + k, none⟩)) rfl hS ?_
            refine tk 4 (.int .u64 x) rfl (yi_load 28 _ (.pointer (some ⟨bx0, ox + k, none⟩)) rfl rfl rfl (fun w hw => by have q := Qx.out _ hw; go_simp)) hS ?_
            refine tg 5 (.pointer (some ⟨w.heap.size + 1, 23, none⟩)) rfl hS ?_
            refine tk 6 (.slice (some ⟨by0, oy, none⟩) ns b.sm.c) rfl (yi_load 34 _ (.pointer (some ⟨w.heap.size + 1, 23, none⟩)) rfl rfl rfl (fun w hw => by have q := p23.out _ hw; go_simp)) hS ?_
            refine tm 7 (.int .i64 ↑k) rfl hS ?_
            refine tg 8 (.pointer (some ⟨by0, oy + k, none⟩)) rfl hS ?_
            refine tk 9 (.int .u64 x) rfl (yi_load 28 _ (.pointer (some ⟨by0, oy + k, none⟩)) rfl rfl rfl (fun w hw => by have q := Qy.out _ hw; go_simp)) hS ?_
            refine tg 10 (.bool false) rfl hS ?_
            refine wpAnyH_done (by kernel_rfl) ?_ _
            have TS := Lib.hid hS
            clear hS
            go_wp2_with fail
            go_round
            case rel =>
              refine ⟨k + 1, by omega, by go_num, TS, Lib.hid (fun j hj => ?_)⟩
              by_cases e : j = k
              · subst e
                rw [HX.out, HYY.out]
              · exact HE2.out j (by omega)
            case measure => simp [intOf]; omega
          · refine wp_region_held_drew (S := fun w' => Below w1.heap.size w1 w') (by kernel_rfl) (HK2.out.drew) (fun hS => ?_)
            refine tg 0 (.pointer (some ⟨w.heap.size, 23, none⟩)) rfl hS ?_
            refine tk 1 (.slice (some ⟨bx0, ox, none⟩) ns a.sm.c) rfl (yi_load 34 _ (.pointer (some ⟨w.heap.size, 23, none⟩)) rfl rfl rfl (fun w hw => by have q := q23.out _ hw; go_simp)) hS ?_
            refine tm 2 (.int .i64 ↑k) rfl hS ?_
            refine tg 3 (.pointer (some ⟨bx0, ox + k, none⟩)) rfl hS ?_
            refine tk 4 (.int .u64 x) rfl (yi_load 28 _ (.pointer (some ⟨bx0, ox + k, none⟩)) rfl rfl rfl (fun w hw => by have q := Qx.out _ hw; go_simp)) hS ?_
            refine tg 5 (.pointer (some ⟨w.heap.size + 1, 23, none⟩)) rfl hS ?_
            refine tk 6 (.slice (some ⟨by0, oy, none⟩) ns b.sm.c) rfl (yi_load 34 _ (.pointer (some ⟨w.heap.size + 1, 23, none⟩)) rfl rfl rfl (fun w hw => by have q := p23.out _ hw; go_simp)) hS ?_
            refine tm 7 (.int .i64 ↑k) rfl hS ?_
            refine tg 8 (.pointer (some ⟨by0, oy + k, none⟩)) rfl hS ?_
            refine tk 9 (.int .u64 y) rfl (yi_load 28 _ (.pointer (some ⟨by0, oy + k, none⟩)) rfl rfl rfl (fun w hw => by have q := Qy.out _ hw; go_simp)) hS ?_
            refine tk 10 (.bool true) rfl (.inl ⟨rfl, fun _ _ => by go_simp <;> exact hxy⟩) hS ?_
            refine wpAnyH_done (by kernel_rfl) ?_ _
            have TS := Lib.hid hS
            clear hS
            go_wp2_with fail
            go_ret
            refine ⟨?_, KB.out.trans (TS.out.mono KB.out.size)⟩
            rw [ALL.out, decide_eq_false (fun h => hxy (by have := HX.out; rw [h, HYY.out] at this; injection this with this; exact this.symm))]
            rfl
        · obtain rfl : k = ns := by omega
          go_wp2_with fail
          go_ret
          refine ⟨?_, KB.out.trans (HK2.out.mono KB.out.size)⟩
          have heq : ca.sm = cb.sm := by
            refine List.ext_getElem? (fun j => ?_)
            by_cases hj : j < k
            · exact HE2.out j hj
            · rw [List.getElem?_eq_none (by rw [← SL.out, NS.out]; omega), List.getElem?_eq_none (by rw [← SM.out, ← L2.out, NS.out]; omega)]
          rw [ALL.out, decide_eq_true heq]
          rfl

theorem Mg.wd_eq {a b : Mg} (h1 : a.k = b.k) (h2 : a.f = b.f) (h3 : a.t = b.t) (h4 : a.e = b.e) (h5 : a.vw = b.vw) (h6 : a.sq = b.sq) (h7 : a.rq = b.rq) (h8 : a.ro = b.ro) (h9 : a.ct = b.ct) (h10 : a.pg = b.pg) (h11 : a.rs = b.rs) : a.toWd = b.toWd := by
  obtain ⟨wa, _, _, _, _⟩ := a
  obtain ⟨wb, _, _, _, _⟩ := b
  cases wa; cases wb; simp_all

theorem refSame_any (w : World) (a b : Mg) (ca cb : Mc) (ha : MgAt w a ca) (hb : MgAt w b cb) :
    Calls Tryz.prog 17 #[.agg a.cells.toArray, .agg b.cells.toArray] w fun e w' => e = .returned (.bool (sameM a ca b cb)) ∧ Below w.heap.size w w' := by
  unfold sameM
  have ne : ∀ (q : Prop) (_ : a.toWd = b.toWd → q), ¬ q → decide (a.toWd = b.toWd) = false := fun q h hn => decide_eq_false (fun e => hn (h e))
  by_cases e0 : a.k = b.k
  case neg => rw [ne _ (congrArg Wd.k) e0, Bool.false_and]; exact refSame_ne0 w a b e0
  by_cases e1 : a.f = b.f
  case neg => rw [ne _ (congrArg Wd.f) e1, Bool.false_and]; exact refSame_ne1 w a b e0 e1
  by_cases e2 : a.t = b.t
  case neg => rw [ne _ (congrArg Wd.t) e2, Bool.false_and]; exact refSame_ne2 w a b e0 e1 e2
  by_cases e3 : a.e = b.e
  case neg => rw [ne _ (congrArg Wd.e) e3, Bool.false_and]; exact refSame_ne3 w a b e0 e1 e2 e3
  by_cases e4 : a.vw = b.vw
  case neg => rw [ne _ (congrArg Wd.vw) e4, Bool.false_and]; exact refSame_ne4 w a b e0 e1 e2 e3 e4
  by_cases e5 : a.sq = b.sq
  case neg => rw [ne _ (congrArg Wd.sq) e5, Bool.false_and]; exact refSame_ne5 w a b e0 e1 e2 e3 e4 e5
  by_cases e6 : a.rq = b.rq
  case neg => rw [ne _ (congrArg Wd.rq) e6, Bool.false_and]; exact refSame_ne6 w a b e0 e1 e2 e3 e4 e5 e6
  by_cases e7 : a.ro = b.ro
  case neg => rw [ne _ (congrArg Wd.ro) e7, Bool.false_and]; exact refSame_ne7 w a b e0 e1 e2 e3 e4 e5 e6 e7
  by_cases e8 : a.ct = b.ct
  case neg => rw [ne _ (congrArg Wd.ct) e8, Bool.false_and]; exact refSame_ne8 w a b e0 e1 e2 e3 e4 e5 e6 e7 e8
  by_cases e9 : a.pg = b.pg
  case neg => rw [ne _ (congrArg Wd.pg) e9, Bool.false_and]; exact refSame_ne9 w a b e0 e1 e2 e3 e4 e5 e6 e7 e8 e9
  by_cases e10 : a.rs = b.rs
  case neg => rw [ne _ (congrArg Wd.rs) e10, Bool.false_and]; exact refSame_ne10 w a b e0 e1 e2 e3 e4 e5 e6 e7 e8 e9 e10
  rw [decide_eq_true (Mg.wd_eq e0 e1 e2 e3 e4 e5 e6 e7 e8 e9 e10), Bool.true_and]
  have la : a.vs.n = ca.vs.length := by obtain ⟨ao, cp, e, _⟩ := ha.vs.1; injection e
  have lb : b.vs.n = cb.vs.length := by obtain ⟨ao, cp, e, _⟩ := hb.vs.1; injection e
  have sa : a.sm.n = ca.sm.length := by obtain ⟨ao, cp, e, _⟩ := ha.sm; injection e
  have sb : b.sm.n = cb.sm.length := by obtain ⟨ao, cp, e, _⟩ := hb.sm; injection e
  cases hs : sameV a.vt ca.vt b.vt cb.vt with
  | false => rw [Bool.false_and]; exact refSame_v w a b ca cb ha hb e0 e1 e2 e3 e4 e5 e6 e7 e8 e9 e10 hs
  | true =>
    rw [Bool.true_and]
    by_cases h1 : (a.vs.n : Int) = b.vs.n
    case neg =>
      have h : sameVs ca.vs cb.vs = false := by unfold sameVs; rw [decide_eq_false (by omega), Bool.false_and]
      rw [h, Bool.false_and]
      exact refSame_l1 w a b ca cb ha hb e0 e1 e2 e3 e4 e5 e6 e7 e8 e9 e10 hs h1
    by_cases h2 : (a.sm.n : Int) = b.sm.n
    case neg =>
      have h : decide (ca.sm = cb.sm) = false := decide_eq_false (fun e => h2 (by rw [sa, sb, e]))
      rw [h, Bool.false_and, Bool.and_false]
      exact refSame_l2 w a b ca cb ha hb e0 e1 e2 e3 e4 e5 e6 e7 e8 e9 e10 hs h1 h2
    by_cases hd : ca.dt = cb.dt
    case neg =>
      rw [decide_eq_false hd, Bool.and_false, Bool.and_false]
      exact refSame_d w a b ca cb ha hb e0 e1 e2 e3 e4 e5 e6 e7 e8 e9 e10 hs h1 h2 hd
    rw [decide_eq_true hd, Bool.and_true]
    exact refSame_go w a b ca cb ha hb e0 e1 e2 e3 e4 e5 e6 e7 e8 e9 e10 hs h1 h2 hd
end Go.Proofs.YtbpfkeeikhhlnaaGreatDoor
