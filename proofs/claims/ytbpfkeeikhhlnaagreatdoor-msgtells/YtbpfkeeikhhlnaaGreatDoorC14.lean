/- The document's Same: messages whose plain fields are alike. -/
import Derived.Test.YtbpfkeeikhhlnaaGreatDoorC09
import Derived.Test.YtbpfkeeikhhlnaaGreatDoorC03
import Derived.Deep.CutRange
import Derived.Lib.Bytes
namespace Go.Proofs.YtbpfkeeikhhlnaaGreatDoor
open Go.RowKit
set_option maxRecDepth 100000

theorem bytesOf_inj : ∀ (a b : List Int), (∀ y ∈ a, isByte y) → (∀ y ∈ b, isByte y) → Lib.bytesOf a = Lib.bytesOf b → a = b := by
  intro a
  induction a with
  | nil => intro b _ _ h; cases b with
    | nil => rfl
    | cons => simp [Lib.bytesOf] at h
  | cons x a ih =>
    intro b ha hb h
    cases b with
    | nil => simp [Lib.bytesOf] at h
    | cons y b =>
      simp only [Lib.bytesOf, List.map_cons, List.cons.injEq] at h
      have hx := ha x (by simp)
      have hy := hb y (by simp)
      have e := congrArg UInt8.toNat h.1
      simp only [UInt8.toNat_ofNat'] at e
      unfold isByte at hx hy
      rw [show x = y by omega, ih b (fun z hz => ha z (by simp [hz])) (fun z hz => hb z (by simp [hz])) h.2]

theorem str_beq {a b : List Int} (ha : ∀ y ∈ a, isByte y) (hb : ∀ y ∈ b, isByte y) : ((strOfNums a).toList == (strOfNums b).toList) = decide (a = b) := by
  rw [Lib.strOfNums_toList, Lib.strOfNums_toList]
  by_cases h : a = b
  · subst h; simp
  · rw [decide_eq_false h, beq_eq_false_iff_ne]
    exact fun e => h (bytesOf_inj a b ha hb e)

set_option maxHeartbeats 8000000 in
theorem refSame_v (w : World) (a b : Mg) (ca cb : Mc) (ha : MgAt w a ca) (hb : MgAt w b cb) (e0 : a.k = b.k) (e1 : a.f = b.f) (e2 : a.t = b.t) (e3 : a.e = b.e) (e4 : a.vw = b.vw) (e5 : a.sq = b.sq) (e6 : a.rq = b.rq) (e7 : a.ro = b.ro) (e8 : a.ct = b.ct) (e9 : a.pg = b.pg) (e10 : a.rs = b.rs) (hs : sameV a.vt ca.vt b.vt cb.vt = false) :
    Calls Tryz.prog 17 #[.agg a.cells.toArray, .agg b.cells.toArray] w fun e w' => e = .returned (.bool false) ∧ Below w.heap.size w w' := by
  have d0 : (a.k != b.k) = false := by simp [e0]
  have d1 : (a.f != b.f) = false := by simp [e1]
  have d2 : (a.t != b.t) = false := by simp [e2]
  have d3 : (a.e != b.e) = false := by simp [e3]
  have d4 : (a.vw != b.vw) = false := by simp [e4]
  have d5 : (a.sq != b.sq) = false := by simp [e5]
  have q27 : ∀ w, _ := fun w => neq27 a.rq b.rq w
  rw [decide_eq_true e6] at q27
  simp only [Rq.cells] at q27
  have d7 : (a.ro != b.ro) = false := by simp [e7]
  have d8 : (a.ct != b.ct) = false := by simp [e8]
  have d9 : (a.pg != b.pg) = false := by simp [e9]
  have d10 : (a.rs != b.rs) = false := by simp [e10]
  clear e0 e1 e2 e3 e4 e5 e6 e7 e8 e9 e10
  obtain ⟨W, hW⟩ : ∃ W, W = (w.alloc (.cells a.cells.toArray 37)).alloc (.cells b.cells.toArray 37) := ⟨_, rfl⟩
  have hWs : W.heap.size = w.heap.size + 2 := by rw [hW]; simp
  have hWb := bl2 hW
  have FA := Lib.hid (fa2 hW)
  have FB := Lib.hid (fb2 hW)
  have HWB := Lib.hid hWb
  have hW0 := Below.refl W.heap.size W
  have a0 : W.cell? ⟨w.heap.size, 0, none⟩ = some (.int .u8 a.k) := by rw [cell_box (FA.out W hW0)]; rfl
  have b0 : W.cell? ⟨w.heap.size + 1, 0, none⟩ = some (.int .u8 b.k) := by rw [cell_box (FB.out W hW0)]; rfl
  have a1 : W.cell? ⟨w.heap.size, 1, none⟩ = some (.int .u8 a.f) := by rw [cell_box (FA.out W hW0)]; rfl
  have b1 : W.cell? ⟨w.heap.size + 1, 1, none⟩ = some (.int .u8 b.f) := by rw [cell_box (FB.out W hW0)]; rfl
  have a2 : W.cell? ⟨w.heap.size, 2, none⟩ = some (.int .u8 a.t) := by rw [cell_box (FA.out W hW0)]; rfl
  have b2 : W.cell? ⟨w.heap.size + 1, 2, none⟩ = some (.int .u8 b.t) := by rw [cell_box (FB.out W hW0)]; rfl
  have a3 : W.cell? ⟨w.heap.size, 3, none⟩ = some (.int .u8 a.e) := by rw [cell_box (FA.out W hW0)]; rfl
  have b3 : W.cell? ⟨w.heap.size + 1, 3, none⟩ = some (.int .u8 b.e) := by rw [cell_box (FB.out W hW0)]; rfl
  have a4 : W.cell? ⟨w.heap.size, 4, none⟩ = some (.int .u32 a.vw) := by rw [cell_box (FA.out W hW0)]; rfl
  have b4 : W.cell? ⟨w.heap.size + 1, 4, none⟩ = some (.int .u32 b.vw) := by rw [cell_box (FB.out W hW0)]; rfl
  have a5 : W.cell? ⟨w.heap.size, 5, none⟩ = some (.int .u32 a.sq) := by rw [cell_box (FA.out W hW0)]; rfl
  have b5 : W.cell? ⟨w.heap.size + 1, 5, none⟩ = some (.int .u32 b.sq) := by rw [cell_box (FB.out W hW0)]; rfl
  have a6 : W.cell? ⟨w.heap.size, 6, none⟩ = some (.int .u8 a.rq.c) := by rw [cell_box (FA.out W hW0)]; rfl
  have b6 : W.cell? ⟨w.heap.size + 1, 6, none⟩ = some (.int .u8 b.rq.c) := by rw [cell_box (FB.out W hW0)]; rfl
  have a7 : W.cell? ⟨w.heap.size, 7, none⟩ = some (.int .u32 a.rq.t) := by rw [cell_box (FA.out W hW0)]; rfl
  have b7 : W.cell? ⟨w.heap.size + 1, 7, none⟩ = some (.int .u32 b.rq.t) := by rw [cell_box (FB.out W hW0)]; rfl
  have a8 : W.cell? ⟨w.heap.size, 8, none⟩ = some (.int .u8 a.rq.k) := by rw [cell_box (FA.out W hW0)]; rfl
  have b8 : W.cell? ⟨w.heap.size + 1, 8, none⟩ = some (.int .u8 b.rq.k) := by rw [cell_box (FB.out W hW0)]; rfl
  have a9 : W.cell? ⟨w.heap.size, 9, none⟩ = some (.int .u8 a.rq.y) := by rw [cell_box (FA.out W hW0)]; rfl
  have b9 : W.cell? ⟨w.heap.size + 1, 9, none⟩ = some (.int .u8 b.rq.y) := by rw [cell_box (FB.out W hW0)]; rfl
  have a10 : W.cell? ⟨w.heap.size, 10, none⟩ = some (.int .u16 a.rq.v) := by rw [cell_box (FA.out W hW0)]; rfl
  have b10 : W.cell? ⟨w.heap.size + 1, 10, none⟩ = some (.int .u16 b.rq.v) := by rw [cell_box (FB.out W hW0)]; rfl
  have a11 : W.cell? ⟨w.heap.size, 11, none⟩ = some (.int .u64 a.ro) := by rw [cell_box (FA.out W hW0)]; rfl
  have b11 : W.cell? ⟨w.heap.size + 1, 11, none⟩ = some (.int .u64 b.ro) := by rw [cell_box (FB.out W hW0)]; rfl
  have a12 : W.cell? ⟨w.heap.size, 12, none⟩ = some (.int .u8 a.ct) := by rw [cell_box (FA.out W hW0)]; rfl
  have b12 : W.cell? ⟨w.heap.size + 1, 12, none⟩ = some (.int .u8 b.ct) := by rw [cell_box (FB.out W hW0)]; rfl
  have a13 : W.cell? ⟨w.heap.size, 13, none⟩ = some (.int .u8 a.pg) := by rw [cell_box (FA.out W hW0)]; rfl
  have b13 : W.cell? ⟨w.heap.size + 1, 13, none⟩ = some (.int .u8 b.pg) := by rw [cell_box (FB.out W hW0)]; rfl
  have a14 : W.cell? ⟨w.heap.size, 14, none⟩ = some (.int .u32 a.rs) := by rw [cell_box (FA.out W hW0)]; rfl
  have b14 : W.cell? ⟨w.heap.size + 1, 14, none⟩ = some (.int .u32 b.rs) := by rw [cell_box (FB.out W hW0)]; rfl
  have a15 : W.cell? ⟨w.heap.size, 15, none⟩ = some (.int .u8 a.vt.f) := by rw [cell_box (FA.out W hW0)]; rfl
  have b15 : W.cell? ⟨w.heap.size + 1, 15, none⟩ = some (.int .u8 b.vt.f) := by rw [cell_box (FB.out W hW0)]; rfl
  have a16 : W.cell? ⟨w.heap.size, 16, none⟩ = some (.int .u8 a.vt.e) := by rw [cell_box (FA.out W hW0)]; rfl
  have b16 : W.cell? ⟨w.heap.size + 1, 16, none⟩ = some (.int .u8 b.vt.e) := by rw [cell_box (FB.out W hW0)]; rfl
  have a17 : W.cell? ⟨w.heap.size, 17, none⟩ = some (.int .u32 a.vt.vw) := by rw [cell_box (FA.out W hW0)]; rfl
  have b17 : W.cell? ⟨w.heap.size + 1, 17, none⟩ = some (.int .u32 b.vt.vw) := by rw [cell_box (FB.out W hW0)]; rfl
  have a18 : W.cell? ⟨w.heap.size, 18, none⟩ = some (.int .u32 a.vt.lo) := by rw [cell_box (FA.out W hW0)]; rfl
  have b18 : W.cell? ⟨w.heap.size + 1, 18, none⟩ = some (.int .u32 b.vt.lo) := by rw [cell_box (FB.out W hW0)]; rfl
  have a19 : W.cell? ⟨w.heap.size, 19, none⟩ = some (.slice a.vt.ms.a a.vt.ms.n a.vt.ms.c) := by rw [cell_box (FA.out W hW0)]; rfl
  have b19 : W.cell? ⟨w.heap.size + 1, 19, none⟩ = some (.slice b.vt.ms.a b.vt.ms.n b.vt.ms.c) := by rw [cell_box (FB.out W hW0)]; rfl
  have a20 : W.cell? ⟨w.heap.size, 20, none⟩ = some (.slice a.vt.p.a a.vt.p.n a.vt.p.c) := by rw [cell_box (FA.out W hW0)]; rfl
  have b20 : W.cell? ⟨w.heap.size + 1, 20, none⟩ = some (.slice b.vt.p.a b.vt.p.n b.vt.p.c) := by rw [cell_box (FB.out W hW0)]; rfl
  have a21 : W.cell? ⟨w.heap.size, 21, none⟩ = some (.slice a.vt.q.a a.vt.q.n a.vt.q.c) := by rw [cell_box (FA.out W hW0)]; rfl
  have b21 : W.cell? ⟨w.heap.size + 1, 21, none⟩ = some (.slice b.vt.q.a b.vt.q.n b.vt.q.c) := by rw [cell_box (FB.out W hW0)]; rfl
  have HA := Lib.hid (ha.below hWb)
  have HB := Lib.hid (hb.below hWb)
  have hWc := hW
  simp only [Mg.cells] at hWc ⊢
  have HW := Lib.hid hWc
  have HG := fun op x y w => guard27 op x y a.rq b.rq w
  simp only [Rq.cells] at HG
  clear ha hb hWb hWs hW hWc hW0
  go_enter Tryz.func17, Tryz.ntmps17
  go_upto_region 1 with fail
  rw [← HW.out]
  clear HW
  try rw [mgA a]
  generalize a.cells.toArray = xa
  try rw [mgA b]
  generalize b.cells.toArray = xb
  go_wp2_with fail
  have V := refSameVote_any W a.vt b.vt ca.vt cb.vt HA.out.vt HB.out.vt
  simp only [Vt.cells] at V
  refine V.mono ?_
  clear V
  rintro e w1 ⟨rfl, kb⟩
  have B1 := Lib.hid kb
  rw [hs]
  clear a0 b0 a1 b1 a2 b2 a3 b3 a4 b4 a5 b5 a6 b6 a7 b7 a8 b8 a9 b9 a10 b10 a11 b11 a12 b12 a13 b13 a14 b14 a15 b15 a16 b16 a17 b17 a18 b18 a19 b19 a20 b20 a21 b21
  clear kb FA FB
  go_wp2_with fail
  go_ret
  exact ⟨rfl, HWB.out.trans (B1.out.mono HWB.out.size)⟩

set_option maxHeartbeats 8000000 in
theorem refSame_l1 (w : World) (a b : Mg) (ca cb : Mc) (ha : MgAt w a ca) (hb : MgAt w b cb) (e0 : a.k = b.k) (e1 : a.f = b.f) (e2 : a.t = b.t) (e3 : a.e = b.e) (e4 : a.vw = b.vw) (e5 : a.sq = b.sq) (e6 : a.rq = b.rq) (e7 : a.ro = b.ro) (e8 : a.ct = b.ct) (e9 : a.pg = b.pg) (e10 : a.rs = b.rs) (hs : sameV a.vt ca.vt b.vt cb.vt = true) (h1 : ¬ (a.vs.n : Int) = b.vs.n) :
    Calls Tryz.prog 17 #[.agg a.cells.toArray, .agg b.cells.toArray] w fun e w' => e = .returned (.bool false) ∧ Below w.heap.size w w' := by
  have d0 : (a.k != b.k) = false := by simp [e0]
  have d1 : (a.f != b.f) = false := by simp [e1]
  have d2 : (a.t != b.t) = false := by simp [e2]
  have d3 : (a.e != b.e) = false := by simp [e3]
  have d4 : (a.vw != b.vw) = false := by simp [e4]
  have d5 : (a.sq != b.sq) = false := by simp [e5]
  have q27 : ∀ w, _ := fun w => neq27 a.rq b.rq w
  rw [decide_eq_true e6] at q27
  simp only [Rq.cells] at q27
  have d7 : (a.ro != b.ro) = false := by simp [e7]
  have d8 : (a.ct != b.ct) = false := by simp [e8]
  have d9 : (a.pg != b.pg) = false := by simp [e9]
  have d10 : (a.rs != b.rs) = false := by simp [e10]
  clear e0 e1 e2 e3 e4 e5 e6 e7 e8 e9 e10
  obtain ⟨W, hW⟩ : ∃ W, W = (w.alloc (.cells a.cells.toArray 37)).alloc (.cells b.cells.toArray 37) := ⟨_, rfl⟩
  have hWs : W.heap.size = w.heap.size + 2 := by rw [hW]; simp
  have hWb := bl2 hW
  have FA := Lib.hid (fa2 hW)
  have FB := Lib.hid (fb2 hW)
  have HWB := Lib.hid hWb
  have hW0 := Below.refl W.heap.size W
  have a0 : W.cell? ⟨w.heap.size, 0, none⟩ = some (.int .u8 a.k) := by rw [cell_box (FA.out W hW0)]; rfl
  have b0 : W.cell? ⟨w.heap.size + 1, 0, none⟩ = some (.int .u8 b.k) := by rw [cell_box (FB.out W hW0)]; rfl
  have a1 : W.cell? ⟨w.heap.size, 1, none⟩ = some (.int .u8 a.f) := by rw [cell_box (FA.out W hW0)]; rfl
  have b1 : W.cell? ⟨w.heap.size + 1, 1, none⟩ = some (.int .u8 b.f) := by rw [cell_box (FB.out W hW0)]; rfl
  have a2 : W.cell? ⟨w.heap.size, 2, none⟩ = some (.int .u8 a.t) := by rw [cell_box (FA.out W hW0)]; rfl
  have b2 : W.cell? ⟨w.heap.size + 1, 2, none⟩ = some (.int .u8 b.t) := by rw [cell_box (FB.out W hW0)]; rfl
  have a3 : W.cell? ⟨w.heap.size, 3, none⟩ = some (.int .u8 a.e) := by rw [cell_box (FA.out W hW0)]; rfl
  have b3 : W.cell? ⟨w.heap.size + 1, 3, none⟩ = some (.int .u8 b.e) := by rw [cell_box (FB.out W hW0)]; rfl
  have a4 : W.cell? ⟨w.heap.size, 4, none⟩ = some (.int .u32 a.vw) := by rw [cell_box (FA.out W hW0)]; rfl
  have b4 : W.cell? ⟨w.heap.size + 1, 4, none⟩ = some (.int .u32 b.vw) := by rw [cell_box (FB.out W hW0)]; rfl
  have a5 : W.cell? ⟨w.heap.size, 5, none⟩ = some (.int .u32 a.sq) := by rw [cell_box (FA.out W hW0)]; rfl
  have b5 : W.cell? ⟨w.heap.size + 1, 5, none⟩ = some (.int .u32 b.sq) := by rw [cell_box (FB.out W hW0)]; rfl
  have a6 : W.cell? ⟨w.heap.size, 6, none⟩ = some (.int .u8 a.rq.c) := by rw [cell_box (FA.out W hW0)]; rfl
  have b6 : W.cell? ⟨w.heap.size + 1, 6, none⟩ = some (.int .u8 b.rq.c) := by rw [cell_box (FB.out W hW0)]; rfl
  have a7 : W.cell? ⟨w.heap.size, 7, none⟩ = some (.int .u32 a.rq.t) := by rw [cell_box (FA.out W hW0)]; rfl
  have b7 : W.cell? ⟨w.heap.size + 1, 7, none⟩ = some (.int .u32 b.rq.t) := by rw [cell_box (FB.out W hW0)]; rfl
  have a8 : W.cell? ⟨w.heap.size, 8, none⟩ = some (.int .u8 a.rq.k) := by rw [cell_box (FA.out W hW0)]; rfl
  have b8 : W.cell? ⟨w.heap.size + 1, 8, none⟩ = some (.int .u8 b.rq.k) := by rw [cell_box (FB.out W hW0)]; rfl
  have a9 : W.cell? ⟨w.heap.size, 9, none⟩ = some (.int .u8 a.rq.y) := by rw [cell_box (FA.out W hW0)]; rfl
  have b9 : W.cell? ⟨w.heap.size + 1, 9, none⟩ = some (.int .u8 b.rq.y) := by rw [cell_box (FB.out W hW0)]; rfl
  have a10 : W.cell? ⟨w.heap.size, 10, none⟩ = some (.int .u16 a.rq.v) := by rw [cell_box (FA.out W hW0)]; rfl
  have b10 : W.cell? ⟨w.heap.size + 1, 10, none⟩ = some (.int .u16 b.rq.v) := by rw [cell_box (FB.out W hW0)]; rfl
  have a11 : W.cell? ⟨w.heap.size, 11, none⟩ = some (.int .u64 a.ro) := by rw [cell_box (FA.out W hW0)]; rfl
  have b11 : W.cell? ⟨w.heap.size + 1, 11, none⟩ = some (.int .u64 b.ro) := by rw [cell_box (FB.out W hW0)]; rfl
  have a12 : W.cell? ⟨w.heap.size, 12, none⟩ = some (.int .u8 a.ct) := by rw [cell_box (FA.out W hW0)]; rfl
  have b12 : W.cell? ⟨w.heap.size + 1, 12, none⟩ = some (.int .u8 b.ct) := by rw [cell_box (FB.out W hW0)]; rfl
  have a13 : W.cell? ⟨w.heap.size, 13, none⟩ = some (.int .u8 a.pg) := by rw [cell_box (FA.out W hW0)]; rfl
  have b13 : W.cell? ⟨w.heap.size + 1, 13, none⟩ = some (.int .u8 b.pg) := by rw [cell_box (FB.out W hW0)]; rfl
  have a14 : W.cell? ⟨w.heap.size, 14, none⟩ = some (.int .u32 a.rs) := by rw [cell_box (FA.out W hW0)]; rfl
  have b14 : W.cell? ⟨w.heap.size + 1, 14, none⟩ = some (.int .u32 b.rs) := by rw [cell_box (FB.out W hW0)]; rfl
  have a15 : W.cell? ⟨w.heap.size, 15, none⟩ = some (.int .u8 a.vt.f) := by rw [cell_box (FA.out W hW0)]; rfl
  have b15 : W.cell? ⟨w.heap.size + 1, 15, none⟩ = some (.int .u8 b.vt.f) := by rw [cell_box (FB.out W hW0)]; rfl
  have a16 : W.cell? ⟨w.heap.size, 16, none⟩ = some (.int .u8 a.vt.e) := by rw [cell_box (FA.out W hW0)]; rfl
  have b16 : W.cell? ⟨w.heap.size + 1, 16, none⟩ = some (.int .u8 b.vt.e) := by rw [cell_box (FB.out W hW0)]; rfl
  have a17 : W.cell? ⟨w.heap.size, 17, none⟩ = some (.int .u32 a.vt.vw) := by rw [cell_box (FA.out W hW0)]; rfl
  have b17 : W.cell? ⟨w.heap.size + 1, 17, none⟩ = some (.int .u32 b.vt.vw) := by rw [cell_box (FB.out W hW0)]; rfl
  have a18 : W.cell? ⟨w.heap.size, 18, none⟩ = some (.int .u32 a.vt.lo) := by rw [cell_box (FA.out W hW0)]; rfl
  have b18 : W.cell? ⟨w.heap.size + 1, 18, none⟩ = some (.int .u32 b.vt.lo) := by rw [cell_box (FB.out W hW0)]; rfl
  have a19 : W.cell? ⟨w.heap.size, 19, none⟩ = some (.slice a.vt.ms.a a.vt.ms.n a.vt.ms.c) := by rw [cell_box (FA.out W hW0)]; rfl
  have b19 : W.cell? ⟨w.heap.size + 1, 19, none⟩ = some (.slice b.vt.ms.a b.vt.ms.n b.vt.ms.c) := by rw [cell_box (FB.out W hW0)]; rfl
  have a20 : W.cell? ⟨w.heap.size, 20, none⟩ = some (.slice a.vt.p.a a.vt.p.n a.vt.p.c) := by rw [cell_box (FA.out W hW0)]; rfl
  have b20 : W.cell? ⟨w.heap.size + 1, 20, none⟩ = some (.slice b.vt.p.a b.vt.p.n b.vt.p.c) := by rw [cell_box (FB.out W hW0)]; rfl
  have a21 : W.cell? ⟨w.heap.size, 21, none⟩ = some (.slice a.vt.q.a a.vt.q.n a.vt.q.c) := by rw [cell_box (FA.out W hW0)]; rfl
  have b21 : W.cell? ⟨w.heap.size + 1, 21, none⟩ = some (.slice b.vt.q.a b.vt.q.n b.vt.q.c) := by rw [cell_box (FB.out W hW0)]; rfl
  have HA := Lib.hid (ha.below hWb)
  have HB := Lib.hid (hb.below hWb)
  have hWc := hW
  simp only [Mg.cells] at hWc ⊢
  have HW := Lib.hid hWc
  have HG := fun op x y w => guard27 op x y a.rq b.rq w
  simp only [Rq.cells] at HG
  clear ha hb hWb hWs hW hWc hW0
  go_enter Tryz.func17, Tryz.ntmps17
  go_upto_region 1 with fail
  rw [← HW.out]
  clear HW
  try rw [mgA a]
  generalize a.cells.toArray = xa
  try rw [mgA b]
  generalize b.cells.toArray = xb
  go_wp2_with fail
  have V := refSameVote_any W a.vt b.vt ca.vt cb.vt HA.out.vt HB.out.vt
  simp only [Vt.cells] at V
  refine V.mono ?_
  clear V
  rintro e w1 ⟨rfl, kb⟩
  have B1 := Lib.hid kb
  rw [hs]
  have a22 : w1.cell? ⟨w.heap.size, 22, none⟩ = some (.slice a.vs.a a.vs.n a.vs.c) := by rw [cell_box (FA.out w1 kb)]; rfl
  have b22 : w1.cell? ⟨w.heap.size + 1, 22, none⟩ = some (.slice b.vs.a b.vs.n b.vs.c) := by rw [cell_box (FB.out w1 kb)]; rfl
  have a23 : w1.cell? ⟨w.heap.size, 23, none⟩ = some (.slice a.sm.a a.sm.n a.sm.c) := by rw [cell_box (FA.out w1 kb)]; rfl
  have b23 : w1.cell? ⟨w.heap.size + 1, 23, none⟩ = some (.slice b.sm.a b.sm.n b.sm.c) := by rw [cell_box (FB.out w1 kb)]; rfl
  have a24 : w1.cell? ⟨w.heap.size, 24, none⟩ = some (.slice a.dt.a a.dt.n a.dt.c) := by rw [cell_box (FA.out w1 kb)]; rfl
  have b24 : w1.cell? ⟨w.heap.size + 1, 24, none⟩ = some (.slice b.dt.a b.dt.n b.dt.c) := by rw [cell_box (FB.out w1 kb)]; rfl
  clear a0 b0 a1 b1 a2 b2 a3 b3 a4 b4 a5 b5 a6 b6 a7 b7 a8 b8 a9 b9 a10 b10 a11 b11 a12 b12 a13 b13 a14 b14 a15 b15 a16 b16 a17 b17 a18 b18 a19 b19 a20 b20 a21 b21
  have n1 : ((a.vs.n : Int) != (b.vs.n : Int)) = true := by simp [h1]
  clear kb FA FB h1
  go_wp2_with fail
  go_ret
  exact ⟨rfl, HWB.out.trans (B1.out.mono HWB.out.size)⟩

set_option maxHeartbeats 8000000 in
theorem refSame_l2 (w : World) (a b : Mg) (ca cb : Mc) (ha : MgAt w a ca) (hb : MgAt w b cb) (e0 : a.k = b.k) (e1 : a.f = b.f) (e2 : a.t = b.t) (e3 : a.e = b.e) (e4 : a.vw = b.vw) (e5 : a.sq = b.sq) (e6 : a.rq = b.rq) (e7 : a.ro = b.ro) (e8 : a.ct = b.ct) (e9 : a.pg = b.pg) (e10 : a.rs = b.rs) (hs : sameV a.vt ca.vt b.vt cb.vt = true) (h1 : (a.vs.n : Int) = b.vs.n) (h2 : ¬ (a.sm.n : Int) = b.sm.n) :
    Calls Tryz.prog 17 #[.agg a.cells.toArray, .agg b.cells.toArray] w fun e w' => e = .returned (.bool false) ∧ Below w.heap.size w w' := by
  have d0 : (a.k != b.k) = false := by simp [e0]
  have d1 : (a.f != b.f) = false := by simp [e1]
  have d2 : (a.t != b.t) = false := by simp [e2]
  have d3 : (a.e != b.e) = false := by simp [e3]
  have d4 : (a.vw != b.vw) = false := by simp [e4]
  have d5 : (a.sq != b.sq) = false := by simp [e5]
  have q27 : ∀ w, _ := fun w => neq27 a.rq b.rq w
  rw [decide_eq_true e6] at q27
  simp only [Rq.cells] at q27
  have d7 : (a.ro != b.ro) = false := by simp [e7]
  have d8 : (a.ct != b.ct) = false := by simp [e8]
  have d9 : (a.pg != b.pg) = false := by simp [e9]
  have d10 : (a.rs != b.rs) = false := by simp [e10]
  clear e0 e1 e2 e3 e4 e5 e6 e7 e8 e9 e10
  obtain ⟨W, hW⟩ : ∃ W, W = (w.alloc (.cells a.cells.toArray 37)).alloc (.cells b.cells.toArray 37) := ⟨_, rfl⟩
  have hWs : W.heap.size = w.heap.size + 2 := by rw [hW]; simp
  have hWb := bl2 hW
  have FA := Lib.hid (fa2 hW)
  have FB := Lib.hid (fb2 hW)
  have HWB := Lib.hid hWb
  have hW0 := Below.refl W.heap.size W
  have a0 : W.cell? ⟨w.heap.size, 0, none⟩ = some (.int .u8 a.k) := by rw [cell_box (FA.out W hW0)]; rfl
  have b0 : W.cell? ⟨w.heap.size + 1, 0, none⟩ = some (.int .u8 b.k) := by rw [cell_box (FB.out W hW0)]; rfl
  have a1 : W.cell? ⟨w.heap.size, 1, none⟩ = some (.int .u8 a.f) := by rw [cell_box (FA.out W hW0)]; rfl
  have b1 : W.cell? ⟨w.heap.size + 1, 1, none⟩ = some (.int .u8 b.f) := by rw [cell_box (FB.out W hW0)]; rfl
  have a2 : W.cell? ⟨w.heap.size, 2, none⟩ = some (.int .u8 a.t) := by rw [cell_box (FA.out W hW0)]; rfl
  have b2 : W.cell? ⟨w.heap.size + 1, 2, none⟩ = some (.int .u8 b.t) := by rw [cell_box (FB.out W hW0)]; rfl
  have a3 : W.cell? ⟨w.heap.size, 3, none⟩ = some (.int .u8 a.e) := by rw [cell_box (FA.out W hW0)]; rfl
  have b3 : W.cell? ⟨w.heap.size + 1, 3, none⟩ = some (.int .u8 b.e) := by rw [cell_box (FB.out W hW0)]; rfl
  have a4 : W.cell? ⟨w.heap.size, 4, none⟩ = some (.int .u32 a.vw) := by rw [cell_box (FA.out W hW0)]; rfl
  have b4 : W.cell? ⟨w.heap.size + 1, 4, none⟩ = some (.int .u32 b.vw) := by rw [cell_box (FB.out W hW0)]; rfl
  have a5 : W.cell? ⟨w.heap.size, 5, none⟩ = some (.int .u32 a.sq) := by rw [cell_box (FA.out W hW0)]; rfl
  have b5 : W.cell? ⟨w.heap.size + 1, 5, none⟩ = some (.int .u32 b.sq) := by rw [cell_box (FB.out W hW0)]; rfl
  have a6 : W.cell? ⟨w.heap.size, 6, none⟩ = some (.int .u8 a.rq.c) := by rw [cell_box (FA.out W hW0)]; rfl
  have b6 : W.cell? ⟨w.heap.size + 1, 6, none⟩ = some (.int .u8 b.rq.c) := by rw [cell_box (FB.out W hW0)]; rfl
  have a7 : W.cell? ⟨w.heap.size, 7, none⟩ = some (.int .u32 a.rq.t) := by rw [cell_box (FA.out W hW0)]; rfl
  have b7 : W.cell? ⟨w.heap.size + 1, 7, none⟩ = some (.int .u32 b.rq.t) := by rw [cell_box (FB.out W hW0)]; rfl
  have a8 : W.cell? ⟨w.heap.size, 8, none⟩ = some (.int .u8 a.rq.k) := by rw [cell_box (FA.out W hW0)]; rfl
  have b8 : W.cell? ⟨w.heap.size + 1, 8, none⟩ = some (.int .u8 b.rq.k) := by rw [cell_box (FB.out W hW0)]; rfl
  have a9 : W.cell? ⟨w.heap.size, 9, none⟩ = some (.int .u8 a.rq.y) := by rw [cell_box (FA.out W hW0)]; rfl
  have b9 : W.cell? ⟨w.heap.size + 1, 9, none⟩ = some (.int .u8 b.rq.y) := by rw [cell_box (FB.out W hW0)]; rfl
  have a10 : W.cell? ⟨w.heap.size, 10, none⟩ = some (.int .u16 a.rq.v) := by rw [cell_box (FA.out W hW0)]; rfl
  have b10 : W.cell? ⟨w.heap.size + 1, 10, none⟩ = some (.int .u16 b.rq.v) := by rw [cell_box (FB.out W hW0)]; rfl
  have a11 : W.cell? ⟨w.heap.size, 11, none⟩ = some (.int .u64 a.ro) := by rw [cell_box (FA.out W hW0)]; rfl
  have b11 : W.cell? ⟨w.heap.size + 1, 11, none⟩ = some (.int .u64 b.ro) := by rw [cell_box (FB.out W hW0)]; rfl
  have a12 : W.cell? ⟨w.heap.size, 12, none⟩ = some (.int .u8 a.ct) := by rw [cell_box (FA.out W hW0)]; rfl
  have b12 : W.cell? ⟨w.heap.size + 1, 12, none⟩ = some (.int .u8 b.ct) := by rw [cell_box (FB.out W hW0)]; rfl
  have a13 : W.cell? ⟨w.heap.size, 13, none⟩ = some (.int .u8 a.pg) := by rw [cell_box (FA.out W hW0)]; rfl
  have b13 : W.cell? ⟨w.heap.size + 1, 13, none⟩ = some (.int .u8 b.pg) := by rw [cell_box (FB.out W hW0)]; rfl
  have a14 : W.cell? ⟨w.heap.size, 14, none⟩ = some (.int .u32 a.rs) := by rw [cell_box (FA.out W hW0)]; rfl
  have b14 : W.cell? ⟨w.heap.size + 1, 14, none⟩ = some (.int .u32 b.rs) := by rw [cell_box (FB.out W hW0)]; rfl
  have a15 : W.cell? ⟨w.heap.size, 15, none⟩ = some (.int .u8 a.vt.f) := by rw [cell_box (FA.out W hW0)]; rfl
  have b15 : W.cell? ⟨w.heap.size + 1, 15, none⟩ = some (.int .u8 b.vt.f) := by rw [cell_box (FB.out W hW0)]; rfl
  have a16 : W.cell? ⟨w.heap.size, 16, none⟩ = some (.int .u8 a.vt.e) := by rw [cell_box (FA.out W hW0)]; rfl
  have b16 : W.cell? ⟨w.heap.size + 1, 16, none⟩ = some (.int .u8 b.vt.e) := by rw [cell_box (FB.out W hW0)]; rfl
  have a17 : W.cell? ⟨w.heap.size, 17, none⟩ = some (.int .u32 a.vt.vw) := by rw [cell_box (FA.out W hW0)]; rfl
  have b17 : W.cell? ⟨w.heap.size + 1, 17, none⟩ = some (.int .u32 b.vt.vw) := by rw [cell_box (FB.out W hW0)]; rfl
  have a18 : W.cell? ⟨w.heap.size, 18, none⟩ = some (.int .u32 a.vt.lo) := by rw [cell_box (FA.out W hW0)]; rfl
  have b18 : W.cell? ⟨w.heap.size + 1, 18, none⟩ = some (.int .u32 b.vt.lo) := by rw [cell_box (FB.out W hW0)]; rfl
  have a19 : W.cell? ⟨w.heap.size, 19, none⟩ = some (.slice a.vt.ms.a a.vt.ms.n a.vt.ms.c) := by rw [cell_box (FA.out W hW0)]; rfl
  have b19 : W.cell? ⟨w.heap.size + 1, 19, none⟩ = some (.slice b.vt.ms.a b.vt.ms.n b.vt.ms.c) := by rw [cell_box (FB.out W hW0)]; rfl
  have a20 : W.cell? ⟨w.heap.size, 20, none⟩ = some (.slice a.vt.p.a a.vt.p.n a.vt.p.c) := by rw [cell_box (FA.out W hW0)]; rfl
  have b20 : W.cell? ⟨w.heap.size + 1, 20, none⟩ = some (.slice b.vt.p.a b.vt.p.n b.vt.p.c) := by rw [cell_box (FB.out W hW0)]; rfl
  have a21 : W.cell? ⟨w.heap.size, 21, none⟩ = some (.slice a.vt.q.a a.vt.q.n a.vt.q.c) := by rw [cell_box (FA.out W hW0)]; rfl
  have b21 : W.cell? ⟨w.heap.size + 1, 21, none⟩ = some (.slice b.vt.q.a b.vt.q.n b.vt.q.c) := by rw [cell_box (FB.out W hW0)]; rfl
  have HA := Lib.hid (ha.below hWb)
  have HB := Lib.hid (hb.below hWb)
  have hWc := hW
  simp only [Mg.cells] at hWc ⊢
  have HW := Lib.hid hWc
  have HG := fun op x y w => guard27 op x y a.rq b.rq w
  simp only [Rq.cells] at HG
  clear ha hb hWb hWs hW hWc hW0
  go_enter Tryz.func17, Tryz.ntmps17
  go_upto_region 1 with fail
  rw [← HW.out]
  clear HW
  try rw [mgA a]
  generalize a.cells.toArray = xa
  try rw [mgA b]
  generalize b.cells.toArray = xb
  go_wp2_with fail
  have V := refSameVote_any W a.vt b.vt ca.vt cb.vt HA.out.vt HB.out.vt
  simp only [Vt.cells] at V
  refine V.mono ?_
  clear V
  rintro e w1 ⟨rfl, kb⟩
  have B1 := Lib.hid kb
  rw [hs]
  have a22 : w1.cell? ⟨w.heap.size, 22, none⟩ = some (.slice a.vs.a a.vs.n a.vs.c) := by rw [cell_box (FA.out w1 kb)]; rfl
  have b22 : w1.cell? ⟨w.heap.size + 1, 22, none⟩ = some (.slice b.vs.a b.vs.n b.vs.c) := by rw [cell_box (FB.out w1 kb)]; rfl
  have a23 : w1.cell? ⟨w.heap.size, 23, none⟩ = some (.slice a.sm.a a.sm.n a.sm.c) := by rw [cell_box (FA.out w1 kb)]; rfl
  have b23 : w1.cell? ⟨w.heap.size + 1, 23, none⟩ = some (.slice b.sm.a b.sm.n b.sm.c) := by rw [cell_box (FB.out w1 kb)]; rfl
  have a24 : w1.cell? ⟨w.heap.size, 24, none⟩ = some (.slice a.dt.a a.dt.n a.dt.c) := by rw [cell_box (FA.out w1 kb)]; rfl
  have b24 : w1.cell? ⟨w.heap.size + 1, 24, none⟩ = some (.slice b.dt.a b.dt.n b.dt.c) := by rw [cell_box (FB.out w1 kb)]; rfl
  clear a0 b0 a1 b1 a2 b2 a3 b3 a4 b4 a5 b5 a6 b6 a7 b7 a8 b8 a9 b9 a10 b10 a11 b11 a12 b12 a13 b13 a14 b14 a15 b15 a16 b16 a17 b17 a18 b18 a19 b19 a20 b20 a21 b21
  have n1 : ((a.vs.n : Int) != (b.vs.n : Int)) = false := by simp [h1]
  have n2 : ((a.sm.n : Int) != (b.sm.n : Int)) = true := by simp [h2]
  clear kb FA FB h1 h2
  go_wp2_with fail
  go_ret
  exact ⟨rfl, HWB.out.trans (B1.out.mono HWB.out.size)⟩

set_option maxHeartbeats 8000000 in
theorem refSame_d (w : World) (a b : Mg) (ca cb : Mc) (ha : MgAt w a ca) (hb : MgAt w b cb) (e0 : a.k = b.k) (e1 : a.f = b.f) (e2 : a.t = b.t) (e3 : a.e = b.e) (e4 : a.vw = b.vw) (e5 : a.sq = b.sq) (e6 : a.rq = b.rq) (e7 : a.ro = b.ro) (e8 : a.ct = b.ct) (e9 : a.pg = b.pg) (e10 : a.rs = b.rs) (hs : sameV a.vt ca.vt b.vt cb.vt = true) (h1 : (a.vs.n : Int) = b.vs.n) (h2 : (a.sm.n : Int) = b.sm.n) (hd : ¬ ca.dt = cb.dt) :
    Calls Tryz.prog 17 #[.agg a.cells.toArray, .agg b.cells.toArray] w fun e w' => e = .returned (.bool false) ∧ Below w.heap.size w w' := by
  have d0 : (a.k != b.k) = false := by simp [e0]
  have d1 : (a.f != b.f) = false := by simp [e1]
  have d2 : (a.t != b.t) = false := by simp [e2]
  have d3 : (a.e != b.e) = false := by simp [e3]
  have d4 : (a.vw != b.vw) = false := by simp [e4]
  have d5 : (a.sq != b.sq) = false := by simp [e5]
  have q27 : ∀ w, _ := fun w => neq27 a.rq b.rq w
  rw [decide_eq_true e6] at q27
  simp only [Rq.cells] at q27
  have d7 : (a.ro != b.ro) = false := by simp [e7]
  have d8 : (a.ct != b.ct) = false := by simp [e8]
  have d9 : (a.pg != b.pg) = false := by simp [e9]
  have d10 : (a.rs != b.rs) = false := by simp [e10]
  clear e0 e1 e2 e3 e4 e5 e6 e7 e8 e9 e10
  obtain ⟨W, hW⟩ : ∃ W, W = (w.alloc (.cells a.cells.toArray 37)).alloc (.cells b.cells.toArray 37) := ⟨_, rfl⟩
  have hWs : W.heap.size = w.heap.size + 2 := by rw [hW]; simp
  have hWb := bl2 hW
  have FA := Lib.hid (fa2 hW)
  have FB := Lib.hid (fb2 hW)
  have HWB := Lib.hid hWb
  have hW0 := Below.refl W.heap.size W
  have a0 : W.cell? ⟨w.heap.size, 0, none⟩ = some (.int .u8 a.k) := by rw [cell_box (FA.out W hW0)]; rfl
  have b0 : W.cell? ⟨w.heap.size + 1, 0, none⟩ = some (.int .u8 b.k) := by rw [cell_box (FB.out W hW0)]; rfl
  have a1 : W.cell? ⟨w.heap.size, 1, none⟩ = some (.int .u8 a.f) := by rw [cell_box (FA.out W hW0)]; rfl
  have b1 : W.cell? ⟨w.heap.size + 1, 1, none⟩ = some (.int .u8 b.f) := by rw [cell_box (FB.out W hW0)]; rfl
  have a2 : W.cell? ⟨w.heap.size, 2, none⟩ = some (.int .u8 a.t) := by rw [cell_box (FA.out W hW0)]; rfl
  have b2 : W.cell? ⟨w.heap.size + 1, 2, none⟩ = some (.int .u8 b.t) := by rw [cell_box (FB.out W hW0)]; rfl
  have a3 : W.cell? ⟨w.heap.size, 3, none⟩ = some (.int .u8 a.e) := by rw [cell_box (FA.out W hW0)]; rfl
  have b3 : W.cell? ⟨w.heap.size + 1, 3, none⟩ = some (.int .u8 b.e) := by rw [cell_box (FB.out W hW0)]; rfl
  have a4 : W.cell? ⟨w.heap.size, 4, none⟩ = some (.int .u32 a.vw) := by rw [cell_box (FA.out W hW0)]; rfl
  have b4 : W.cell? ⟨w.heap.size + 1, 4, none⟩ = some (.int .u32 b.vw) := by rw [cell_box (FB.out W hW0)]; rfl
  have a5 : W.cell? ⟨w.heap.size, 5, none⟩ = some (.int .u32 a.sq) := by rw [cell_box (FA.out W hW0)]; rfl
  have b5 : W.cell? ⟨w.heap.size + 1, 5, none⟩ = some (.int .u32 b.sq) := by rw [cell_box (FB.out W hW0)]; rfl
  have a6 : W.cell? ⟨w.heap.size, 6, none⟩ = some (.int .u8 a.rq.c) := by rw [cell_box (FA.out W hW0)]; rfl
  have b6 : W.cell? ⟨w.heap.size + 1, 6, none⟩ = some (.int .u8 b.rq.c) := by rw [cell_box (FB.out W hW0)]; rfl
  have a7 : W.cell? ⟨w.heap.size, 7, none⟩ = some (.int .u32 a.rq.t) := by rw [cell_box (FA.out W hW0)]; rfl
  have b7 : W.cell? ⟨w.heap.size + 1, 7, none⟩ = some (.int .u32 b.rq.t) := by rw [cell_box (FB.out W hW0)]; rfl
  have a8 : W.cell? ⟨w.heap.size, 8, none⟩ = some (.int .u8 a.rq.k) := by rw [cell_box (FA.out W hW0)]; rfl
  have b8 : W.cell? ⟨w.heap.size + 1, 8, none⟩ = some (.int .u8 b.rq.k) := by rw [cell_box (FB.out W hW0)]; rfl
  have a9 : W.cell? ⟨w.heap.size, 9, none⟩ = some (.int .u8 a.rq.y) := by rw [cell_box (FA.out W hW0)]; rfl
  have b9 : W.cell? ⟨w.heap.size + 1, 9, none⟩ = some (.int .u8 b.rq.y) := by rw [cell_box (FB.out W hW0)]; rfl
  have a10 : W.cell? ⟨w.heap.size, 10, none⟩ = some (.int .u16 a.rq.v) := by rw [cell_box (FA.out W hW0)]; rfl
  have b10 : W.cell? ⟨w.heap.size + 1, 10, none⟩ = some (.int .u16 b.rq.v) := by rw [cell_box (FB.out W hW0)]; rfl
  have a11 : W.cell? ⟨w.heap.size, 11, none⟩ = some (.int .u64 a.ro) := by rw [cell_box (FA.out W hW0)]; rfl
  have b11 : W.cell? ⟨w.heap.size + 1, 11, none⟩ = some (.int .u64 b.ro) := by rw [cell_box (FB.out W hW0)]; rfl
  have a12 : W.cell? ⟨w.heap.size, 12, none⟩ = some (.int .u8 a.ct) := by rw [cell_box (FA.out W hW0)]; rfl
  have b12 : W.cell? ⟨w.heap.size + 1, 12, none⟩ = some (.int .u8 b.ct) := by rw [cell_box (FB.out W hW0)]; rfl
  have a13 : W.cell? ⟨w.heap.size, 13, none⟩ = some (.int .u8 a.pg) := by rw [cell_box (FA.out W hW0)]; rfl
  have b13 : W.cell? ⟨w.heap.size + 1, 13, none⟩ = some (.int .u8 b.pg) := by rw [cell_box (FB.out W hW0)]; rfl
  have a14 : W.cell? ⟨w.heap.size, 14, none⟩ = some (.int .u32 a.rs) := by rw [cell_box (FA.out W hW0)]; rfl
  have b14 : W.cell? ⟨w.heap.size + 1, 14, none⟩ = some (.int .u32 b.rs) := by rw [cell_box (FB.out W hW0)]; rfl
  have a15 : W.cell? ⟨w.heap.size, 15, none⟩ = some (.int .u8 a.vt.f) := by rw [cell_box (FA.out W hW0)]; rfl
  have b15 : W.cell? ⟨w.heap.size + 1, 15, none⟩ = some (.int .u8 b.vt.f) := by rw [cell_box (FB.out W hW0)]; rfl
  have a16 : W.cell? ⟨w.heap.size, 16, none⟩ = some (.int .u8 a.vt.e) := by rw [cell_box (FA.out W hW0)]; rfl
  have b16 : W.cell? ⟨w.heap.size + 1, 16, none⟩ = some (.int .u8 b.vt.e) := by rw [cell_box (FB.out W hW0)]; rfl
  have a17 : W.cell? ⟨w.heap.size, 17, none⟩ = some (.int .u32 a.vt.vw) := by rw [cell_box (FA.out W hW0)]; rfl
  have b17 : W.cell? ⟨w.heap.size + 1, 17, none⟩ = some (.int .u32 b.vt.vw) := by rw [cell_box (FB.out W hW0)]; rfl
  have a18 : W.cell? ⟨w.heap.size, 18, none⟩ = some (.int .u32 a.vt.lo) := by rw [cell_box (FA.out W hW0)]; rfl
  have b18 : W.cell? ⟨w.heap.size + 1, 18, none⟩ = some (.int .u32 b.vt.lo) := by rw [cell_box (FB.out W hW0)]; rfl
  have a19 : W.cell? ⟨w.heap.size, 19, none⟩ = some (.slice a.vt.ms.a a.vt.ms.n a.vt.ms.c) := by rw [cell_box (FA.out W hW0)]; rfl
  have b19 : W.cell? ⟨w.heap.size + 1, 19, none⟩ = some (.slice b.vt.ms.a b.vt.ms.n b.vt.ms.c) := by rw [cell_box (FB.out W hW0)]; rfl
  have a20 : W.cell? ⟨w.heap.size, 20, none⟩ = some (.slice a.vt.p.a a.vt.p.n a.vt.p.c) := by rw [cell_box (FA.out W hW0)]; rfl
  have b20 : W.cell? ⟨w.heap.size + 1, 20, none⟩ = some (.slice b.vt.p.a b.vt.p.n b.vt.p.c) := by rw [cell_box (FB.out W hW0)]; rfl
  have a21 : W.cell? ⟨w.heap.size, 21, none⟩ = some (.slice a.vt.q.a a.vt.q.n a.vt.q.c) := by rw [cell_box (FA.out W hW0)]; rfl
  have b21 : W.cell? ⟨w.heap.size + 1, 21, none⟩ = some (.slice b.vt.q.a b.vt.q.n b.vt.q.c) := by rw [cell_box (FB.out W hW0)]; rfl
  have HA := Lib.hid (ha.below hWb)
  have HB := Lib.hid (hb.below hWb)
  have hWc := hW
  simp only [Mg.cells] at hWc ⊢
  have HW := Lib.hid hWc
  have HG := fun op x y w => guard27 op x y a.rq b.rq w
  simp only [Rq.cells] at HG
  clear ha hb hWb hWs hW hWc hW0
  go_enter Tryz.func17, Tryz.ntmps17
  go_upto_region 1 with fail
  rw [← HW.out]
  clear HW
  try rw [mgA a]
  generalize a.cells.toArray = xa
  try rw [mgA b]
  generalize b.cells.toArray = xb
  go_wp2_with fail
  have V := refSameVote_any W a.vt b.vt ca.vt cb.vt HA.out.vt HB.out.vt
  simp only [Vt.cells] at V
  refine V.mono ?_
  clear V
  rintro e w1 ⟨rfl, kb⟩
  have B1 := Lib.hid kb
  rw [hs]
  have a22 : w1.cell? ⟨w.heap.size, 22, none⟩ = some (.slice a.vs.a a.vs.n a.vs.c) := by rw [cell_box (FA.out w1 kb)]; rfl
  have b22 : w1.cell? ⟨w.heap.size + 1, 22, none⟩ = some (.slice b.vs.a b.vs.n b.vs.c) := by rw [cell_box (FB.out w1 kb)]; rfl
  have a23 : w1.cell? ⟨w.heap.size, 23, none⟩ = some (.slice a.sm.a a.sm.n a.sm.c) := by rw [cell_box (FA.out w1 kb)]; rfl
  have b23 : w1.cell? ⟨w.heap.size + 1, 23, none⟩ = some (.slice b.sm.a b.sm.n b.sm.c) := by rw [cell_box (FB.out w1 kb)]; rfl
  have a24 : w1.cell? ⟨w.heap.size, 24, none⟩ = some (.slice a.dt.a a.dt.n a.dt.c) := by rw [cell_box (FA.out w1 kb)]; rfl
  have b24 : w1.cell? ⟨w.heap.size + 1, 24, none⟩ = some (.slice b.dt.a b.dt.n b.dt.c) := by rw [cell_box (FB.out w1 kb)]; rfl
  clear a0 b0 a1 b1 a2 b2 a3 b3 a4 b4 a5 b5 a6 b6 a7 b7 a8 b8 a9 b9 a10 b10 a11 b11 a12 b12 a13 b13 a14 b14 a15 b15 a16 b16 a17 b17 a18 b18 a19 b19 a20 b20 a21 b21
  have n1 : ((a.vs.n : Int) != (b.vs.n : Int)) = false := by simp [h1]
  have n2 : ((a.sm.n : Int) != (b.sm.n : Int)) = false := by simp [h2]
  have na : a.dt.n = ca.dt.length := HA.out.dt.1
  have nb : b.dt.n = cb.dt.length := HB.out.dt.1
  have sa : (convert 35 9 (.slice a.dt.a a.dt.n a.dt.c)).run Tryz.prog w1 = .ok (.string (strOfNums ca.dt)) w1 := by
    rw [na]
    exact str_bytes (bytes_below HA.out.dt.2.1 kb (Nat.le_refl _)) (fun h => List.eq_nil_of_length_eq_zero (by have := HA.out.dt.2.2.1 h; have := HA.out.dt.2.2.2.1; omega))
  have sb : (convert 35 9 (.slice b.dt.a b.dt.n b.dt.c)).run Tryz.prog w1 = .ok (.string (strOfNums cb.dt)) w1 := by
    rw [nb]
    exact str_bytes (bytes_below HB.out.dt.2.1 kb (Nat.le_refl _)) (fun h => List.eq_nil_of_length_eq_zero (by have := HB.out.dt.2.2.1 h; have := HB.out.dt.2.2.2.1; omega))
  have se := str_beq HA.out.dt.2.2.2.2.2 HB.out.dt.2.2.2.2.2
  rw [decide_eq_false hd] at se
  generalize strOfNums ca.dt = ta at *
  generalize strOfNums cb.dt = tb at *
  clear na nb hd
  clear kb FA FB h1 h2
  go_wp2_with fail
  go_ret
  exact ⟨rfl, HWB.out.trans (B1.out.mono HWB.out.size)⟩
end Go.Proofs.YtbpfkeeikhhlnaaGreatDoor
