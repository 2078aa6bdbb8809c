/- The requests within a message whose votes have no entries. -/
import Derived.Test.YtigpfaecbmnklaaDoorVo2
namespace Go.Proofs.YtigpfaecbmnklaaDoor
open Go.RowKit Go.Maps
set_option maxRecDepth 100000

def nilSl : Sl := ⟨none, 0, 0⟩
/-- votes without entries -/
def NoEn (l : List Vt) : Prop := ∀ x ∈ l, x.p = ⟨none, 0, 0⟩ ∧ x.q = ⟨none, 0, 0⟩

set_option maxHeartbeats 8000000 in
theorem requestsOf56r (w : World) (m : Mg) (l : List Vt) (hl : Row w 7 Vt.cells m.vs.val l) (hn : NoEn (vsOf m l)) : Calls Tryd.prog 56 #[.agg m.cells.toArray] w fun e w' => ∃ g, e = .returned (.slice (some ⟨g, 0, none⟩) 1 1) ∧ w'.heap[g]? = some (.cells m.rq.cells.toArray 27 (0, 0)) ∧ w.heap.size ≤ g ∧ Below w.heap.size w w' := by
  obtain ⟨W, hW⟩ : ∃ W, W = w.alloc (.cells m.cells.toArray 37) := ⟨_, rfl⟩
  have hbl : Below w.heap.size w W := by rw [hW]; exact (Below.refl _ _).alloc (Nat.le_refl _) _
  have hbx : W.heap[w.heap.size]? = some (.cells m.cells.toArray 37 (0, 0)) := by rw [hW]; exact heap_alloc_new _ _
  have q6 : W.cell? ⟨w.heap.size, 6, none⟩ = some (.int .u8 m.rq.c) := cell_box hbx 6
  have q7 : W.cell? ⟨w.heap.size, 7, none⟩ = some (.int .u32 m.rq.t) := cell_box hbx 7
  have q8 : W.cell? ⟨w.heap.size, 8, none⟩ = some (.int .u8 m.rq.k) := cell_box hbx 8
  have q9 : W.cell? ⟨w.heap.size, 9, none⟩ = some (.int .u8 m.rq.y) := cell_box hbx 9
  have q10 : W.cell? ⟨w.heap.size, 10, none⟩ = some (.int .u16 m.rq.v) := cell_box hbx 10
  obtain ⟨W2, hW2⟩ : ∃ W2, W2 = W.alloc (.cells m.rq.cells.toArray 27) := ⟨_, rfl⟩
  have hb2 : Below W.heap.size W W2 := by rw [hW2]; exact (Below.refl _ _).alloc (Nat.le_refl _) _
  have hR : W2.heap[W.heap.size]? = some (.cells m.rq.cells.toArray 27 (0, 0)) := by rw [hW2]; exact heap_alloc_new _ _
  have HBX2 := Lib.hid ((hb2.block _ (lt_of_block hbx)).trans hbx)
  have CV := Lib.hid (votesOf54r W2 m l ((hl.below hbl).below hb2))
  have HRR := Lib.hid hR
  have HB2 := Lib.hid (hbl.trans (hb2.mono hbl.size))
  have HLE := Lib.hid (show w.heap.size ≤ W.heap.size from hbl.size)
  have HW := Lib.hid hW
  have HW2 := Lib.hid hW2
  have HN := Lib.hid hn
  generalize vsOf m l = vl at *
  simp only [Rq.cells] at HW2
  clear hW hbx hbl hW2 hb2 hR hl hn
  simp only [Mg.cells] at HW ⊢
  go_enter Tryd.func56, Tryd.ntmps56
  go_upto_region 1 with fail
  rw [← HW.out]
  have eA : (#[.int .u8 m.k, .int .u8 m.f, .int .u8 m.t, .int .u8 m.e, .int .u32 m.vw, .int .u32 m.sq, .int .u8 m.rq.c, .int .u32 m.rq.t, .int .u8 m.rq.k, .int .u8 m.rq.y, .int .u16 m.rq.v, .int .u64 m.ro, .int .u8 m.ct, .int .u8 m.pg, .int .u32 m.rs, .int .u8 m.vt.f, .int .u8 m.vt.e, .int .u32 m.vt.vw, .int .u32 m.vt.lo, .slice m.vt.ms.a m.vt.ms.n m.vt.ms.c, .slice m.vt.p.a m.vt.p.n m.vt.p.c, .slice m.vt.q.a m.vt.q.n m.vt.q.c, .slice m.vs.a m.vs.n m.vs.c, .slice m.sm.a m.sm.n m.sm.c, .slice m.dt.a m.dt.n m.dt.c] : Array Value) = m.cells.toArray := rfl
  rw [eA]
  clear eA HW
  have HSZ := Lib.hid (show m.cells.toArray.size = 25 from rfl)
  generalize m.cells.toArray = A at *
  go_upto_region 2 with fail
  rw [← HW2.out]
  clear HW2
  refine wp_region_lit ?_
  refine wpList_load_row rfl 37 (.tmp 1) rfl w.heap.size rfl 37 _ (0, 0) _ HBX2.out Tryd.underlying37 rfl (by rw [HSZ.out]; exact size37) ?_
  go_wp2_with fail
  refine Calls.mono CV.out ?_
  rintro e w1 ⟨va, vn, vc, rfl, hrow, hb⟩
  obtain ⟨va', vc', hq, -, -, hlen, hrow⟩ := hrow
  injection hq with hq1 hq2 hq3
  subst hq1 hq2 hq3
  have HROW := Lib.hid hrow
  have HR3 := Lib.hid ((hb.block _ (lt_of_block HRR.out)).trans HRR.out)
  have HB3 := Lib.hid (HB2.out.trans (hb.mono HB2.out.size))
  clear hb hrow CV HBX2 HRR HB2
  generalize hvn : vl.length = vn at *
  have HVN := Lib.hid hvn
  clear hvn
  go_wp2_with fail
  go_loopw [3, 14] (fun v3 vi wr => ∃ j : Nat, j ≤ vn ∧ v3 = .slice (some ⟨W.heap.size, 0, none⟩) 1 1 ∧ vi = .int .i64 j ∧ Hid (Below w1.heap.size w1 wr)) (fun _ i _ => vn - (intOf i).toNat)
  case atStart => exact ⟨0, Nat.zero_le _, rfl, rfl, Lib.hid (Below.refl _ _)⟩
  case round =>
    obtain ⟨j, hj, rfl, rfl, HBW⟩ := hrel
    by_cases hlt : j < vn
    · obtain ⟨x, hx⟩ : ∃ x, vl[j]? = some x := ⟨_, List.getElem?_eq_getElem (by rw [HVN.out]; exact hlt)⟩
      obtain ⟨b, off, rfl, G0⟩ := HROW.out j x hx
      have hno := HN.out x (List.mem_of_getElem? hx)
      have G : ∀ i u, x.cells[i]? = some u → wr.cell? ⟨b, off + j * 7 + i, none⟩ = some u := fun i u hi => (HBW.out.cell (cell_block (G0 i u hi))).trans (G0 i u hi)
      have GL := Lib.hid (vt_load G)
      obtain ⟨V, hV⟩ : ∃ V, V = wr.alloc (.cells x.cells.toArray 32) := ⟨_, rfl⟩
      have hVx : V.heap[wr.heap.size]? = some (.cells x.cells.toArray 32 (0, 0)) := by rw [hV]; exact heap_alloc_new _ _
      have hVb : Below wr.heap.size wr V := by rw [hV]; exact (Below.refl _ _).alloc (Nat.le_refl _) _
      have p5 : V.cell? ⟨wr.heap.size, 5, none⟩ = some (.slice none 0 0) := (cell_vt hVx 5).trans (by rw [show x.cells[5]? = some (.slice x.p.a x.p.n x.p.c) from rfl, hno.1])
      have p6 : V.cell? ⟨wr.heap.size, 6, none⟩ = some (.slice none 0 0) := (cell_vt hVx 6).trans (by rw [show x.cells[6]? = some (.slice x.q.a x.q.n x.q.c) from rfl, hno.2])
      have HV := Lib.hid hV
      have HVB := Lib.hid (HBW.out.trans (hVb.mono HBW.out.size))
      clear hV hVx hVb hno hx G0 G
      go_upto_region 4 with fail
      refine wp_region_lit ?_
      refine wpl_val (v := .pointer (some ⟨b, off + j * 7, none⟩)) (w1 := wr) rfl (by go_simp) _ rfl ?_
      refine wpl_val (v := .agg x.cells.toArray) (w1 := wr) rfl (exec_load 32 (.tmp 16) rfl rfl GL.out) _ rfl ?_
      simp only [Vt.cells] at HV ⊢
      go_upto_region 5 with fail
      rw [← HV.out]
      clear HV GL
      go_wp2_with fail
      refine Calls.mono (concat89n _ _ (heap_alloc_new _ _)) ?_
      rintro e w3 ⟨rfl, rfl⟩
      go_wp2_with fail
      go_loopw [3, 25] (fun v3 vi wr2 => v3 = .slice (some ⟨W.heap.size, 0, none⟩) 1 1 ∧ vi = .int .i64 0 ∧ wr2 = V.alloc (.cells #[.slice none 0 0, .slice none 0 0] 30)) (fun _ _ _ => 1)
      case atStart => exact ⟨rfl, rfl, rfl⟩
      case round =>
        obtain ⟨rfl, rfl, rfl⟩ := hrel
        go_wp2_with fail
        exact ⟨⟨j + 1, by omega, rfl, by go_num, Lib.hid (HVB.out.alloc HVB.out.size _)⟩, by simp [intOf]; omega⟩
    · obtain rfl : j = vn := by omega
      go_wp2_with fail
      go_ret
      have HB4 := HB3.out.trans (HBW.out.mono HB3.out.size)
      exact ⟨W.heap.size, rfl, (HBW.out.block _ (lt_of_block HR3.out)).trans HR3.out, HLE.out, HB4⟩
end Go.Proofs.YtigpfaecbmnklaaDoor
