/- Which messages the laws of layer 3 look at: their lists are short. -/
import Derived.Test.YtmkeckablkccnaaDoorSr13
import Derived.Test.YtmkeckablkccnaaDoorLeaf
namespace Go.Proofs.YtmkeckablkccnaaDoor
open Go.RowKit
set_option maxRecDepth 100000

theorem cell_vt {w' : World} {g : Nat} {v : Vt} (h : w'.heap[g]? = some (.cells v.cells.toArray 32 (0, 0))) (i : Nat) : w'.cell? ⟨g, i, none⟩ = v.cells[i]? := by
  rw [cell_of_row _ _ i _ _ _ h]; simp
/-- its lists are no longer than forty -/
def Vt.few (v : Vt) : Prop := v.ms.n ≤ 40 ∧ v.p.n ≤ 40 ∧ v.q.n ≤ 40
def HelpV (w : World) (v : Vt) (e : Ending) (w' : World) : Prop := ∃ b, e = .returned (.bool b) ∧ (b = true → v.few) ∧ Below w.heap.size w w'
set_option maxHeartbeats 4000000 in
theorem help25 (w : World) (v : Vt) : Calls Tryd.prog 29 #[.agg v.cells.toArray] w (HelpV w v) := by
  obtain ⟨W, hW⟩ : ∃ W, W = w.alloc (.cells v.cells.toArray 32) := ⟨_, rfl⟩
  have hbl : Below w.heap.size w W := by rw [hW]; exact (Below.refl _ _).alloc (Nat.le_refl _) _
  have hbx : W.heap[w.heap.size]? = some (.cells v.cells.toArray 32 (0, 0)) := by rw [hW]; exact heap_alloc_new _ _
  have q4 : W.cell? ⟨w.heap.size, 4, none⟩ = some (.slice v.ms.a v.ms.n v.ms.c) := cell_vt hbx 4
  have q5 : W.cell? ⟨w.heap.size, 5, none⟩ = some (.slice v.p.a v.p.n v.p.c) := cell_vt hbx 5
  have q6 : W.cell? ⟨w.heap.size, 6, none⟩ = some (.slice v.q.a v.q.n v.q.c) := cell_vt hbx 6
  have HBL := Lib.hid hbl
  have HW := Lib.hid hW
  clear hW hbx hbl
  simp only [Vt.cells] at HW ⊢
  go_enter Tryd.func29, Tryd.ntmps29
  go_upto_region 1 with fail
  rw [← HW.out]
  have eA : (#[.int .u8 v.f, .int .u8 v.e, .int .u32 v.vw, .int .u32 v.lo, .slice v.ms.a v.ms.n v.ms.c, .slice v.p.a v.p.n v.p.c, .slice v.q.a v.q.n v.q.c] : Array Value) = v.cells.toArray := rfl
  rw [eA]
  clear eA HW
  generalize v.cells.toArray = A at *
  by_cases h1 : (v.ms.n : Int) ≤ 40
  · by_cases h2 : (v.p.n : Int) ≤ 40
    · by_cases h3 : (v.q.n : Int) ≤ 40
      all_goals
        go_wp2_with fail
        go_ret
        exact ⟨_, rfl, fun h => by first | (cases h; done) | exact ⟨by omega, by omega, by omega⟩, HBL.out⟩
    · go_wp2_with fail
      go_ret
      exact ⟨_, rfl, fun h => by first | (cases h; done) | exact ⟨by omega, by omega, by omega⟩, HBL.out⟩
  · go_wp2_with fail
    go_ret
    exact ⟨_, rfl, fun h => by first | (cases h; done) | exact ⟨by omega, by omega, by omega⟩, HBL.out⟩

def HelpM (w : World) (m : Mg) (l : List Vt) (e : Ending) (w' : World) : Prop := ∃ b, e = .returned (.bool b) ∧ (b = true → m.vs.n ≤ 6 ∧ m.sm.n ≤ 12 ∧ m.dt.n ≤ 200 ∧ m.vt.few ∧ ∀ x ∈ l, x.few) ∧ Below w.heap.size w w'
set_option maxHeartbeats 8000000 in
theorem help10 (w : World) (m : Mg) (l : List Vt) (hl : RowU w 7 Vt.cells m.vs.val l) : Calls Tryd.prog 9 #[.agg m.cells.toArray] w (HelpM w m l) := by
  obtain ⟨W, hW⟩ : ∃ W, W = w.alloc (.cells m.cells.toArray 37) := ⟨_, rfl⟩
  have hbl : Below w.heap.size w W := by rw [hW]; exact (Below.refl _ _).alloc (Nat.le_refl _) _
  have hbx : W.heap[w.heap.size]? = some (.cells m.cells.toArray 37 (0, 0)) := by rw [hW]; exact heap_alloc_new _ _
  have q22 : W.cell? ⟨w.heap.size, 22, none⟩ = some (.slice m.vs.a m.vs.n m.vs.c) := cell_box hbx 22
  have q23 : W.cell? ⟨w.heap.size, 23, none⟩ = some (.slice m.sm.a m.sm.n m.sm.c) := cell_box hbx 23
  have q24 : W.cell? ⟨w.heap.size, 24, none⟩ = some (.slice m.dt.a m.dt.n m.dt.c) := cell_box hbx 24
  have q15 : W.cell? ⟨w.heap.size, 15, none⟩ = some (.int .u8 m.vt.f) := cell_box hbx 15
  have q16 : W.cell? ⟨w.heap.size, 16, none⟩ = some (.int .u8 m.vt.e) := cell_box hbx 16
  have q17 : W.cell? ⟨w.heap.size, 17, none⟩ = some (.int .u32 m.vt.vw) := cell_box hbx 17
  have q18 : W.cell? ⟨w.heap.size, 18, none⟩ = some (.int .u32 m.vt.lo) := cell_box hbx 18
  have q19 : W.cell? ⟨w.heap.size, 19, none⟩ = some (.slice m.vt.ms.a m.vt.ms.n m.vt.ms.c) := cell_box hbx 19
  have q20 : W.cell? ⟨w.heap.size, 20, none⟩ = some (.slice m.vt.p.a m.vt.p.n m.vt.p.c) := cell_box hbx 20
  have q21 : W.cell? ⟨w.heap.size, 21, none⟩ = some (.slice m.vt.q.a m.vt.q.n m.vt.q.c) := cell_box hbx 21
  have CV := help25 W m.vt
  simp only [Vt.cells] at CV
  have CVH := Lib.hid CV
  obtain ⟨sa, sc, hq, -, -, -, hrow0⟩ := hl
  have hrow : ∀ (j : Nat) (x : Vt), l[j]? = some x → ∃ b off, sa = some ⟨b, off, none⟩ ∧ ∀ i u, x.cells[i]? = some u → W.cell? ⟨b, off + j * 7 + i, none⟩ = some u := fun j x hj => by
    obtain ⟨b, off, e, hc⟩ := hrow0 j x hj
    exact ⟨b, off, e, fun i u hu => by have := hc i u hu; rw [hbl.cell (cell_block this)]; exact this⟩
  injection hq with hq1 hq2 hq3
  rw [hq1, hq2, hq3] at q22
  have HROW := Lib.hid hrow
  have HBX := Lib.hid hbx
  have HBL := Lib.hid hbl
  have HW := Lib.hid hW
  have HQ := Lib.hid q22
  have HNL := Lib.hid (show m.vs.n = l.length from hq2)
  clear hW hbx hbl hrow0 hrow hq1 hq2 hq3 CV
  generalize hvn : l.length = vn at *
  have HVN := Lib.hid hvn
  clear hvn
  simp only [Mg.cells] at HW ⊢
  go_enter Tryd.func9, Tryd.ntmps9
  go_upto_region 1 with fail
  rw [← HW.out]
  have eA : (#[.int .u8 m.k, .int .u8 m.f, .int .u8 m.t, .int .u8 m.e, .int .u32 m.vw, .int .u32 m.sq, .int .u8 m.rq.c, .int .u32 m.rq.t, .int .u8 m.rq.k, .int .u8 m.rq.y, .int .u16 m.rq.v, .int .u64 m.ro, .int .u8 m.ct, .int .u8 m.pg, .int .u32 m.rs, .int .u8 m.vt.f, .int .u8 m.vt.e, .int .u32 m.vt.vw, .int .u32 m.vt.lo, .slice m.vt.ms.a m.vt.ms.n m.vt.ms.c, .slice m.vt.p.a m.vt.p.n m.vt.p.c, .slice m.vt.q.a m.vt.q.n m.vt.q.c, .slice m.vs.a m.vs.n m.vs.c, .slice m.sm.a m.sm.n m.sm.c, .slice m.dt.a m.dt.n m.dt.c] : Array Value) = m.cells.toArray := rfl
  rw [eA]
  clear eA HW
  generalize m.cells.toArray = A at *
  by_cases h1 : 6 < (vn : Int)
  · go_wp2_with fail
    go_ret
    exact ⟨_, rfl, fun h => (by cases h), HBL.out⟩
  · by_cases h2 : 12 < (m.sm.n : Int)
    · go_wp2_with fail
      go_ret
      exact ⟨_, rfl, fun h => (by cases h), HBL.out⟩
    · by_cases h3 : 200 < (m.dt.n : Int)
      · go_wp2_with fail
        go_ret
        exact ⟨_, rfl, fun h => (by cases h), HBL.out⟩
      · go_wp2_with fail
        refine Calls.mono CVH.out ?_
        rintro e w1 ⟨b, rfl, hfew, hb⟩
        have HFW := Lib.hid hfew
        clear hfew
        have B1 := Lib.hid hb
        clear hb q15 q16 q17 q18 q19 q20 q21 q22 q23 q24 CVH
        cases b
        · go_wp2_with fail
          go_ret
          exact ⟨_, rfl, fun h => (by cases h), HBL.out.trans (B1.out.mono HBL.out.size)⟩
        · go_upto_region 3 with fail
          obtain ⟨gx, hgx⟩ : ∃ g, g = w.heap.size := ⟨_, rfl⟩
          have HBXg := HBX
          rw [← hgx] at HBXg HQ ⊢
          clear hgx
          go_wp2_with fail
          go_loopw [3] (fun vi wr => ∃ j : Nat, j ≤ vn ∧ vi = .int .i64 j ∧ Hid (Below W.heap.size W wr) ∧ Hid (∀ x ∈ l.take j, x.few)) (fun i _ => vn - (intOf i).toNat)
          case atStart => exact ⟨0, Nat.zero_le _, rfl, B1, Lib.hid (fun x hx => by simp at hx)⟩
          case round =>
            obtain ⟨j, hj, rfl, HBW, HFS⟩ := hrel
            have qv : wr.cell? ⟨gx, 22, none⟩ = some (.slice sa vn sc) := (HBW.out.cell (cell_block HQ.out)).trans HQ.out
            by_cases hlt : j < vn
            · obtain ⟨x, hx⟩ : ∃ x, l[j]? = some x := ⟨_, List.getElem?_eq_getElem (by rw [HVN.out]; exact hlt)⟩
              obtain ⟨b, off, rfl, G0⟩ := HROW.out j x hx
              have G : ∀ i u, x.cells[i]? = some u → wr.cell? ⟨b, off + j * 7 + i, none⟩ = some u := fun i u hi => (HBW.out.cell (cell_block (G0 i u hi))).trans (G0 i u hi)
              have GL := Lib.hid (vt_load G)
              have CX := Lib.hid (help25 wr x)
              have HX := Lib.hid hx
              clear hx G0 G
              go_upto_region 6 with fail
              refine wp_region_lit ?_
              refine wpl_val (v := .pointer (some ⟨gx, 22, none⟩)) (w1 := wr) rfl (by go_simp) _ rfl ?_
              refine wpl_val (v := .slice (some ⟨b, off, none⟩) vn sc) (w1 := wr) rfl (by go_simp) _ rfl ?_
              refine wpl_val (v := .int .i64 j) (w1 := wr) rfl (by go_simp) _ rfl ?_
              refine wpl_val (v := .pointer (some ⟨b, off + j * 7, none⟩)) (w1 := wr) rfl (by go_simp) _ rfl ?_
              refine wpl_val (v := .agg x.cells.toArray) (w1 := wr) rfl (exec_load 32 (.tmp 36) rfl rfl GL.out) _ rfl ?_
              generalize x.cells.toArray = AX at *
              go_wp2_with fail
              refine Calls.mono CX.out ?_
              rintro e w2 ⟨b2, rfl, hfx, hb2⟩
              have HFX := Lib.hid hfx
              clear hfx
              have HB2 := Lib.hid (HBW.out.trans (hb2.mono HBW.out.size))
              clear hb2 CX qv
              cases b2
              · go_wp2_with fail
                go_ret
                exact ⟨_, rfl, fun h => (by cases h), HBL.out.trans (HB2.out.mono HBL.out.size)⟩
              · go_wp2_with fail
                go_round
                case rel => exact ⟨j + 1, by omega, by go_num, HB2, Lib.hid (fun y hy => by
                  rw [List.take_add_one, HX.out] at hy
                  rcases List.mem_append.1 hy with h | h
                  · exact HFS.out y h
                  · simp at h; rw [h]; exact HFX.out (by first | rfl | trivial))⟩
                case measure => simp [intOf]; omega
            · obtain rfl : j = vn := by omega
              go_wp2_with fail
              go_ret
              exact ⟨_, rfl, fun _ => ⟨by have := HNL.out; have := HVN.out; omega, by omega, by omega, HFW.out (by first | rfl | trivial), fun x hx => HFS.out x (by rw [List.take_of_length_le (by rw [HVN.out]; exact Nat.le_refl _)]; exact hx)⟩, HBL.out.trans (HBW.out.mono HBL.out.size)⟩
end Go.Proofs.YtmkeckablkccnaaDoor
