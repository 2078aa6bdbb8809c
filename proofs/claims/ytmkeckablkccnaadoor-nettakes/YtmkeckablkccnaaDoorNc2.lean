/- The copy of a message that holds no list (net.copyOf). -/
import Derived.Test.YtmkeckablkccnaaDoorNc1
namespace Go.Proofs.YtmkeckablkccnaaDoor
open Go.RowKit
set_option maxRecDepth 100000

theorem range_vt {w wr : World} {g : Nat} {m : Mg} {Z : Array Value} (h : C2 w wr g 37 m.cells.toArray Z) : wr.rangeAt g 15 m.vt.cells := by
  intro j u hu
  rw [cell_of_row _ _ _ _ _ _ h.box]
  simp only [Mg.cells, Vt.cells] at hu ⊢
  match j, hu with
  | 0, h => exact h
  | 1, h => exact h
  | 2, h => exact h
  | 3, h => exact h
  | 4, h => exact h
  | 5, h => exact h
  | 6, h => exact h
  | j + 7, h => simp at h
theorem Mnil.eq {m : Mg} (h : Mnil m) : m.cells = [.int .u8 m.k, .int .u8 m.f, .int .u8 m.t, .int .u8 m.e, .int .u32 m.vw, .int .u32 m.sq, .int .u8 m.rq.c, .int .u32 m.rq.t, .int .u8 m.rq.k, .int .u8 m.rq.y, .int .u16 m.rq.v, .int .u64 m.ro, .int .u8 m.ct, .int .u8 m.pg, .int .u32 m.rs, .int .u8 m.vt.f, .int .u8 m.vt.e, .int .u32 m.vt.vw, .int .u32 m.vt.lo, .slice none 0 0, .slice none 0 0, .slice none 0 0, .slice none 0 0, .slice none 0 0, .slice none 0 0] := by
  unfold Mg.cells
  rw [h.vt.1, h.vt.2.1, h.vt.2.2, h.vs, h.sm, h.dt]

set_option maxHeartbeats 8000000 in
theorem copyNil (w : World) (m : Mg) (hm : Mnil m) :
    Calls Tryd.prog 57 #[.agg m.cells.toArray] w fun e w' => e = .returned (.agg m.cells.toArray) ∧ Below w.heap.size w w' := by
  have M0 : C2 w ((w.alloc (.cells m.cells.toArray 37)).alloc (.cells Vz.toArray 37)) w.heap.size 37 m.cells.toArray Vz.toArray := C2.new
  obtain ⟨W, hW⟩ : ∃ W, W = (w.alloc (.cells m.cells.toArray 37)).alloc (.cells Vz.toArray 37) := ⟨_, rfl⟩
  rw [← hW] at M0
  have ec := hm.eq
  have s22 : m.cells.toArray.setIfInBounds 22 (.slice none 0 0) = m.cells.toArray := by rw [ec]; rfl
  have s23 : m.cells.toArray.setIfInBounds 23 (.slice none 0 0) = m.cells.toArray := by rw [ec]; rfl
  have s24 : m.cells.toArray.setIfInBounds 24 (.slice none 0 0) = m.cells.toArray := by rw [ec]; rfl
  have a22 : m.cells.toArray[22]? = some (.slice none 0 0) := by rw [ec]; rfl
  have a23 : m.cells.toArray[23]? = some (.slice none 0 0) := by rw [ec]; rfl
  have a24 : m.cells.toArray[24]? = some (.slice none 0 0) := by rw [ec]; rfl
  have HS22 := Lib.hid s22
  have HS23 := Lib.hid s23
  have HS24 := Lib.hid s24
  have HA22 := Lib.hid a22
  have HA23 := Lib.hid a23
  have HA24 := Lib.hid a24
  have hsz : m.cells.toArray.size = 25 := rfl
  have HSZ := Lib.hid hsz
  have HVN := Lib.hid hm.vt
  have HR0 := Lib.hid (range_vt M0)
  have HM0 := Lib.hid M0
  have HW := Lib.hid hW
  obtain ⟨g, hg⟩ : ∃ g, g = w.heap.size := ⟨_, rfl⟩
  rw [← hg] at HM0 HR0 ⊢
  have HG := Lib.hid hg
  have OV := Lib.hid (over_vt m)
  have ONE := Lib.hid (Vt.one m.vt)
  have OZ := Lib.hid (over_zero m)
  have ONM := Lib.hid (Mg.one m)
  clear s22 s23 s24 a22 a23 a24 M0 hW hg ec hsz hm
  simp only [Mg.cells, Vz] at HW ⊢
  go_enter Tryd.func57, Tryd.ntmps57
  go_upto_region 1 with fail
  have eA : (#[.int .u8 m.k, .int .u8 m.f, .int .u8 m.t, .int .u8 m.e, .int .u32 m.vw, .int .u32 m.sq, .int .u8 m.rq.c, .int .u32 m.rq.t, .int .u8 m.rq.k, .int .u8 m.rq.y, .int .u16 m.rq.v, .int .u64 m.ro, .int .u8 m.ct, .int .u8 m.pg, .int .u32 m.rs, .int .u8 m.vt.f, .int .u8 m.vt.e, .int .u32 m.vt.vw, .int .u32 m.vt.lo, .slice m.vt.ms.a m.vt.ms.n m.vt.ms.c, .slice m.vt.p.a m.vt.p.n m.vt.p.c, .slice m.vt.q.a m.vt.q.n m.vt.q.c, .slice m.vs.a m.vs.n m.vs.c, .slice m.sm.a m.sm.n m.sm.c, .slice m.dt.a m.dt.n m.dt.c] : Array Value) = m.cells.toArray := rfl
  rw [← HW.out, ← HG.out, eA]
  clear eA HW
  -- the vote
  go_wp2_with (first | (refine wpList_load_mid rfl 32 (.tmp 5) rfl g 15 rfl m.vt.cells _ HR0.out Tryd.underlying32 rfl size32d ?_; refine Hid.out ?_) | go_in)
  refine Lib.hid ?_
  clear HR0
  go_wp2_with fail
  refine Calls.mono (copyVoteNil W m.vt HVN.out) ?_
  rintro e w1 ⟨rfl, hb⟩
  have M1 := HM0.out.call hb
  have HTH := Lib.hid (show w1.there g 15 7 from there_part (there_row M1.box HSZ.out) (by omega))
  have M2 := M1.sets 15 m.vt.cells OV.out
  have HM2 := Lib.hid M2
  clear hb M1 M2 HM0 HVN
  go_wp2_with (first | (refine wpList_store_mid rfl 32 (.tmp 8) (.tmp 7) rfl g 15 m.vt.cells.toArray rfl rfl HTH.out size32d (all_oneCell_toArray ONE.out) ?_; refine Hid.out ?_) | go_in)
  refine Lib.hid ?_
  clear HTH
  generalize w1.setCells g 15 m.vt.cells = W2 at *
  have q22 := (HM2.out.cell 22).trans HA22.out
  have z22 := HM2.out.free 22
  go_wp2_with fail
  refine Calls.mono (clone91_none _) ?_
  rintro e w3 ⟨rfl, rfl⟩
  go_upto_region 3 with fail
  have M3 := HM2.out.set 22 (.slice none 0 0) HS22.out
  generalize w3.setCell ⟨g, 22, none⟩ (.slice none 0 0) = W3 at *
  have HM3 := Lib.hid M3
  clear HM2 M3 q22 z22
  have q22 := (HM3.out.cell 22).trans HA22.out
  have q23 := (HM3.out.cell 23).trans HA23.out
  have z23 := HM3.out.free 23
  go_wp2_with fail
  go_loopw [16] (fun vi wr => vi = .int .i64 0 ∧ wr = W3) (fun _ _ => 0)
  case atStart => exact ⟨rfl, rfl⟩
  case round =>
    obtain ⟨rfl, rfl⟩ := hrel
    go_wp2_with fail
    refine Calls.mono (clone92_none _) ?_
    rintro e w4 ⟨rfl, rfl⟩
    go_upto_region 9 with fail
    have M4 := HM3.out.set 23 (.slice none 0 0) HS23.out
    generalize w4.setCell ⟨g, 23, none⟩ (.slice none 0 0) = W4 at *
    have HM4 := Lib.hid M4
    clear HM3 M4 q22 q23 z23
    have q24 := (HM4.out.cell 24).trans HA24.out
    have z24 := HM4.out.free 24
    go_wp2_with fail
    refine Calls.mono (clone93_none _) ?_
    rintro e w5 ⟨rfl, rfl⟩
    go_upto_region 10 with fail
    have M5 := HM4.out.set 24 (.slice none 0 0) HS24.out
    generalize w5.setCell ⟨g, 24, none⟩ (.slice none 0 0) = W5 at *
    clear HM4 q24 z24
    have hth : W5.there (g + 1) 0 25 := there_row M5.res rfl
    obtain ⟨W7, hW7⟩ : ∃ W7, W7 = W5.setCells (g + 1) 0 m.cells := ⟨_, rfl⟩
    have hk7 : Kept (fun k => k = g + 1) W5 W7 := by rw [hW7]; exact kept_setCells
    have hb7 : W7.heap[g + 1]? = some (.cells m.cells.toArray 37 (0, 0)) := by rw [hW7, setCells_block _ 37 _ _ _ _ M5.res, OZ.out]
    have hbel : Below g w W7 := M5.bel.trans (hk7.below (by have := lt_of_block M5.res; omega) (fun k e => by omega))
    have HB7 := Lib.hid hb7
    have HBL := Lib.hid hbel
    have HW7 := Lib.hid hW7
    have HTH := Lib.hid hth
    have HBX := Lib.hid M5.box
    clear hk7 hb7 hbel hth M5 hW7
    refine wp_region_lit ?_
    refine wpList_load_row rfl 37 (.tmp 1) rfl g rfl 37 _ (0, 0) _ HBX.out Tryd.underlying37 rfl size37 ?_
    refine wpList_store_mid rfl 37 (.tmp 2) (.tmp 36) rfl (g + 1) 0 m.cells.toArray rfl rfl HTH.out size37 (all_oneCell_toArray ONM.out) ?_
    dsimp only
    rw [← HW7.out]
    go_wp2_with fail
    (try simp only [Exit.inBlock, Exit.then])
    refine bodyPost_ret (results_cell_row (P := Tryd.prog) rfl _ _ (g + 1) 37 _ (0, 0) _ rfl HB7.out Tryd.underlying37 rfl size37) rfl ?_
    exact ⟨rfl, HBL.out⟩
end Go.Proofs.YtmkeckablkccnaaDoor
