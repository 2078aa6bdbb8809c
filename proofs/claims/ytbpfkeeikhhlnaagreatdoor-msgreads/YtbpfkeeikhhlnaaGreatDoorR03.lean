/- A part of a message is read. Requests, votes within a message are read. Whatever part is read; what is read is in range. The document's getReq: the same request that the program's source reads. Rows of structs that a call makes: append of a row onto one's own row; copies of rows. -/
import Derived.Test.YtbpfkeeikhhlnaaGreatDoorC07
import Derived.Test.YtbpfkeeikhhlnaaGreatDoorR02
import Derived.Test.YtbpfkeeikhhlnaaGreatDoorR01
import Derived.Deep.RegionHeld3
import Derived.Laws.MakeOwn
import Derived.Deep.MidRow
namespace Go.Proofs.YtbpfkeeikhhlnaaGreatDoor
open Go.RowKit
set_option maxRecDepth 100000

/-- a part is read -/
def pPart (p : Int) (x : Mq) (s : Sr) : Mq × Sr :=
  if p = 0 then ({ x with w := { x.w with vw := (p32 s).1 } }, (p32 s).2)
  else if p = 1 then ({ x with w := { x.w with sq := (p32 s).1 } }, (p32 s).2)
  else if p = 2 then ({ x with w := { x.w with rq := (pRq s).1 } }, (pRq s).2)
  else if p = 3 then ({ x with w := { x.w with ro := (p64 s).1 } }, (p64 s).2)
  else if p = 4 then ({ x with w := { x.w with ct := (p8 s).1 } }, (p8 s).2)
  else if p = 5 then ({ x with w := { x.w with pg := (p8 s).1 } }, (p8 s).2)
  else if p = 6 then ({ x with w := { x.w with rs := (p32 s).1 } }, (p32 s).2)
  else if p = 7 then ({ x with vt := (pVt s).1 }, (pVt s).2)
  else if p = 8 then ({ x with vs := (pL pVt (p8 s).1.toNat 4 (p8 s).2).1 }, (pL pVt (p8 s).1.toNat 4 (p8 s).2).2)
  else if p = 9 then ({ x with sm := (pL p64 8 8 s).1 }, (pL p64 8 8 s).2)
  else ({ x with dt := (pDt s).1 }, (pDt s).2)

theorem one_put (w : World) (M o : Nat) (v : Value) : w.setCell ⟨M, o, none⟩ v = w.setCells M o [v] := rfl
set_option maxHeartbeats 4000000 in
theorem read0 (w : World) (S R M : Nat) (s : Sr) (m : Mg) (c : Mc) (x : Mq) (h : Sat w S R s) (hm : MqAt w M m c x) (hS : S < M) (hR : R < M) :
    Calls Tryz.prog 60 #[.pointer (some ⟨S, 0, none⟩), .pointer (some ⟨M, 0, none⟩), .int .u8 0] w fun e w' => e = .returned (.tuple #[]) ∧ ∃ m' c', MqAt w' M m' c' (pPart 0 x s).1 ∧ Sat w' S R (pPart 0 x s).2 ∧ Kept (SRM S R M) w w' := by
  obtain ⟨W, hW⟩ : ∃ W, W = w.alloc (.cells #[.pointer (some ⟨S, 0, none⟩)] 90) := ⟨_, rfl⟩
  have hbl := bl1 hW
  have q : W.cell? ⟨w.heap.size, 0, none⟩ = some (.pointer (some ⟨S, 0, none⟩)) := by rw [hW, cell_of_row _ _ _ _ _ _ (heap_alloc_new _ _)]; rfl
  have HS := Lib.hid (h.on hbl)
  have HM := Lib.hid (hm.below hbl)
  have HBL := Lib.hid hbl
  have HLS := Lib.hid hS
  have HLR := Lib.hid hR
  have HLM := Lib.hid (lt_of_block hm.box)
  have HW := Lib.hid hW
  have hmf : ∀ (fn : Fn) (first cap : Array Value) (w : World), (Instr.makeFunc fn first cap).run Tryz.prog w = .ok (.func fn first cap) w := fun _ _ _ _ => rfl
  have HP : Hid (pPart 0 x s = ({ x with w := { x.w with vw := (p32 s).1 } }, (p32 s).2)) := Lib.hid rfl
  have C := s32 W S R s HS.out
  have CH := Lib.hid C
  clear h hm hbl hW hS hR C
  go_enter Tryz.func60, Tryz.ntmps60
  go_upto_region 1 with fail
  rw [← HW.out]
  clear HW
  go_wp2_with fail
  refine Calls.mono CH.out ?_
  rintro e w1 ⟨rfl, h, k⟩
  have hm1 := HM.out.call k HLS.out HLR.out
  have hc := hm1.cell 4
  have hz := hm1.free 4
  simp only [Mg.cells] at hc
  have HM1 := Lib.hid hm1
  have HS1 := Lib.hid h
  have HK := Lib.hid k
  clear h k hm1 HM HS CH
  go_wp2_with fail
  go_end0
  refine ⟨rfl, ?_⟩
  rw [HP.out, one_put]
  refine ⟨{ m with vw := (p32 s).1 }, c, HM1.out.put ⟨HM1.out.dat.vt, HM1.out.dat.vs, HM1.out.dat.sm, HM1.out.dat.dt⟩ HM1.out.new (by simp [over, Mg.cells]) (by rw [← HM1.out.wd]) HM1.out.vt HM1.out.vs HM1.out.sm HM1.out.dt, HS1.out.put HLS.out HLR.out, Kept.put HBL.out HK.out⟩

set_option maxHeartbeats 4000000 in
theorem read1 (w : World) (S R M : Nat) (s : Sr) (m : Mg) (c : Mc) (x : Mq) (h : Sat w S R s) (hm : MqAt w M m c x) (hS : S < M) (hR : R < M) :
    Calls Tryz.prog 60 #[.pointer (some ⟨S, 0, none⟩), .pointer (some ⟨M, 0, none⟩), .int .u8 1] w fun e w' => e = .returned (.tuple #[]) ∧ ∃ m' c', MqAt w' M m' c' (pPart 1 x s).1 ∧ Sat w' S R (pPart 1 x s).2 ∧ Kept (SRM S R M) w w' := by
  obtain ⟨W, hW⟩ : ∃ W, W = w.alloc (.cells #[.pointer (some ⟨S, 0, none⟩)] 90) := ⟨_, rfl⟩
  have hbl := bl1 hW
  have q : W.cell? ⟨w.heap.size, 0, none⟩ = some (.pointer (some ⟨S, 0, none⟩)) := by rw [hW, cell_of_row _ _ _ _ _ _ (heap_alloc_new _ _)]; rfl
  have HS := Lib.hid (h.on hbl)
  have HM := Lib.hid (hm.below hbl)
  have HBL := Lib.hid hbl
  have HLS := Lib.hid hS
  have HLR := Lib.hid hR
  have HLM := Lib.hid (lt_of_block hm.box)
  have HW := Lib.hid hW
  have hmf : ∀ (fn : Fn) (first cap : Array Value) (w : World), (Instr.makeFunc fn first cap).run Tryz.prog w = .ok (.func fn first cap) w := fun _ _ _ _ => rfl
  have HP : Hid (pPart 1 x s = ({ x with w := { x.w with sq := (p32 s).1 } }, (p32 s).2)) := Lib.hid rfl
  have C := s32 W S R s HS.out
  have CH := Lib.hid C
  clear h hm hbl hW hS hR C
  go_enter Tryz.func60, Tryz.ntmps60
  go_upto_region 1 with fail
  rw [← HW.out]
  clear HW
  go_wp2_with fail
  refine Calls.mono CH.out ?_
  rintro e w1 ⟨rfl, h, k⟩
  have hm1 := HM.out.call k HLS.out HLR.out
  have hc := hm1.cell 5
  have hz := hm1.free 5
  simp only [Mg.cells] at hc
  have HM1 := Lib.hid hm1
  have HS1 := Lib.hid h
  have HK := Lib.hid k
  clear h k hm1 HM HS CH
  go_wp2_with fail
  go_end0
  refine ⟨rfl, ?_⟩
  rw [HP.out, one_put]
  refine ⟨{ m with sq := (p32 s).1 }, c, HM1.out.put ⟨HM1.out.dat.vt, HM1.out.dat.vs, HM1.out.dat.sm, HM1.out.dat.dt⟩ HM1.out.new (by simp [over, Mg.cells]) (by rw [← HM1.out.wd]) HM1.out.vt HM1.out.vs HM1.out.sm HM1.out.dt, HS1.out.put HLS.out HLR.out, Kept.put HBL.out HK.out⟩

set_option maxHeartbeats 4000000 in
theorem read3 (w : World) (S R M : Nat) (s : Sr) (m : Mg) (c : Mc) (x : Mq) (h : Sat w S R s) (hm : MqAt w M m c x) (hS : S < M) (hR : R < M) :
    Calls Tryz.prog 60 #[.pointer (some ⟨S, 0, none⟩), .pointer (some ⟨M, 0, none⟩), .int .u8 3] w fun e w' => e = .returned (.tuple #[]) ∧ ∃ m' c', MqAt w' M m' c' (pPart 3 x s).1 ∧ Sat w' S R (pPart 3 x s).2 ∧ Kept (SRM S R M) w w' := by
  obtain ⟨W, hW⟩ : ∃ W, W = w.alloc (.cells #[.pointer (some ⟨S, 0, none⟩)] 90) := ⟨_, rfl⟩
  have hbl := bl1 hW
  have q : W.cell? ⟨w.heap.size, 0, none⟩ = some (.pointer (some ⟨S, 0, none⟩)) := by rw [hW, cell_of_row _ _ _ _ _ _ (heap_alloc_new _ _)]; rfl
  have HS := Lib.hid (h.on hbl)
  have HM := Lib.hid (hm.below hbl)
  have HBL := Lib.hid hbl
  have HLS := Lib.hid hS
  have HLR := Lib.hid hR
  have HLM := Lib.hid (lt_of_block hm.box)
  have HW := Lib.hid hW
  have hmf : ∀ (fn : Fn) (first cap : Array Value) (w : World), (Instr.makeFunc fn first cap).run Tryz.prog w = .ok (.func fn first cap) w := fun _ _ _ _ => rfl
  have HP : Hid (pPart 3 x s = ({ x with w := { x.w with ro := (p64 s).1 } }, (p64 s).2)) := Lib.hid rfl
  have C := s64 W S R s HS.out
  have CH := Lib.hid C
  clear h hm hbl hW hS hR C
  go_enter Tryz.func60, Tryz.ntmps60
  go_upto_region 1 with fail
  rw [← HW.out]
  clear HW
  go_wp2_with fail
  refine Calls.mono CH.out ?_
  rintro e w1 ⟨rfl, h, k⟩
  have hm1 := HM.out.call k HLS.out HLR.out
  have hc := hm1.cell 11
  have hz := hm1.free 11
  simp only [Mg.cells] at hc
  have HM1 := Lib.hid hm1
  have HS1 := Lib.hid h
  have HK := Lib.hid k
  clear h k hm1 HM HS CH
  go_wp2_with fail
  go_end0
  refine ⟨rfl, ?_⟩
  rw [HP.out, one_put]
  refine ⟨{ m with ro := (p64 s).1 }, c, HM1.out.put ⟨HM1.out.dat.vt, HM1.out.dat.vs, HM1.out.dat.sm, HM1.out.dat.dt⟩ HM1.out.new (by simp [over, Mg.cells]) (by rw [← HM1.out.wd]) HM1.out.vt HM1.out.vs HM1.out.sm HM1.out.dt, HS1.out.put HLS.out HLR.out, Kept.put HBL.out HK.out⟩

set_option maxHeartbeats 4000000 in
theorem read4p (w : World) (S R M : Nat) (s : Sr) (m : Mg) (c : Mc) (x : Mq) (h : Sat w S R s) (hm : MqAt w M m c x) (hS : S < M) (hR : R < M) :
    Calls Tryz.prog 60 #[.pointer (some ⟨S, 0, none⟩), .pointer (some ⟨M, 0, none⟩), .int .u8 4] w fun e w' => e = .returned (.tuple #[]) ∧ ∃ m' c', MqAt w' M m' c' (pPart 4 x s).1 ∧ Sat w' S R (pPart 4 x s).2 ∧ Kept (SRM S R M) w w' := by
  obtain ⟨W, hW⟩ : ∃ W, W = w.alloc (.cells #[.pointer (some ⟨S, 0, none⟩)] 90) := ⟨_, rfl⟩
  have hbl := bl1 hW
  have q : W.cell? ⟨w.heap.size, 0, none⟩ = some (.pointer (some ⟨S, 0, none⟩)) := by rw [hW, cell_of_row _ _ _ _ _ _ (heap_alloc_new _ _)]; rfl
  have HS := Lib.hid (h.on hbl)
  have HM := Lib.hid (hm.below hbl)
  have HBL := Lib.hid hbl
  have HLS := Lib.hid hS
  have HLR := Lib.hid hR
  have HLM := Lib.hid (lt_of_block hm.box)
  have HW := Lib.hid hW
  have hmf : ∀ (fn : Fn) (first cap : Array Value) (w : World), (Instr.makeFunc fn first cap).run Tryz.prog w = .ok (.func fn first cap) w := fun _ _ _ _ => rfl
  have HP : Hid (pPart 4 x s = ({ x with w := { x.w with ct := (p8 s).1 } }, (p8 s).2)) := Lib.hid rfl
  have C := s8 W S R s HS.out
  have CH := Lib.hid C
  clear h hm hbl hW hS hR C
  go_enter Tryz.func60, Tryz.ntmps60
  go_upto_region 1 with fail
  rw [← HW.out]
  clear HW
  go_wp2_with fail
  refine Calls.mono CH.out ?_
  rintro e w1 ⟨rfl, h, k⟩
  have hm1 := HM.out.call k HLS.out HLR.out
  have hc := hm1.cell 12
  have hz := hm1.free 12
  simp only [Mg.cells] at hc
  have HM1 := Lib.hid hm1
  have HS1 := Lib.hid h
  have HK := Lib.hid k
  clear h k hm1 HM HS CH
  go_wp2_with fail
  go_end0
  refine ⟨rfl, ?_⟩
  rw [HP.out, one_put]
  refine ⟨{ m with ct := (p8 s).1 }, c, HM1.out.put ⟨HM1.out.dat.vt, HM1.out.dat.vs, HM1.out.dat.sm, HM1.out.dat.dt⟩ HM1.out.new (by simp [over, Mg.cells]) (by rw [← HM1.out.wd]) HM1.out.vt HM1.out.vs HM1.out.sm HM1.out.dt, HS1.out.put HLS.out HLR.out, Kept.put HBL.out HK.out⟩

set_option maxHeartbeats 4000000 in
theorem read5 (w : World) (S R M : Nat) (s : Sr) (m : Mg) (c : Mc) (x : Mq) (h : Sat w S R s) (hm : MqAt w M m c x) (hS : S < M) (hR : R < M) :
    Calls Tryz.prog 60 #[.pointer (some ⟨S, 0, none⟩), .pointer (some ⟨M, 0, none⟩), .int .u8 5] w fun e w' => e = .returned (.tuple #[]) ∧ ∃ m' c', MqAt w' M m' c' (pPart 5 x s).1 ∧ Sat w' S R (pPart 5 x s).2 ∧ Kept (SRM S R M) w w' := by
  obtain ⟨W, hW⟩ : ∃ W, W = w.alloc (.cells #[.pointer (some ⟨S, 0, none⟩)] 90) := ⟨_, rfl⟩
  have hbl := bl1 hW
  have q : W.cell? ⟨w.heap.size, 0, none⟩ = some (.pointer (some ⟨S, 0, none⟩)) := by rw [hW, cell_of_row _ _ _ _ _ _ (heap_alloc_new _ _)]; rfl
  have HS := Lib.hid (h.on hbl)
  have HM := Lib.hid (hm.below hbl)
  have HBL := Lib.hid hbl
  have HLS := Lib.hid hS
  have HLR := Lib.hid hR
  have HLM := Lib.hid (lt_of_block hm.box)
  have HW := Lib.hid hW
  have hmf : ∀ (fn : Fn) (first cap : Array Value) (w : World), (Instr.makeFunc fn first cap).run Tryz.prog w = .ok (.func fn first cap) w := fun _ _ _ _ => rfl
  have HP : Hid (pPart 5 x s = ({ x with w := { x.w with pg := (p8 s).1 } }, (p8 s).2)) := Lib.hid rfl
  have C := s8 W S R s HS.out
  have CH := Lib.hid C
  clear h hm hbl hW hS hR C
  go_enter Tryz.func60, Tryz.ntmps60
  go_upto_region 1 with fail
  rw [← HW.out]
  clear HW
  go_wp2_with fail
  refine Calls.mono CH.out ?_
  rintro e w1 ⟨rfl, h, k⟩
  have hm1 := HM.out.call k HLS.out HLR.out
  have hc := hm1.cell 13
  have hz := hm1.free 13
  simp only [Mg.cells] at hc
  have HM1 := Lib.hid hm1
  have HS1 := Lib.hid h
  have HK := Lib.hid k
  clear h k hm1 HM HS CH
  go_wp2_with fail
  go_end0
  refine ⟨rfl, ?_⟩
  rw [HP.out, one_put]
  refine ⟨{ m with pg := (p8 s).1 }, c, HM1.out.put ⟨HM1.out.dat.vt, HM1.out.dat.vs, HM1.out.dat.sm, HM1.out.dat.dt⟩ HM1.out.new (by simp [over, Mg.cells]) (by rw [← HM1.out.wd]) HM1.out.vt HM1.out.vs HM1.out.sm HM1.out.dt, HS1.out.put HLS.out HLR.out, Kept.put HBL.out HK.out⟩

set_option maxHeartbeats 4000000 in
theorem read6 (w : World) (S R M : Nat) (s : Sr) (m : Mg) (c : Mc) (x : Mq) (h : Sat w S R s) (hm : MqAt w M m c x) (hS : S < M) (hR : R < M) :
    Calls Tryz.prog 60 #[.pointer (some ⟨S, 0, none⟩), .pointer (some ⟨M, 0, none⟩), .int .u8 6] w fun e w' => e = .returned (.tuple #[]) ∧ ∃ m' c', MqAt w' M m' c' (pPart 6 x s).1 ∧ Sat w' S R (pPart 6 x s).2 ∧ Kept (SRM S R M) w w' := by
  obtain ⟨W, hW⟩ : ∃ W, W = w.alloc (.cells #[.pointer (some ⟨S, 0, none⟩)] 90) := ⟨_, rfl⟩
  have hbl := bl1 hW
  have q : W.cell? ⟨w.heap.size, 0, none⟩ = some (.pointer (some ⟨S, 0, none⟩)) := by rw [hW, cell_of_row _ _ _ _ _ _ (heap_alloc_new _ _)]; rfl
  have HS := Lib.hid (h.on hbl)
  have HM := Lib.hid (hm.below hbl)
  have HBL := Lib.hid hbl
  have HLS := Lib.hid hS
  have HLR := Lib.hid hR
  have HLM := Lib.hid (lt_of_block hm.box)
  have HW := Lib.hid hW
  have hmf : ∀ (fn : Fn) (first cap : Array Value) (w : World), (Instr.makeFunc fn first cap).run Tryz.prog w = .ok (.func fn first cap) w := fun _ _ _ _ => rfl
  have HP : Hid (pPart 6 x s = ({ x with w := { x.w with rs := (p32 s).1 } }, (p32 s).2)) := Lib.hid rfl
  have C := s32 W S R s HS.out
  have CH := Lib.hid C
  clear h hm hbl hW hS hR C
  go_enter Tryz.func60, Tryz.ntmps60
  go_upto_region 1 with fail
  rw [← HW.out]
  clear HW
  go_wp2_with fail
  refine Calls.mono CH.out ?_
  rintro e w1 ⟨rfl, h, k⟩
  have hm1 := HM.out.call k HLS.out HLR.out
  have hc := hm1.cell 14
  have hz := hm1.free 14
  simp only [Mg.cells] at hc
  have HM1 := Lib.hid hm1
  have HS1 := Lib.hid h
  have HK := Lib.hid k
  clear h k hm1 HM HS CH
  go_wp2_with fail
  go_end0
  refine ⟨rfl, ?_⟩
  rw [HP.out, one_put]
  refine ⟨{ m with rs := (p32 s).1 }, c, HM1.out.put ⟨HM1.out.dat.vt, HM1.out.dat.vs, HM1.out.dat.sm, HM1.out.dat.dt⟩ HM1.out.new (by simp [over, Mg.cells]) (by rw [← HM1.out.wd]) HM1.out.vt HM1.out.vs HM1.out.sm HM1.out.dt, HS1.out.put HLS.out HLR.out, Kept.put HBL.out HK.out⟩

set_option maxHeartbeats 4000000 in
theorem read9 (w : World) (S R M : Nat) (s : Sr) (m : Mg) (c : Mc) (x : Mq) (h : Sat w S R s) (hm : MqAt w M m c x) (hS : S < M) (hR : R < M) :
    Calls Tryz.prog 60 #[.pointer (some ⟨S, 0, none⟩), .pointer (some ⟨M, 0, none⟩), .int .u8 9] w fun e w' => e = .returned (.tuple #[]) ∧ ∃ m' c', MqAt w' M m' c' (pPart 9 x s).1 ∧ Sat w' S R (pPart 9 x s).2 ∧ Kept (SRM S R M) w w' := by
  obtain ⟨W, hW⟩ : ∃ W, W = w.alloc (.cells #[.pointer (some ⟨S, 0, none⟩)] 90) := ⟨_, rfl⟩
  have hbl := bl1 hW
  have q : W.cell? ⟨w.heap.size, 0, none⟩ = some (.pointer (some ⟨S, 0, none⟩)) := by rw [hW, cell_of_row _ _ _ _ _ _ (heap_alloc_new _ _)]; rfl
  have HS := Lib.hid (h.on hbl)
  have HM := Lib.hid (hm.below hbl)
  have HBL := Lib.hid hbl
  have HLS := Lib.hid hS
  have HLR := Lib.hid hR
  have HLM := Lib.hid (lt_of_block hm.box)
  have HW := Lib.hid hW
  have hmf : ∀ (fn : Fn) (first cap : Array Value) (w : World), (Instr.makeFunc fn first cap).run Tryz.prog w = .ok (.func fn first cap) w := fun _ _ _ _ => rfl
  have HP : Hid (pPart 9 x s = ({ x with sm := (pL p64 8 8 s).1 }, (pL p64 8 8 s).2)) := Lib.hid rfl
  have C := listU64 W S R s HS.out 8 8 (by omega) (by omega)
  rw [show ((8 : Nat) : Int) = 8 from rfl] at C
  have CH := Lib.hid C
  clear h hm hbl hW hS hR C
  go_enter Tryz.func60, Tryz.ntmps60
  go_upto_region 1 with fail
  rw [← HW.out]
  clear HW
  go_wp2_with fail
  refine Calls.mono CH.out ?_
  rintro e w1 ⟨v, rfl, hrow, hnew, h, k⟩
  have hm1 := HM.out.call k HLS.out HLR.out
  have hc := hm1.cell 23
  have hz := hm1.free 23
  simp only [Mg.cells] at hc
  have HM1 := Lib.hid hm1
  have HS1 := Lib.hid h
  have HK := Lib.hid k
  have HRW := Lib.hid hrow
  have HNW := Lib.hid (show ∀ ad, v.a = some ad → M + 1 ≤ ad.block from fun ad e => by have := hnew ad e; have := HLM.out; have := HBL.out.size; omega)
  obtain ⟨va, vn, vc⟩ := v
  simp only at HRW HNW ⊢
  clear h k hm1 hrow hnew HM HS CH
  go_wp2_with fail
  go_end0
  refine ⟨rfl, ?_⟩
  rw [HP.out, one_put]
  refine ⟨{ m with sm := ⟨va, vn, vc⟩ }, { c with sm := (pL p64 8 8 s).1 }, HM1.out.put ⟨HM1.out.dat.vt, HM1.out.dat.vs, HRW.out, HM1.out.dat.dt⟩ ⟨HM1.out.new.1, HM1.out.new.2.1, HNW.out, HM1.out.new.2.2.2⟩ (by simp [over, Mg.cells]) HM1.out.wd HM1.out.vt HM1.out.vs rfl HM1.out.dt, HS1.out.put HLS.out HLR.out, Kept.put HBL.out HK.out⟩

set_option maxHeartbeats 4000000 in
theorem read10 (w : World) (S R M : Nat) (s : Sr) (m : Mg) (c : Mc) (x : Mq) (h : Sat w S R s) (hm : MqAt w M m c x) (hS : S < M) (hR : R < M) :
    Calls Tryz.prog 60 #[.pointer (some ⟨S, 0, none⟩), .pointer (some ⟨M, 0, none⟩), .int .u8 10] w fun e w' => e = .returned (.tuple #[]) ∧ ∃ m' c', MqAt w' M m' c' (pPart 10 x s).1 ∧ Sat w' S R (pPart 10 x s).2 ∧ Kept (SRM S R M) w w' := by
  obtain ⟨W, hW⟩ : ∃ W, W = w.alloc (.cells #[.pointer (some ⟨S, 0, none⟩)] 90) := ⟨_, rfl⟩
  have hbl := bl1 hW
  have q : W.cell? ⟨w.heap.size, 0, none⟩ = some (.pointer (some ⟨S, 0, none⟩)) := by rw [hW, cell_of_row _ _ _ _ _ _ (heap_alloc_new _ _)]; rfl
  have HS := Lib.hid (h.on hbl)
  have HM := Lib.hid (hm.below hbl)
  have HBL := Lib.hid hbl
  have HLS := Lib.hid hS
  have HLR := Lib.hid hR
  have HLM := Lib.hid (lt_of_block hm.box)
  have HW := Lib.hid hW
  have hmf : ∀ (fn : Fn) (first cap : Array Value) (w : World), (Instr.makeFunc fn first cap).run Tryz.prog w = .ok (.func fn first cap) w := fun _ _ _ _ => rfl
  have HP : Hid (pPart 10 x s = ({ x with dt := (pDt s).1 }, (pDt s).2)) := Lib.hid rfl
  have C := data_any W S R w.heap.size s HS.out q
  have CH := Lib.hid C
  clear h hm hbl hW hS hR C
  go_enter Tryz.func60, Tryz.ntmps60
  go_upto_region 1 with fail
  rw [← HW.out]
  clear HW
  go_wp2_with fail
  refine Calls.mono CH.out ?_
  rintro e w1 ⟨v, rfl, hrow, hnew, h, k⟩
  have hm1 := HM.out.call k HLS.out HLR.out
  have hc := hm1.cell 24
  have hz := hm1.free 24
  simp only [Mg.cells] at hc
  have HM1 := Lib.hid hm1
  have HS1 := Lib.hid h
  have HK := Lib.hid k
  have HRW := Lib.hid hrow
  have HNW := Lib.hid (show ∀ ad, v.a = some ad → M + 1 ≤ ad.block from fun ad e => by have := hnew ad e; have := HLM.out; have := HBL.out.size; omega)
  obtain ⟨va, vn, vc⟩ := v
  simp only at HRW HNW ⊢
  clear h k hm1 hrow hnew HM HS CH
  go_wp2_with fail
  go_end0
  refine ⟨rfl, ?_⟩
  rw [HP.out, one_put]
  refine ⟨{ m with dt := ⟨va, vn, vc⟩ }, { c with dt := (pDt s).1 }, HM1.out.put ⟨HM1.out.dat.vt, HM1.out.dat.vs, HM1.out.dat.sm, HRW.out⟩ ⟨HM1.out.new.1, HM1.out.new.2.1, HM1.out.new.2.2.1, HNW.out⟩ (by simp [over, Mg.cells]) HM1.out.wd HM1.out.vt HM1.out.vs HM1.out.sm rfl, HS1.out.put HLS.out HLR.out, Kept.put HBL.out HK.out⟩

set_option maxHeartbeats 4000000 in
theorem read2 (w : World) (S R M : Nat) (s : Sr) (m : Mg) (c : Mc) (x : Mq) (h : Sat w S R s) (hm : MqAt w M m c x) (hS : S < M) (hR : R < M) :
    Calls Tryz.prog 60 #[.pointer (some ⟨S, 0, none⟩), .pointer (some ⟨M, 0, none⟩), .int .u8 2] w fun e w' => e = .returned (.tuple #[]) ∧ ∃ m' c', MqAt w' M m' c' (pPart 2 x s).1 ∧ Sat w' S R (pPart 2 x s).2 ∧ Kept (SRM S R M) w w' := by
  obtain ⟨W, hW⟩ : ∃ W, W = w.alloc (.cells #[.pointer (some ⟨S, 0, none⟩)] 90) := ⟨_, rfl⟩
  have hbl := bl1 hW
  have q : W.cell? ⟨w.heap.size, 0, none⟩ = some (.pointer (some ⟨S, 0, none⟩)) := by rw [hW, cell_of_row _ _ _ _ _ _ (heap_alloc_new _ _)]; rfl
  have HS := Lib.hid (h.on hbl)
  have HM := Lib.hid (hm.below hbl)
  have HBL := Lib.hid hbl
  have HLS := Lib.hid hS
  have HLR := Lib.hid hR
  have HLM := Lib.hid (lt_of_block hm.box)
  have HW := Lib.hid hW
  have hmf : ∀ (fn : Fn) (first cap : Array Value) (w : World), (Instr.makeFunc fn first cap).run Tryz.prog w = .ok (.func fn first cap) w := fun _ _ _ _ => rfl
  have HP : Hid (pPart 2 x s = ({ x with w := { x.w with rq := (pRq s).1 } }, (pRq s).2)) := Lib.hid rfl
  have C := req_any W S R s HS.out
  have CH := Lib.hid C
  clear h hm hbl hW hS hR C
  go_enter Tryz.func60, Tryz.ntmps60
  go_upto_region 1 with fail
  rw [← HW.out]
  clear HW
  go_wp2_with fail
  refine Calls.mono CH.out ?_
  rintro e w1 ⟨rfl, h, k⟩
  have hm1 := HM.out.call k HLS.out HLR.out
  have hc := hm1.cell 6
  have hz := hm1.free 6
  simp only [Mg.cells] at hc
  have HM1 := Lib.hid hm1
  have HS1 := Lib.hid h
  have HK := Lib.hid k
  clear h k hm1 HM HS CH
  have HTH := Lib.hid (HM1.out.there 6 5 (by omega))
  go_wp2_with (first | (refine wpList_store_mid rfl 27 (.tmp 27) (.tmp 25) rfl M 6 (pRq s).1.cells.toArray rfl rfl HTH.out size27 (all_oneCell_toArray (Rq.one _)) ?_; refine Hid.out ?_) | go_in)
  refine Lib.hid ?_
  have HW9 := Lib.hid (show w1.setCells M 6 (pRq s).1.cells = w1.setCells M 6 (pRq s).1.cells from rfl)
  obtain ⟨w9, hw9⟩ : ∃ w9, w9 = w1.setCells M 6 (pRq s).1.cells := ⟨_, rfl⟩
  rw [← hw9]
  have HE := Lib.hid hw9
  clear hw9 HW9 HTH
  go_wp2_with fail
  go_end0
  refine ⟨rfl, ?_⟩
  rw [HP.out, HE.out]
  refine ⟨{ m with rq := (pRq s).1 }, c, HM1.out.put ⟨HM1.out.dat.vt, HM1.out.dat.vs, HM1.out.dat.sm, HM1.out.dat.dt⟩ HM1.out.new (by simp [over, Mg.cells, Rq.cells]) (by rw [← HM1.out.wd]) HM1.out.vt HM1.out.vs HM1.out.sm HM1.out.dt, HS1.out.put HLS.out HLR.out, Kept.put HBL.out HK.out⟩

set_option maxHeartbeats 4000000 in
theorem read7 (w : World) (S R M : Nat) (s : Sr) (m : Mg) (c : Mc) (x : Mq) (h : Sat w S R s) (hm : MqAt w M m c x) (hS : S < M) (hR : R < M) :
    Calls Tryz.prog 60 #[.pointer (some ⟨S, 0, none⟩), .pointer (some ⟨M, 0, none⟩), .int .u8 7] w fun e w' => e = .returned (.tuple #[]) ∧ ∃ m' c', MqAt w' M m' c' (pPart 7 x s).1 ∧ Sat w' S R (pPart 7 x s).2 ∧ Kept (SRM S R M) w w' := by
  obtain ⟨W, hW⟩ : ∃ W, W = w.alloc (.cells #[.pointer (some ⟨S, 0, none⟩)] 90) := ⟨_, rfl⟩
  have hbl := bl1 hW
  have q : W.cell? ⟨w.heap.size, 0, none⟩ = some (.pointer (some ⟨S, 0, none⟩)) := by rw [hW, cell_of_row _ _ _ _ _ _ (heap_alloc_new _ _)]; rfl
  have HS := Lib.hid (h.on hbl)
  have HM := Lib.hid (hm.below hbl)
  have HBL := Lib.hid hbl
  have HLS := Lib.hid hS
  have HLR := Lib.hid hR
  have HLM := Lib.hid (lt_of_block hm.box)
  have HW := Lib.hid hW
  have hmf : ∀ (fn : Fn) (first cap : Array Value) (w : World), (Instr.makeFunc fn first cap).run Tryz.prog w = .ok (.func fn first cap) w := fun _ _ _ _ => rfl
  have HP : Hid (pPart 7 x s = ({ x with vt := (pVt s).1 }, (pVt s).2)) := Lib.hid rfl
  have C := vote_any W S R s HS.out
  have CH := Lib.hid C
  clear h hm hbl hW hS hR C
  go_enter Tryz.func60, Tryz.ntmps60
  go_upto_region 1 with fail
  rw [← HW.out]
  clear HW
  go_wp2_with fail
  refine Calls.mono CH.out ?_
  rintro e w1 ⟨v, rfl, hvw, hva, hvn, h, k⟩
  have hm1 := HM.out.call k HLS.out HLR.out
  have hc := hm1.cell 15
  have hz := hm1.free 15
  simp only [Mg.cells] at hc
  have HM1 := Lib.hid hm1
  have HS1 := Lib.hid h
  have HK := Lib.hid k
  have HVW := Lib.hid hvw
  have HVA := Lib.hid hva
  have HVN := Lib.hid (show NewV (M + 1) v from ⟨fun ad e => by have := hvn.1 ad e; have := HLM.out; have := HBL.out.size; omega, fun ad e => by have := hvn.2.1 ad e; have := HLM.out; have := HBL.out.size; omega, fun ad e => by have := hvn.2.2 ad e; have := HLM.out; have := HBL.out.size; omega⟩)
  clear h k hm1 hvw hva hvn HM HS CH
  have HTH := Lib.hid (HM1.out.there 15 7 (by omega))
  go_wp2_with (first | (refine wpList_store_mid rfl 32 (.tmp 62) (.tmp 60) rfl M 15 v.cells.toArray rfl rfl HTH.out size32' (all_oneCell_toArray (Vt.one v)) ?_; refine Hid.out ?_) | go_in)
  refine Lib.hid ?_
  have HW9 := Lib.hid (show w1.setCells M 15 v.cells = w1.setCells M 15 v.cells from rfl)
  obtain ⟨w9, hw9⟩ : ∃ w9, w9 = w1.setCells M 15 v.cells := ⟨_, rfl⟩
  rw [← hw9]
  have HE := Lib.hid hw9
  clear hw9 HW9 HTH
  go_wp2_with fail
  go_end0
  refine ⟨rfl, ?_⟩
  rw [HP.out, HE.out]
  refine ⟨{ m with vt := v }, { c with vt := (pVt s).1.c }, HM1.out.put ⟨HVA.out, HM1.out.dat.vs, HM1.out.dat.sm, HM1.out.dat.dt⟩ ⟨HVN.out, HM1.out.new.2.1, HM1.out.new.2.2.1, HM1.out.new.2.2.2⟩ (by simp [over, Mg.cells, Vt.cells]) HM1.out.wd (by simp only [toVp]; obtain ⟨e1, e2, e3, e4⟩ := HVW.out; rw [e1, e2, e3, e4]) HM1.out.vs HM1.out.sm HM1.out.dt, HS1.out.put HLS.out HLR.out, Kept.put HBL.out HK.out⟩

theorem ptr_load {w' : World} {g S : Nat} (h : w'.cell? ⟨g, 0, none⟩ = some (.pointer (some ⟨S, 0, none⟩))) : (Instr.loadAt 90 (.pointer (some ⟨g, 0, none⟩))).run Tryz.prog w' = .ok (.pointer (some ⟨S, 0, none⟩)) w' := by go_simp
theorem wp_st {ty : TypeId} {p v : Value} {w w1 : World} {o : Oper} {a : Act} {ox oy : Operand} {K : Act → World → Prop} {Q : Exit → Act → World → Prop} (h : (Instr.storeAt ty p v).run Tryz.prog w = .ok () w1) (hop : o.op = Op.store ty ox oy) (hx : a.eval ox = p) (hy : a.eval oy = v) (hd : o.dst = none) (hk : K a w1) : Oper.wp Tryz.prog o a w K Q := by
  have e : (execOp a.eval o).run Tryz.prog w = .ok .skip w1 := by
    unfold execOp
    simp [hop, hx, hy, h, Result.andThen]
  unfold Oper.wp
  rw [e, Oper.upon_skip, hd]
  exact hk
theorem cell_sr {w w' : World} {S R g : Nat} {v : Value} (k : Kept (SR S R) w w') (hS : g ≠ S) (hR : g ≠ R) (hc : w.cell? ⟨g, 0, none⟩ = some v) : w'.cell? ⟨g, 0, none⟩ = some v := by
  rw [← hc]
  exact World.cell?_of_block (k.block g (cell_block hc) (fun e => by rcases e with e | e; exact hS e; exact hR e))
set_option maxHeartbeats 8000000 in
theorem read8 (w : World) (S R M : Nat) (s : Sr) (m : Mg) (c : Mc) (x : Mq) (h : Sat w S R s) (hm : MqAt w M m c x) (hS : S < M) (hR : R < M) :
    Calls Tryz.prog 60 #[.pointer (some ⟨S, 0, none⟩), .pointer (some ⟨M, 0, none⟩), .int .u8 8] w fun e w' => e = .returned (.tuple #[]) ∧ ∃ m' c', MqAt w' M m' c' (pPart 8 x s).1 ∧ Sat w' S R (pPart 8 x s).2 ∧ Kept (SRM S R M) w w' := by
  obtain ⟨W, hW⟩ : ∃ W, W = w.alloc (.cells #[.pointer (some ⟨S, 0, none⟩)] 90) := ⟨_, rfl⟩
  have hbl := bl1 hW
  have q : W.cell? ⟨w.heap.size, 0, none⟩ = some (.pointer (some ⟨S, 0, none⟩)) := by rw [hW, cell_of_row _ _ _ _ _ _ (heap_alloc_new _ _)]; rfl
  have hsd := (h.on hbl).drew
  have HM := Lib.hid ((hm.below hbl).below ((Below.refl W.heap.size W).drew))
  have HBL := Lib.hid (hbl.drew)
  have HLS := Lib.hid hS
  have HLR := Lib.hid hR
  have HLM := Lib.hid (lt_of_block hm.box)
  have HW := Lib.hid hW
  have hmf : ∀ (fn : Fn) (first cap : Array Value) (w : World), (Instr.makeFunc fn first cap).run Tryz.prog w = .ok (.func fn first cap) w := fun _ _ _ _ => rfl
  obtain ⟨n, hn⟩ : ∃ n, n = p8 s := ⟨_, rfl⟩
  obtain ⟨z, hz⟩ : ∃ z, z = pL pVt n.1.toNat 4 n.2 := ⟨_, rfl⟩
  have HP : Hid (pPart 8 x s = ({ x with vs := z.1 }, z.2)) := Lib.hid (by rw [hz, hn]; rfl)
  have C1 := s8 W.drew S R s hsd
  have rn := p8_range hsd
  rw [← hn] at C1 rn
  have CH1 := Lib.hid C1
  have C2 := fun w1 (h1 : Sat w1 S R n.2) => listVt w1 S R n.2 h1 n.1.toNat 4 (by omega) (by omega)
  rw [← hz, show ((n.1.toNat : Nat) : Int) = n.1 from by omega, show ((4 : Nat) : Int) = 4 from rfl] at C2
  have CH2 := Lib.hid C2
  have HGS := Lib.hid (show w.heap.size ≠ S by have := h.lt; omega)
  have HGR := Lib.hid (show w.heap.size ≠ R by have := h.lt; omega)
  obtain ⟨gx, hgx⟩ : ∃ g, g = w.heap.size := ⟨_, rfl⟩
  rw [← hgx] at q HGS HGR
  have HGX := Lib.hid hgx
  have Q := Lib.hid q
  clear h hm hbl hW hS hR C1 C2 hsd hn hz hgx
  go_enter Tryz.func60, Tryz.ntmps60
  go_upto_region 1 with fail
  rw [← HW.out, ← HGX.out]
  clear HW
  go_wp2_with fail
  have hWd := (show W.drew.cell? ⟨gx, 0, none⟩ = some (.pointer (some ⟨S, 0, none⟩)) from Q.out)
  refine wp_region_held_drew (S := fun w' => w'.cell? ⟨gx, 0, none⟩ = some (.pointer (some ⟨S, 0, none⟩))) (by kernel_rfl) hWd (fun hS => ?_)
  clear hWd q
  refine tm 0 (.pointer (some ⟨M, 0, none⟩)) rfl hS ?_
  refine tk 1 (.pointer (some ⟨S, 0, none⟩)) rfl (yi_load 90 (.tmp 3) _ rfl rfl rfl (fun w' h => ptr_load h)) hS ?_
  refine tk 2 (.pointer (some ⟨S, 0, none⟩)) rfl (yi_load 90 (.tmp 3) _ rfl rfl rfl (fun w' h => ptr_load h)) hS ?_
  refine tk 5 (.pointer (some ⟨S, 0, none⟩)) rfl (yi_load 90 (.tmp 3) _ rfl rfl rfl (fun w' h => ptr_load h)) hS ?_
  refine tg 6 (.func (.func 87) #[.pointer (some ⟨S, 0, none⟩)] #[]) rfl hS ?_
  refine rdy1 3 rfl (fun K hK => ?_)
  rw [if_pos (by rfl)]
  go_simp
  refine Calls.mono (CH1.out) ?_
  rintro e w1 ⟨rfl, h1, hb⟩
  have k1 := hb
  refine hK.out _ w1 ((fun h hb => cell_sr hb HGS.out HGR.out h) hS hb) (fun hS => ?_)
  clear hK K hb
  have C3 := Lib.hid (CH2.out w1 h1)
  have K1 := Lib.hid k1
  clear h1 k1
  refine tk 4 (.int .i64 n.1) rfl (.inl ⟨rfl, fun w' _ => by go_simp; rw [IntKind.wrap_i64]; omega⟩) hS ?_
  refine rdy1 7 rfl (fun K hK => ?_)
  rw [if_pos (by rfl)]
  go_simp
  refine Calls.mono (C3.out) ?_
  rintro e w2 ⟨v, vl, rfl, hva, hvp, hvn, h2, hb⟩
  have k2 := hb
  refine hK.out _ w2 ((fun h hb => cell_sr hb HGS.out HGR.out h) hS hb) (fun hS => ?_)
  clear hK K hb
  refine tg 8 (.pointer (some ⟨M, 0, none⟩)) rfl hS ?_
  refine tg 9 (.pointer (some ⟨M, 22, none⟩)) rfl hS ?_
  have hm2 := (HM.out.call K1.out HLS.out HLR.out).call k2 HLS.out HLR.out
  have hrun : (Instr.storeAt 33 (.pointer (some ⟨M, 22, none⟩)) (.slice v.a v.n v.c)).run Tryz.prog w2 = .ok () (w2.setCell ⟨M, 22, none⟩ (.slice v.a v.n v.c)) := by
    have hc2 := hm2.cell 22
    have hz2 := hm2.free 22
    simp only [Mg.cells] at hc2
    clear hm2 hva hvp hvn h2 k2
    go_simp
  refine rdy1 10 rfl (fun K hK => ?_)
  rw [if_pos (by rfl)]
  refine wp_st hrun rfl rfl rfl rfl ?_
  have HM2 := Lib.hid hm2
  have HS2 := Lib.hid h2
  have K2 := Lib.hid k2
  have HVA := Lib.hid hva
  have HVP := Lib.hid hvp
  have HVN := Lib.hid hvn
  have HSS := Lib.hid hS
  refine hK.out _ (w2.setCell ⟨M, 22, none⟩ (.slice v.a v.n v.c)) ?_ (fun hS => ?_)
  · rw [World.cell?_of_block (w := w2) (heap_setCell_other _ _ _ _ (by simp only; have := HLM.out; have := HGX.out; omega))]
    exact HSS.out
  clear hK K hm2 h2 k2 hva hvp hvn hrun hS
  refine wpAnyH_done (by kernel_rfl) ?_ _
  go_wp2_with fail
  go_end0
  refine ⟨rfl, ?_⟩
  rw [HP.out, one_put]
  refine ⟨{ m with vs := v }, { c with vs := vl }, HM2.out.put ⟨HM2.out.dat.vt, HVA.out, HM2.out.dat.sm, HM2.out.dat.dt⟩ ⟨HM2.out.new.1, ?_, HM2.out.new.2.2.1, HM2.out.new.2.2.2⟩ (by simp [over, Mg.cells]) HM2.out.wd HM2.out.vt HVP.out HM2.out.sm HM2.out.dt, HS2.out.put HLS.out HLR.out, Kept.put HBL.out (K1.out.trans K2.out (fun _ _ h => h))⟩
  have hle : M + 1 ≤ w1.heap.size := by have := HLM.out; have := HBL.out.size; have := K1.out.size; omega
  exact ⟨fun ad e => Nat.le_trans hle (HVN.out.1 ad e), fun x hx => ⟨fun ad e => Nat.le_trans hle ((HVN.out.2 x hx).1 ad e), fun ad e => Nat.le_trans hle ((HVN.out.2 x hx).2.1 ad e), fun ad e => Nat.le_trans hle ((HVN.out.2 x hx).2.2 ad e)⟩⟩

theorem read_any (p : Int) (hp : 0 ≤ p ∧ p ≤ 10) (w : World) (S R M : Nat) (s : Sr) (m : Mg) (c : Mc) (x : Mq) (h : Sat w S R s) (hm : MqAt w M m c x) (hS : S < M) (hR : R < M) :
    Calls Tryz.prog 60 #[.pointer (some ⟨S, 0, none⟩), .pointer (some ⟨M, 0, none⟩), .int .u8 p] w fun e w' => e = .returned (.tuple #[]) ∧ ∃ m' c', MqAt w' M m' c' (pPart p x s).1 ∧ Sat w' S R (pPart p x s).2 ∧ Kept (SRM S R M) w w' := by
  have hc : p = 0 ∨ p = 1 ∨ p = 2 ∨ p = 3 ∨ p = 4 ∨ p = 5 ∨ p = 6 ∨ p = 7 ∨ p = 8 ∨ p = 9 ∨ p = 10 := by omega
  rcases hc with rfl | rfl | rfl | rfl | rfl | rfl | rfl | rfl | rfl | rfl | rfl
  · exact read0 w S R M s m c x h hm hS hR
  · exact read1 w S R M s m c x h hm hS hR
  · exact read2 w S R M s m c x h hm hS hR
  · exact read3 w S R M s m c x h hm hS hR
  · exact read4p w S R M s m c x h hm hS hR
  · exact read5 w S R M s m c x h hm hS hR
  · exact read6 w S R M s m c x h hm hS hR
  · exact read7 w S R M s m c x h hm hS hR
  · exact read8 w S R M s m c x h hm hS hR
  · exact read9 w S R M s m c x h hm hS hR
  · exact read10 w S R M s m c x h hm hS hR

theorem gN_ok {s : Sr} (k : Nat) (num : List Int → Int) (h : SrOk s) : SrOk (gN k num s).2 := by
  unfold gN
  split
  · split
    · intro x hx; exact h x (List.mem_of_mem_drop hx)
    · exact h
  · exact h
theorem gN_in {s : Sr} (k : Nat) (num : List Int → Int) (lo hi : Int) (h0 : lo ≤ 0 ∧ 0 ≤ hi) (hn : lo ≤ num s.l ∧ num s.l ≤ hi) : lo ≤ (gN k num s).1 ∧ (gN k num s).1 ≤ hi := by
  unfold gN
  split
  · split
    · exact hn
    · exact h0
  · exact h0
theorem p8_in {s : Sr} (h : SrOk s) : 0 ≤ (p8 s).1 ∧ (p8 s).1 ≤ 255 := gN_in 1 _ 0 255 (by decide) (h.at 0)
theorem p16_in {s : Sr} (h : SrOk s) : 0 ≤ (p16 s).1 ∧ (p16 s).1 ≤ 65535 := gN_in 2 _ 0 65535 (by decide) (two_bytes (h.at 0) (h.at 1))
theorem p32_in {s : Sr} (h : SrOk s) : 0 ≤ (p32 s).1 ∧ (p32 s).1 ≤ 4294967295 := gN_in 4 _ 0 4294967295 (by decide) (by
  have a := two_bytes (h.at 0) (h.at 1)
  have b := two_bytes (h.at 2) (h.at 3)
  unfold rd32
  omega)
theorem pRq_ok {s : Sr} (h : SrOk s) : (pRq s).1.ok ∧ SrOk (pRq s).2 := by
  have h1 : SrOk (p8 s).2 := gN_ok 1 _ h
  have h2 : SrOk (p32 (p8 s).2).2 := gN_ok 4 _ h1
  have h3 : SrOk (p8 (p32 (p8 s).2).2).2 := gN_ok 1 _ h2
  have h4 : SrOk (p8 (p8 (p32 (p8 s).2).2).2).2 := gN_ok 1 _ h3
  have h5 : SrOk (p16 (p8 (p8 (p32 (p8 s).2).2).2).2).2 := gN_ok 2 _ h4
  refine ⟨?_, h5⟩
  have a := p8_in h
  have b := p32_in h1
  have c := p8_in h2
  have d := p8_in h3
  have e := p16_in h4
  unfold Rq.ok pRq
  simp only
  exact ⟨a, b, c, d, e⟩
theorem pMk_ok {s : Sr} (h : SrOk s) : SrOk (pMk s).2 := gN_ok 8 _ (gN_ok 4 _ h)
theorem pEn_ok {s : Sr} (h : SrOk s) : (pEn s).1.rq.ok ∧ SrOk (pEn s).2 := pRq_ok (gN_ok 4 _ (gN_ok 4 _ h))
theorem pN_ok {α : Type} {one : Sr → α × Sr} {P : α → Prop} (h1 : ∀ s, SrOk s → P (one s).1 ∧ SrOk (one s).2) (s : Sr) (h : SrOk s) (j : Nat) : (∀ x ∈ (pN one s j).1, P x) ∧ SrOk (pN one s j).2 := by
  induction j with
  | zero => exact ⟨fun x hx => (by cases hx), h⟩
  | succ j ih =>
    obtain ⟨a, b⟩ := h1 _ ih.2
    refine ⟨fun x hx => ?_, b⟩
    simp only [pN, List.mem_append, List.mem_singleton] at hx
    rcases hx with hx | rfl
    · exact ih.1 x hx
    · exact a
theorem pL_ok {α : Type} {one : Sr → α × Sr} {P : α → Prop} (h1 : ∀ s, SrOk s → P (one s).1 ∧ SrOk (one s).2) (n most : Nat) (s : Sr) (h : SrOk s) : (∀ x ∈ (pL one n most s).1, P x) ∧ SrOk (pL one n most s).2 := by
  unfold pL
  split
  · split
    · exact pN_ok h1 s h n
    · exact ⟨fun x hx => (by cases hx), h⟩
  · exact ⟨fun x hx => (by cases hx), h⟩
theorem pVt_ok {s : Sr} (h : SrOk s) : VcOk (pVt s).1.c ∧ SrOk (pVt s).2 := by
  have h4 : SrOk (p32 (p32 (p8 (p8 s).2).2).2).2 := gN_ok 4 _ (gN_ok 4 _ (gN_ok 1 _ (gN_ok 1 _ h)))
  have h5 : SrOk (p8 (p32 (p32 (p8 (p8 s).2).2).2).2).2 := gN_ok 1 _ h4
  have h6 := (pL_ok (one := pMk) (P := fun _ => True) (fun s hs => ⟨trivial, pMk_ok hs⟩) (p8 (p32 (p32 (p8 (p8 s).2).2).2).2).1.toNat 40 _ h5).2
  have h7 := gN_ok 1 (fun l => l.getD 0 0) h6
  have h8 := pL_ok (one := pEn) (P := fun x => x.rq.ok) (fun s hs => pEn_ok hs) (p8 (pL pMk (p8 (p32 (p32 (p8 (p8 s).2).2).2).2).1.toNat 40 (p8 (p32 (p32 (p8 (p8 s).2).2).2).2).2).2).1.toNat 40 _ h7
  have h9 := gN_ok 1 (fun l => l.getD 0 0) h8.2
  have h10 := pL_ok (one := pEn) (P := fun x => x.rq.ok) (fun s hs => pEn_ok hs) (p8 (pL pEn (p8 (pL pMk (p8 (p32 (p32 (p8 (p8 s).2).2).2).2).1.toNat 40 (p8 (p32 (p32 (p8 (p8 s).2).2).2).2).2).2).1.toNat 40 (p8 (pL pMk (p8 (p32 (p32 (p8 (p8 s).2).2).2).2).1.toNat 40 (p8 (p32 (p32 (p8 (p8 s).2).2).2).2).2).2).2).2).1.toNat 40 _ h9
  exact ⟨⟨h8.1, h10.1⟩, h10.2⟩
theorem pDt_ok {s : Sr} (h : SrOk s) : SrOk (pDt s).2 := by
  unfold pDt
  split
  · split
    · split
      · exact h
      · split
        · intro x hx; exact h x (List.mem_of_mem_drop hx)
        · exact h
    · exact h
  · exact h
theorem pPart_ok {x : Mq} {s : Sr} (p : Int) (hx : MqOk x) (h : SrOk s) : MqOk (pPart p x s).1 ∧ SrOk (pPart p x s).2 := by
  unfold pPart
  split
  · exact ⟨hx, gN_ok 4 _ h⟩
  split
  · exact ⟨hx, gN_ok 4 _ h⟩
  split
  · exact ⟨hx, (pRq_ok h).2⟩
  split
  · exact ⟨hx, gN_ok 8 _ h⟩
  split
  · exact ⟨hx, gN_ok 1 _ h⟩
  split
  · exact ⟨hx, gN_ok 1 _ h⟩
  split
  · exact ⟨hx, gN_ok 4 _ h⟩
  split
  · exact ⟨⟨(pVt_ok h).1, hx.2⟩, (pVt_ok h).2⟩
  split
  · have := pL_ok (one := pVt) (P := fun v => VcOk v.c) (fun s hs => pVt_ok hs) (p8 s).1.toNat 4 (p8 s).2 (gN_ok 1 _ h)
    exact ⟨⟨hx.1, this.1⟩, this.2⟩
  split
  · exact ⟨hx, (pL_ok (one := p64) (P := fun _ => True) (fun s hs => ⟨trivial, gN_ok 8 _ hs⟩) 8 8 s h).2⟩
  · exact ⟨hx, pDt_ok h⟩

theorem Ds.ok {w : World} {X : Nat} {s : Sr} (h : Ds w X s) : SrOk s := h.rd.byte
theorem Ds.kept {S : Nat → Prop} {w w' : World} {X : Nat} {s : Sr} (h : Ds w X s) (hk : Kept S w w') (hS : ∀ k, k ≤ X → ¬ S k) : Ds w' X s := ⟨h.rd.kept hk hS, h.f, h.len⟩
theorem Ds.lt {w : World} {X : Nat} {s : Sr} (h : Ds w X s) : X < w.heap.size := h.rd.lt
theorem rq_cells {w : World} {g : Nat} {r : Rq} (h : w.heap[g]? = some (.cells r.cells.toArray 27 (0, 0))) (i : Nat) : w.cell? ⟨g, i, none⟩ = r.cells[i]? := by
  rw [cell_of_row w g i _ 27 (0, 0) h]; simp

/-- the request at g, and what the walk keeps -/
structure RI (w : World) (X gr g : Nat) (wr : World) (r : Rq) (s : Sr) : Prop where
  kept : Kept (fun k => k = X) w wr
  res : wr.heap[gr]? = some (.cells Rq.zero.cells.toArray 27 (0, 0))
  box : wr.heap[g]? = some (.cells r.cells.toArray 27 (0, 0))
  rd : Ds wr X s
  old : w.heap.size ≤ gr
  new : gr < g
  lt : X < w.heap.size
theorem RI.call {w wr w' : World} {X gr g : Nat} {r : Rq} {s s' : Sr} (h : RI w X gr g wr r s) (hd : Ds w' X s') (hk : Kept (fun k => k = X) wr w') : RI w X gr g w' r s' := by
  have h1 := h.old
  have h2 := h.new
  have h3 := h.lt
  refine ⟨h.kept.trans hk (fun _ _ e => e), ?_, ?_, hd, h1, h2, h3⟩
  · rw [hk.block gr (lt_of_block h.res) (by omega)]; exact h.res
  · rw [hk.block g (lt_of_block h.box) (by omega)]; exact h.box
theorem RI.set {w wr : World} {X gr g : Nat} {r r' : Rq} {s : Sr} (h : RI w X gr g wr r s) (i : Nat) (v : Value) (hv : r.cells.set i v = r'.cells) : RI w X gr g (wr.setCell ⟨g, i, none⟩ v) r' s := by
  have h1 := h.old
  have h2 := h.new
  have h3 := h.lt
  refine ⟨h.kept.setCell _ _ (fun hlt => by simp only at hlt; omega), ?_, ?_, h.rd.kept (S := fun k => k = g) ((Kept.refl _ _).setCell _ _ (fun _ => rfl)) (fun k hk e => by omega), h1, h2, h3⟩
  · rw [Below.heap_setCell _ _ _ _ (by simp only; omega)]; exact h.res
  · rw [heap_setCell_same wr g i _ 27 _ h.box, List.setIfInBounds_toArray, hv]

set_option maxHeartbeats 3200000 in
theorem rreq_any (w : World) (X : Nat) (s : Sr) (h : Ds w X s) :
    Calls Tryz.prog 63 #[.pointer (some ⟨X, 0, none⟩)] w fun e w' => e = .returned (.agg (pRq s).1.cells.toArray) ∧ Ds w' X (pRq s).2 ∧ Kept (fun k => k = X) w w' := by
  obtain ⟨W, hW⟩ : ∃ W, W = w.alloc (.cells #[.int .u8 0, .int .u32 0, .int .u8 0, .int .u8 0, .int .u16 0] 27) := ⟨_, rfl⟩
  have hk0 : Kept (fun k => k = X) w W := by rw [hW]; exact (Kept.refl _ _).alloc _
  have hs0 : W.heap.size = w.heap.size + 1 := by rw [hW]; simp
  have hr0 : W.heap[w.heap.size]? = some (.cells Rq.zero.cells.toArray 27 (0, 0)) := by rw [hW]; exact heap_alloc_new _ _
  have h0 : Ds W X s := h.kept (S := fun _ => False) (by rw [hW]; exact (Kept.refl _ _).alloc _) (fun _ _ h => h)
  have hXg : X < w.heap.size := h.lt
  have H0 := Lib.hid (And.intro hk0 (And.intro hs0 (And.intro hr0 (And.intro h0 hXg))))
  have HW := Lib.hid hW
  obtain ⟨a, ha⟩ : ∃ a, a = p8 s := ⟨_, rfl⟩
  obtain ⟨b, hb⟩ : ∃ b, b = p32 a.2 := ⟨_, rfl⟩
  obtain ⟨c, hc⟩ : ∃ c, c = p8 b.2 := ⟨_, rfl⟩
  obtain ⟨d, hd⟩ : ∃ d, d = p8 c.2 := ⟨_, rfl⟩
  obtain ⟨e, he⟩ : ∃ e, e = p16 d.2 := ⟨_, rfl⟩
  obtain ⟨r, hr⟩ : ∃ r : Rq, r = ⟨a.1, b.1, c.1, d.1, e.1⟩ := ⟨_, rfl⟩
  have hres : pRq s = (r, e.2) := by unfold pRq; rw [hr, he, hd, hc, hb, ha]
  have HR := Lib.hid hr
  rw [hres]
  show Calls Tryz.prog 63 #[.pointer (some ⟨X, 0, none⟩)] w fun e1 w1 => e1 = .returned (.agg r.cells.toArray) ∧ Ds w1 X e.2 ∧ Kept (fun k => k = X) w w1
  have HN := Lib.hid (And.intro ha (And.intro hb (And.intro hc (And.intro hd he))))
  clear hres hr ha hb hc hd he hk0 hs0 hr0 h0 hXg hW h
  obtain ⟨gr, hgr⟩ : ∃ g, g = w.heap.size := ⟨_, rfl⟩
  have HG := Lib.hid hgr
  go_enter Tryz.func63, Tryz.ntmps63
  go_wp2_with fail
  rw [← HW.out, ← HG.out]
  refine (rget1 W X s H0.out.2.2.2.1).mono ?_
  rintro e1 w1 ⟨rfl, d1, k1⟩
  rw [← HN.out.1] at d1 ⊢
  have r1 := p8_in H0.out.2.2.2.1.ok
  rw [← HN.out.1] at r1
  have H1 := Lib.hid (And.intro d1 k1)
  clear d1 k1
  go_wp2_with fail
  refine (rget4 w1 X a.2 H1.out.1).mono ?_
  rintro e2 w2 ⟨rfl, d2, k2⟩
  rw [← HN.out.2.1] at d2 ⊢
  have r2 := p32_in H1.out.1.ok
  rw [← HN.out.2.1] at r2
  have H2 := Lib.hid (And.intro d2 k2)
  clear d2 k2
  go_wp2_with fail
  have R3 : RI w X gr w2.heap.size (w2.alloc (.cells #[.int .u8 a.1, .int .u32 b.1, .int .u8 0, .int .u8 0, .int .u16 0] 27)) ⟨a.1, b.1, 0, 0, 0⟩ b.2 := by
    have hk1 := H0.out.1.trans (H1.out.2.trans H2.out.2 (fun _ _ e => e)) (fun _ _ e => e)
    have hX := H0.out.2.2.2.2
    have hs := H0.out.2.1
    have hg := HG.out
    have hr : w2.heap[gr]? = some (.cells Rq.zero.cells.toArray 27 (0, 0)) := by
      have z1 := H1.out.2.block gr (by omega) (by omega)
      have z2 := H2.out.2.block gr (by have := H1.out.2.size; omega) (by omega)
      rw [z2, z1, hg]; exact H0.out.2.2.1
    refine ⟨hk1.alloc _, ?_, heap_alloc_new w2 _, H2.out.1.kept (S := fun _ => False) ((Kept.refl _ _).alloc _) (fun _ _ h => h), by omega, lt_of_block hr, hX⟩
    rw [Below.heap_alloc _ _ _ (lt_of_block hr)]; exact hr
  generalize hgx : w2.heap.size = gx at *
  generalize w2.alloc (.cells #[.int .u8 a.1, .int .u32 b.1, .int .u8 0, .int .u8 0, .int .u16 0] 27) = w3 at *
  clear hgx H0 H1 H2 HW
  replace R3 := Lib.hid R3
  refine (rget1 w3 X b.2 R3.out.rd).mono ?_
  rintro e4 w4 ⟨rfl, d4, k4⟩
  rw [← HN.out.2.2.1] at d4 ⊢
  have r4 := p8_in R3.out.rd.ok
  rw [← HN.out.2.2.1] at r4
  have R4 := R3.out.call d4 k4
  have c4 := rq_cells R4.box 2
  have f4 := frozen_of_row w4 gx 2 _ 27 R4.box
  simp only [Rq.cells, List.getElem?_cons_zero, List.getElem?_cons_succ] at c4
  replace R4 := Lib.hid (R4.set (r' := ⟨a.1, b.1, c.1, 0, 0⟩) 2 (.int .u8 c.1) rfl)
  clear d4 k4 R3
  go_wp2_with fail
  generalize w4.setCell ⟨gx, 2, none⟩ (.int .u8 c.1) = w5 at *
  clear c4 f4 r4
  refine (rget1 w5 X c.2 R4.out.rd).mono ?_
  rintro e6 w6 ⟨rfl, d6, k6⟩
  rw [← HN.out.2.2.2.1] at d6 ⊢
  have r6 := p8_in R4.out.rd.ok
  rw [← HN.out.2.2.2.1] at r6
  have R6 := R4.out.call d6 k6
  have c6 := rq_cells R6.box 3
  have f6 := frozen_of_row w6 gx 3 _ 27 R6.box
  simp only [Rq.cells, List.getElem?_cons_zero, List.getElem?_cons_succ] at c6
  replace R6 := Lib.hid (R6.set (r' := ⟨a.1, b.1, c.1, d.1, 0⟩) 3 (.int .u8 d.1) rfl)
  clear d6 k6 R4
  go_wp2_with fail
  generalize w6.setCell ⟨gx, 3, none⟩ (.int .u8 d.1) = w7 at *
  clear c6 f6 r6
  refine (rget2 w7 X d.2 R6.out.rd).mono ?_
  rintro e8 w8 ⟨rfl, d8, k8⟩
  rw [← HN.out.2.2.2.2] at d8 ⊢
  have r8 := p16_in R6.out.rd.ok
  rw [← HN.out.2.2.2.2] at r8
  have R8 := R6.out.call d8 k8
  have c8 := rq_cells R8.box 4
  have f8 := frozen_of_row w8 gx 4 _ 27 R8.box
  simp only [Rq.cells, List.getElem?_cons_zero, List.getElem?_cons_succ] at c8
  replace R8 := Lib.hid (R8.set (r' := r) 4 (.int .u16 e.1) (by rw [HR.out]; rfl))
  clear d8 k8 R6
  go_upto_region 5 with fail
  generalize w8.setCell ⟨gx, 4, none⟩ (.int .u16 e.1) = w9 at *
  clear c8 f8 r8
  have hb := R8.out.box
  have hr := R8.out.res
  have hrs : (w9.setCells gr 0 r.cells.toArray.toList).heap[gr]? = some (.cells r.cells.toArray 27 (0, 0)) := by
    rw [setCells_block gr 27 _ 0 _ _ hr]; exact congrArg (fun z => some (Obj.cells z 27 (0, 0))) (over_req r)
  have hkk : Kept (fun k => k = X) w (w9.setCells gr 0 r.cells.toArray.toList) := R8.out.kept.trans (T := fun k => k = gr) Kept.apart (fun i hi e => by have := R8.out.old; omega)
  have hdd : Ds (w9.setCells gr 0 r.cells.toArray.toList) X e.2 := R8.out.rd.kept (S := fun k => k = gr) Kept.apart (fun k hk e => by have := R8.out.old; have := R8.out.lt; omega)
  have hth : w9.there gr 0 r.cells.toArray.size := there_row hr rfl
  have HZ : Hid ((Tryz.prog.info? 27).map (·.size) = some r.cells.toArray.size) := Lib.hid (by kernel_rfl)
  have HF := Lib.hid (And.intro hrs (And.intro hkk hdd))
  have HB := Lib.hid hb
  have HT := Lib.hid hth
  rw [← HG.out]
  clear hb hr hrs hkk hdd hth R8
  refine wp_region_lit ?_
  refine wpList_load_row rfl 27 (.tmp 3) rfl gx rfl 27 _ (0, 0) _ HB.out Tryz.underlying27 rfl (by kernel_rfl) ?_
  refine wpList_store_mid rfl 27 (.tmp 2) (.tmp 26) rfl gr 0 r.cells.toArray rfl rfl HT.out (by kernel_rfl) (by simp [Rq.cells, Value.oneCell']) ?_
  dsimp only
  clear HB HT
  go_wp2_with fail
  (try simp only [Exit.inBlock, Exit.then])
  obtain ⟨f1, f2, f3⟩ := HF.out
  rw [HG.out] at f1 f2 f3
  exact bodyPost_ret (results_cell_row (P := Tryz.prog) rfl _ _ w.heap.size 27 _ (0, 0) _ rfl f1 Tryz.underlying27 rfl HZ.out) rfl ⟨rfl, f3, f2⟩

theorem flatE_at {α : Type} {enc : α → List Value} {k : Nat} : ∀ {l : List α} {j : Nat} {u : Value}, (∀ x ∈ l, (enc x).length = k) → (l.flatMap enc)[j]? = some u → ∃ q r x, j = q * k + r ∧ l[q]? = some x ∧ (enc x)[r]? = some u
  | [], j, u, _, h => by simp at h
  | y :: l, j, u, hk, h => by
    rw [List.flatMap_cons] at h
    have hy := hk y (List.mem_cons_self ..)
    rcases Nat.lt_or_ge j k with hj | hj
    · rw [List.getElem?_append_left (by omega)] at h
      exact ⟨0, j, y, by omega, rfl, h⟩
    · rw [List.getElem?_append_right (by omega), hy] at h
      obtain ⟨q, r, x, e, h1, h2⟩ := flatE_at (fun x hx => hk x (List.mem_cons_of_mem _ hx)) h
      refine ⟨q + 1, r, x, by rw [Nat.add_mul]; omega, by simpa using h1, h2⟩

theorem flatE_len {α : Type} {enc : α → List Value} {k : Nat} : ∀ (l : List α), (∀ x ∈ l, (enc x).length = k) → (l.flatMap enc).length = l.length * k
  | [], _ => by simp
  | y :: l, h => by
    rw [List.flatMap_cons, List.length_append, h y (List.mem_cons_self ..), flatE_len l (fun x hx => h x (List.mem_cons_of_mem _ hx)), List.length_cons, Nat.add_mul]
    omega

theorem own_form' {w : World} {e k : Nat} {v : Value} {n : Nat} {xs : List Value} (h : w.ownsRow 0 e k v n xs) : ∃ ao cap, v = .slice ao n cap ∧ (ao = none → n = 0 ∧ cap = 0) := by
  rcases h.2 with ⟨rfl, rfl⟩ | ⟨g', cap, cur, rfl, hb, hgg, rest⟩
  · exact ⟨none, 0, rfl, fun _ => ⟨rfl, rfl⟩⟩
  · exact ⟨_, cap, rfl, fun h => by cases h⟩

theorem own_kept' {S : Nat → Prop} {w w' : World} {e k : Nat} {v : Value} {n : Nat} {xs : List Value} (h : w.ownsRow 0 e k v n xs) (hk : Kept S w w') (hS : ∀ g, v.ownBlock = some g → ¬ S g) : w'.ownsRow 0 e k v n xs := by
  refine ⟨h.1, ?_⟩
  rcases h.2 with hn | ⟨g, cap, cur, rfl, hb, hgg, rest⟩
  · exact .inl hn
  · refine .inr ⟨g, cap, cur, rfl, hb, ?_, rest⟩
    rw [hk.block g (lt_of_block hgg) (hS g rfl)]
    exact hgg

theorem own_lt' {w : World} {e k : Nat} {v : Value} {n : Nat} {xs : List Value} (h : w.ownsRow 0 e k v n xs) {g : Nat} (hg : v.ownBlock = some g) : g < w.heap.size := by
  rcases h.2 with ⟨rfl, _⟩ | ⟨g', cap, cur, rfl, hb, hgg, rest⟩
  · simp [Value.ownBlock] at hg
  · simp [Value.ownBlock] at hg
    subst hg
    exact lt_of_block hgg

/-- append of a row of structs onto a row that the call made -/
theorem wpList_appR {α : Type} (enc : α → List Value) (k t e bytes : Nat) (i : TypeInfo) (z : Value) {ops : Array Oper} {rest : List Oper} {o : Oper} {a : Act} {Q : Exit → Act → World → Prop} (w : World) (hgd : o.guard = none) (s x : Operand)
    (ho : o.op = .call { callee := .builtin .append, args := #[s, x], argTypes := #[t, t] })
    (ht : Tryz.prog.underlying t = some (.slice e)) (hi : Tryz.prog.info? e = some i) (hz : i.zero = some z) (hsize : i.size = k) (hby : i.bytes = bytes) (hzs : z.cells.size = k) (hk0 : 0 < k) (hb8 : bytes ≤ 1000)
    (v : Value) (n : Nat) (xs : List Value) (hs : a.eval s = v) (hown : w.ownsRow 0 e k v n xs)
    (ao : Option Addr) (m c : Nat) (l : List α) (hx : a.eval x = .slice ao m c) (hr : Row w k enc (.slice ao m c) l) (henc : ∀ x ∈ l, (enc x).length = k) (hone : ∀ x ∈ l, ∀ u ∈ enc x, u.oneCell' = true)
    (hbig : n ≤ 1000000)
    (hK : ∀ ao' cap' w', w'.ownsRow 0 e k (.slice ao' (n + m) cap') (n + m) (xs ++ l.flatMap enc) → Kept (fun k => some k = v.ownBlock) w w' →
      ((Value.slice ao' (n + m) cap').ownBlock = v.ownBlock ∨ (Value.slice ao' (n + m) cap').ownBlock = some w.heap.size) → wpList Tryz.prog ops Q rest (a.put o.dst (.slice ao' (n + m) cap')) w') :
    wpList Tryz.prog ops Q (o :: rest) a w := by
  obtain ⟨ao2, cap2, e2, hn0, hcap, hlm, hcell⟩ := hr
  injection e2 with e3 e4 e5
  subst e3 e5
  have hl : l.length = m := by omega
  cases ao with
  | none =>
    obtain rfl : l = [] := by
      cases l with
      | nil => rfl
      | cons y l => obtain ⟨b, off, e, _⟩ := hcell 0 y rfl; cases e
    obtain rfl : m = 0 := by simpa using hl.symm
    obtain rfl := hn0 rfl
    refine wpList_plain hgd fun K hK' => ?_
    have hrun := run_append_owned_none (P := Tryz.prog) (w := w) 0 t o.type e i k ht hi v n xs hown
    obtain ⟨ao', cap', rfl, _⟩ := own_form' hown
    unfold Oper.wp
    simp [execOp, ho, resolve, invoke, builtin, hs, hx, hrun, Result.andThen]
    exact hK' _ _ (hK ao' cap' w (by simpa using hown) (Kept.refl _ _) (.inl rfl))
  | some ad =>
    refine wpList_plain hgd fun K hK' => ?_
    have hby2 : (n + m) * bytes ≤ 140737488355328 := by
      have : (n + m) * bytes ≤ 2000000 * 1000 := Nat.mul_le_mul (by omega) hb8
      omega
    obtain ⟨v', w', hrun, h2, h3, _, h5⟩ := run_append_own_at (P := Tryz.prog) w 0 t o.type e i z k bytes ht hi hz hsize hby hzs hk0 v n xs hown ad m c (l.flatMap enc) (by rw [flatE_len l henc, hl]) (by
      intro j u hu
      obtain ⟨q, r, x, rfl, h1, h2⟩ := flatE_at henc hu
      obtain ⟨b, off, e, hc⟩ := hcell q x h1
      injection e with e; subst e
      rw [Addr.add_lit, ← Nat.add_assoc]
      exact hc r u h2) (by
      intro u hu
      obtain ⟨x, hx, hu⟩ := List.mem_flatMap.1 hu
      exact hone x hx u hu) (by simp only [maxLen]; omega) hby2 (Nat.zero_le _)
    obtain ⟨ao', cap', rfl, _⟩ := own_form' h2
    unfold Oper.wp
    simp [execOp, ho, resolve, invoke, builtin, hs, hx, hrun, Result.andThen]
    exact hK' _ _ (hK ao' cap' w' h2 (Kept.ofGrown h3) h5)
end Go.Proofs.YtbpfkeeikhhlnaaGreatDoor
