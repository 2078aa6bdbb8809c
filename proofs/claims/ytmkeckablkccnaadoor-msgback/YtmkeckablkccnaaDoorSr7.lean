/- A part of a message is read. -/
import Derived.Test.YtmkeckablkccnaaDoorSr6
import Derived.Test.YtmkeckablkccnaaDoorKindsB
namespace Go.Proofs.YtmkeckablkccnaaDoor
open Go.RowKit
set_option maxRecDepth 100000

/-- a message as it is read: its words, what its lists hold -/
structure Mq where
  w : Wd
  vt : Vp
  vs : List Vp
  sm : List Int
  dt : List Int
/-- a part is read -/
def pPart (p : Int) (x : Mq) (s : Sr) : Mq × Sr :=
  if p = 0 then ({ x with w := { x.w with vw := (p32 s).1 } }, (p32 s).2)
  else if p = 1 then ({ x with w := { x.w with sq := (p32 s).1 } }, (p32 s).2)
  else if p = 2 then ({ x with w := { x.w with rq := (pRq s).1 } }, (pRq s).2)
  else if p = 3 then ({ x with w := { x.w with ro := (p64 s).1 } }, (p64 s).2)
  else if p = 4 then ({ x with w := { x.w with ct := (p8 s).1 } }, (p8 s).2)
  else if p = 5 then ({ x with w := { x.w with pg := (p8 s).1 } }, (p8 s).2)
  else if p = 6 then ({ x with w := { x.w with rs := (p32 s).1 } }, (p32 s).2)
  else if p = 7 then ({ x with vt := (pVt s).1 }, (pVt s).2)
  else if p = 8 then ({ x with vs := (pL pVt (p8 s).1.toNat 4 (p8 s).2).1 }, (pL pVt (p8 s).1.toNat 4 (p8 s).2).2)
  else if p = 9 then ({ x with sm := (pL p64 8 8 s).1 }, (pL p64 8 8 s).2)
  else ({ x with dt := (pDt s).1 }, (pDt s).2)

def NewM (H : Nat) (m : Mg) (c : Mc) : Prop := NewV H m.vt ∧ NewS H m.vs c.vs ∧ (∀ ad, m.sm.a = some ad → H ≤ ad.block) ∧ ∀ ad, m.dt.a = some ad → H ≤ ad.block
theorem dt_new {T : Nat → Prop} {w w' : World} {H : Nat} {v : Sl} {l : List Int} (h : DtAt w v l) (hk : Kept T w w') (hv : ∀ ad, v.a = some ad → H ≤ ad.block) (hT : ∀ b, T b → b < H) : DtAt w' v l := by
  obtain ⟨h1, h2, h3, h4, h5, h6⟩ := h
  exact ⟨h1, bytes_kept h2 hk (fun ad e _ hb => by have := hv ad e; have := hT _ hb; omega), h3, h4, h5, h6⟩
theorem vs_new {T : Nat → Prop} {w w' : World} {H : Nat} {v : Sl} {l : List (Vt × Vc)} (h : VsAt w v l) (hk : Kept T w w') (hv : NewS H v l) (hT : ∀ b, T b → b < H) : VsAt w' v l :=
  ⟨row_new h.1 hk hv.1 hT, fun x hx => (h.2 x hx).new hk (hv.2 x hx) hT⟩
theorem MgAt.new {T : Nat → Prop} {w w' : World} {H : Nat} {m : Mg} {c : Mc} (h : MgAt w m c) (hk : Kept T w w') (hv : NewM H m c) (hT : ∀ b, T b → b < H) : MgAt w' m c :=
  ⟨h.vt.new hk hv.1 hT, vs_new h.vs hk hv.2.1 hT, row_new h.sm hk hv.2.2.1 hT, dt_new h.dt hk hv.2.2.2 hT⟩

/-- a message that is being read lies at M -/
structure MqAt (w : World) (M : Nat) (m : Mg) (c : Mc) (x : Mq) : Prop where
  box : w.heap[M]? = some (.cells m.cells.toArray 37 (0, 0))
  dat : MgAt w m c
  new : NewM (M + 1) m c
  wd : m.toWd = x.w
  vt : toVp (m.vt, c.vt) = x.vt
  vs : c.vs.map toVp = x.vs
  sm : c.sm = x.sm
  dt : c.dt = x.dt
def SRM (S R M : Nat) : Nat → Prop := fun k => SR S R k ∨ k = M
theorem MqAt.call {w w1 : World} {S R M : Nat} {m : Mg} {c : Mc} {x : Mq} (h : MqAt w M m c x) (hk : Kept (SR S R) w w1) (hS : S < M) (hR : R < M) : MqAt w1 M m c x := by
  have hT : ∀ b, SR S R b → b < M + 1 := fun b e => by rcases e with e | e; omega; omega
  exact ⟨by rw [hk.block M (lt_of_block h.box) (fun e => by rcases e with e | e; omega; omega)]; exact h.box, h.dat.new hk h.new hT, h.new, h.wd, h.vt, h.vs, h.sm, h.dt⟩
theorem MqAt.below {w w1 : World} {M : Nat} {m : Mg} {c : Mc} {x : Mq} (h : MqAt w M m c x) (hb : Below w.heap.size w w1) : MqAt w1 M m c x :=
  ⟨(hb.block _ (lt_of_block h.box)).trans h.box, h.dat.below hb, h.new, h.wd, h.vt, h.vs, h.sm, h.dt⟩
/-- some cells of it are written -/
theorem MqAt.put {w : World} {M o : Nat} {m m' : Mg} {c c' : Mc} {x x' : Mq} {vs : List Value} (h : MqAt w M m c x) (hd : MgAt w m' c') (hn : NewM (M + 1) m' c') (ho : over m.cells.toArray o vs = m'.cells.toArray) (h1 : m'.toWd = x'.w) (h2 : toVp (m'.vt, c'.vt) = x'.vt) (h3 : c'.vs.map toVp = x'.vs) (h4 : c'.sm = x'.sm) (h5 : c'.dt = x'.dt) :
    MqAt (w.setCells M o vs) M m' c' x' :=
  ⟨by rw [setCells_block _ 37 _ _ _ _ h.box, ho], hd.new (T := fun k => k = M) kept_setCells hn (fun b e => by omega), hn, h1, h2, h3, h4, h5⟩
theorem Sat.put {w : World} {S R M o : Nat} {s : Sr} {vs : List Value} (h : Sat w S R s) (hS : S < M) (hR : R < M) : Sat (w.setCells M o vs) S R s := h.kept (T := fun k => k = M) kept_setCells (by omega) (fun k hk e => by omega)
theorem one_put (w : World) (M o : Nat) (v : Value) : w.setCell ⟨M, o, none⟩ v = w.setCells M o [v] := rfl
theorem MqAt.cell {w : World} {M : Nat} {m : Mg} {c : Mc} {x : Mq} (h : MqAt w M m c x) (i : Nat) : w.cell? ⟨M, i, none⟩ = m.cells[i]? := cell_box h.box i
theorem MqAt.free {w : World} {M : Nat} {m : Mg} {c : Mc} {x : Mq} (h : MqAt w M m c x) (i : Nat) : w.frozen? ⟨M, i, none⟩ = false := frozen_of_row _ _ _ _ _ h.box
theorem Kept.put {S R M o : Nat} {w W w1 : World} {vs : List Value} (hb : Below w.heap.size w W) (hk : Kept (SR S R) W w1) : Kept (SRM S R M) w (w1.setCells M o vs) :=
  ((Kept.ofBelow (S := SRM S R M) hb).trans hk (fun _ _ e => .inl e)).trans kept_setCells (fun _ _ e => .inr e)

set_option maxHeartbeats 4000000 in
theorem read0 (w : World) (S R M : Nat) (s : Sr) (m : Mg) (c : Mc) (x : Mq) (h : Sat w S R s) (hm : MqAt w M m c x) (hS : S < M) (hR : R < M) :
    Calls Tryd.prog 37 #[.pointer (some ⟨S, 0, none⟩), .pointer (some ⟨M, 0, none⟩), .int .u8 0] w fun e w' => e = .returned (.tuple #[]) ∧ ∃ m' c', MqAt w' M m' c' (pPart 0 x s).1 ∧ Sat w' S R (pPart 0 x s).2 ∧ Kept (SRM S R M) w w' := by
  obtain ⟨W, hW⟩ : ∃ W, W = w.alloc (.cells #[.pointer (some ⟨S, 0, none⟩)] 78) := ⟨_, rfl⟩
  have hbl : Below w.heap.size w W := by rw [hW]; exact (Below.refl _ _).alloc (Nat.le_refl _) _
  have q : W.cell? ⟨w.heap.size, 0, none⟩ = some (.pointer (some ⟨S, 0, none⟩)) := by rw [hW, cell_of_row _ _ _ _ _ _ (heap_alloc_new _ _)]; rfl
  have HS := Lib.hid (h.on hbl)
  have HM := Lib.hid (hm.below hbl)
  have HBL := Lib.hid hbl
  have HLS := Lib.hid hS
  have HLR := Lib.hid hR
  have HLM := Lib.hid (lt_of_block hm.box)
  have HW := Lib.hid hW
  have hmf : ∀ (fn : Fn) (first cap : Array Value) (w : World), (Instr.makeFunc fn first cap).run Tryd.prog w = .ok (.func fn first cap) w := fun _ _ _ _ => rfl
  have HP : Hid (pPart 0 x s = ({ x with w := { x.w with vw := (p32 s).1 } }, (p32 s).2)) := Lib.hid rfl
  have C := s32 W S R s HS.out
  have CH := Lib.hid C
  clear h hm hbl hW hS hR C
  go_enter Tryd.func37, Tryd.ntmps37
  go_upto_region 1 with fail
  rw [← HW.out]
  clear HW
  go_wp2_with fail
  refine Calls.mono CH.out ?_
  rintro e w1 ⟨rfl, h, k⟩
  have hm1 := HM.out.call k HLS.out HLR.out
  have hc := hm1.cell 4
  have hz := hm1.free 4
  simp only [Mg.cells] at hc
  have HM1 := Lib.hid hm1
  have HS1 := Lib.hid h
  have HK := Lib.hid k
  clear h k hm1 HM HS CH
  go_wp2_with fail
  go_end0
  refine ⟨rfl, ?_⟩
  rw [HP.out, one_put]
  refine ⟨{ m with vw := (p32 s).1 }, c, HM1.out.put ⟨HM1.out.dat.vt, HM1.out.dat.vs, HM1.out.dat.sm, HM1.out.dat.dt⟩ HM1.out.new (by simp [over, Mg.cells]) (by rw [← HM1.out.wd]) HM1.out.vt HM1.out.vs HM1.out.sm HM1.out.dt, HS1.out.put HLS.out HLR.out, Kept.put HBL.out HK.out⟩

set_option maxHeartbeats 4000000 in
theorem read1 (w : World) (S R M : Nat) (s : Sr) (m : Mg) (c : Mc) (x : Mq) (h : Sat w S R s) (hm : MqAt w M m c x) (hS : S < M) (hR : R < M) :
    Calls Tryd.prog 37 #[.pointer (some ⟨S, 0, none⟩), .pointer (some ⟨M, 0, none⟩), .int .u8 1] w fun e w' => e = .returned (.tuple #[]) ∧ ∃ m' c', MqAt w' M m' c' (pPart 1 x s).1 ∧ Sat w' S R (pPart 1 x s).2 ∧ Kept (SRM S R M) w w' := by
  obtain ⟨W, hW⟩ : ∃ W, W = w.alloc (.cells #[.pointer (some ⟨S, 0, none⟩)] 78) := ⟨_, rfl⟩
  have hbl : Below w.heap.size w W := by rw [hW]; exact (Below.refl _ _).alloc (Nat.le_refl _) _
  have q : W.cell? ⟨w.heap.size, 0, none⟩ = some (.pointer (some ⟨S, 0, none⟩)) := by rw [hW, cell_of_row _ _ _ _ _ _ (heap_alloc_new _ _)]; rfl
  have HS := Lib.hid (h.on hbl)
  have HM := Lib.hid (hm.below hbl)
  have HBL := Lib.hid hbl
  have HLS := Lib.hid hS
  have HLR := Lib.hid hR
  have HLM := Lib.hid (lt_of_block hm.box)
  have HW := Lib.hid hW
  have hmf : ∀ (fn : Fn) (first cap : Array Value) (w : World), (Instr.makeFunc fn first cap).run Tryd.prog w = .ok (.func fn first cap) w := fun _ _ _ _ => rfl
  have HP : Hid (pPart 1 x s = ({ x with w := { x.w with sq := (p32 s).1 } }, (p32 s).2)) := Lib.hid rfl
  have C := s32 W S R s HS.out
  have CH := Lib.hid C
  clear h hm hbl hW hS hR C
  go_enter Tryd.func37, Tryd.ntmps37
  go_upto_region 1 with fail
  rw [← HW.out]
  clear HW
  go_wp2_with fail
  refine Calls.mono CH.out ?_
  rintro e w1 ⟨rfl, h, k⟩
  have hm1 := HM.out.call k HLS.out HLR.out
  have hc := hm1.cell 5
  have hz := hm1.free 5
  simp only [Mg.cells] at hc
  have HM1 := Lib.hid hm1
  have HS1 := Lib.hid h
  have HK := Lib.hid k
  clear h k hm1 HM HS CH
  go_wp2_with fail
  go_end0
  refine ⟨rfl, ?_⟩
  rw [HP.out, one_put]
  refine ⟨{ m with sq := (p32 s).1 }, c, HM1.out.put ⟨HM1.out.dat.vt, HM1.out.dat.vs, HM1.out.dat.sm, HM1.out.dat.dt⟩ HM1.out.new (by simp [over, Mg.cells]) (by rw [← HM1.out.wd]) HM1.out.vt HM1.out.vs HM1.out.sm HM1.out.dt, HS1.out.put HLS.out HLR.out, Kept.put HBL.out HK.out⟩

set_option maxHeartbeats 4000000 in
theorem read3 (w : World) (S R M : Nat) (s : Sr) (m : Mg) (c : Mc) (x : Mq) (h : Sat w S R s) (hm : MqAt w M m c x) (hS : S < M) (hR : R < M) :
    Calls Tryd.prog 37 #[.pointer (some ⟨S, 0, none⟩), .pointer (some ⟨M, 0, none⟩), .int .u8 3] w fun e w' => e = .returned (.tuple #[]) ∧ ∃ m' c', MqAt w' M m' c' (pPart 3 x s).1 ∧ Sat w' S R (pPart 3 x s).2 ∧ Kept (SRM S R M) w w' := by
  obtain ⟨W, hW⟩ : ∃ W, W = w.alloc (.cells #[.pointer (some ⟨S, 0, none⟩)] 78) := ⟨_, rfl⟩
  have hbl : Below w.heap.size w W := by rw [hW]; exact (Below.refl _ _).alloc (Nat.le_refl _) _
  have q : W.cell? ⟨w.heap.size, 0, none⟩ = some (.pointer (some ⟨S, 0, none⟩)) := by rw [hW, cell_of_row _ _ _ _ _ _ (heap_alloc_new _ _)]; rfl
  have HS := Lib.hid (h.on hbl)
  have HM := Lib.hid (hm.below hbl)
  have HBL := Lib.hid hbl
  have HLS := Lib.hid hS
  have HLR := Lib.hid hR
  have HLM := Lib.hid (lt_of_block hm.box)
  have HW := Lib.hid hW
  have hmf : ∀ (fn : Fn) (first cap : Array Value) (w : World), (Instr.makeFunc fn first cap).run Tryd.prog w = .ok (.func fn first cap) w := fun _ _ _ _ => rfl
  have HP : Hid (pPart 3 x s = ({ x with w := { x.w with ro := (p64 s).1 } }, (p64 s).2)) := Lib.hid rfl
  have C := s64 W S R s HS.out
  have CH := Lib.hid C
  clear h hm hbl hW hS hR C
  go_enter Tryd.func37, Tryd.ntmps37
  go_upto_region 1 with fail
  rw [← HW.out]
  clear HW
  go_wp2_with fail
  refine Calls.mono CH.out ?_
  rintro e w1 ⟨rfl, h, k⟩
  have hm1 := HM.out.call k HLS.out HLR.out
  have hc := hm1.cell 11
  have hz := hm1.free 11
  simp only [Mg.cells] at hc
  have HM1 := Lib.hid hm1
  have HS1 := Lib.hid h
  have HK := Lib.hid k
  clear h k hm1 HM HS CH
  go_wp2_with fail
  go_end0
  refine ⟨rfl, ?_⟩
  rw [HP.out, one_put]
  refine ⟨{ m with ro := (p64 s).1 }, c, HM1.out.put ⟨HM1.out.dat.vt, HM1.out.dat.vs, HM1.out.dat.sm, HM1.out.dat.dt⟩ HM1.out.new (by simp [over, Mg.cells]) (by rw [← HM1.out.wd]) HM1.out.vt HM1.out.vs HM1.out.sm HM1.out.dt, HS1.out.put HLS.out HLR.out, Kept.put HBL.out HK.out⟩

set_option maxHeartbeats 4000000 in
theorem read4p (w : World) (S R M : Nat) (s : Sr) (m : Mg) (c : Mc) (x : Mq) (h : Sat w S R s) (hm : MqAt w M m c x) (hS : S < M) (hR : R < M) :
    Calls Tryd.prog 37 #[.pointer (some ⟨S, 0, none⟩), .pointer (some ⟨M, 0, none⟩), .int .u8 4] w fun e w' => e = .returned (.tuple #[]) ∧ ∃ m' c', MqAt w' M m' c' (pPart 4 x s).1 ∧ Sat w' S R (pPart 4 x s).2 ∧ Kept (SRM S R M) w w' := by
  obtain ⟨W, hW⟩ : ∃ W, W = w.alloc (.cells #[.pointer (some ⟨S, 0, none⟩)] 78) := ⟨_, rfl⟩
  have hbl : Below w.heap.size w W := by rw [hW]; exact (Below.refl _ _).alloc (Nat.le_refl _) _
  have q : W.cell? ⟨w.heap.size, 0, none⟩ = some (.pointer (some ⟨S, 0, none⟩)) := by rw [hW, cell_of_row _ _ _ _ _ _ (heap_alloc_new _ _)]; rfl
  have HS := Lib.hid (h.on hbl)
  have HM := Lib.hid (hm.below hbl)
  have HBL := Lib.hid hbl
  have HLS := Lib.hid hS
  have HLR := Lib.hid hR
  have HLM := Lib.hid (lt_of_block hm.box)
  have HW := Lib.hid hW
  have hmf : ∀ (fn : Fn) (first cap : Array Value) (w : World), (Instr.makeFunc fn first cap).run Tryd.prog w = .ok (.func fn first cap) w := fun _ _ _ _ => rfl
  have HP : Hid (pPart 4 x s = ({ x with w := { x.w with ct := (p8 s).1 } }, (p8 s).2)) := Lib.hid rfl
  have C := s8 W S R s HS.out
  have CH := Lib.hid C
  clear h hm hbl hW hS hR C
  go_enter Tryd.func37, Tryd.ntmps37
  go_upto_region 1 with fail
  rw [← HW.out]
  clear HW
  go_wp2_with fail
  refine Calls.mono CH.out ?_
  rintro e w1 ⟨rfl, h, k⟩
  have hm1 := HM.out.call k HLS.out HLR.out
  have hc := hm1.cell 12
  have hz := hm1.free 12
  simp only [Mg.cells] at hc
  have HM1 := Lib.hid hm1
  have HS1 := Lib.hid h
  have HK := Lib.hid k
  clear h k hm1 HM HS CH
  go_wp2_with fail
  go_end0
  refine ⟨rfl, ?_⟩
  rw [HP.out, one_put]
  refine ⟨{ m with ct := (p8 s).1 }, c, HM1.out.put ⟨HM1.out.dat.vt, HM1.out.dat.vs, HM1.out.dat.sm, HM1.out.dat.dt⟩ HM1.out.new (by simp [over, Mg.cells]) (by rw [← HM1.out.wd]) HM1.out.vt HM1.out.vs HM1.out.sm HM1.out.dt, HS1.out.put HLS.out HLR.out, Kept.put HBL.out HK.out⟩

set_option maxHeartbeats 4000000 in
theorem read5 (w : World) (S R M : Nat) (s : Sr) (m : Mg) (c : Mc) (x : Mq) (h : Sat w S R s) (hm : MqAt w M m c x) (hS : S < M) (hR : R < M) :
    Calls Tryd.prog 37 #[.pointer (some ⟨S, 0, none⟩), .pointer (some ⟨M, 0, none⟩), .int .u8 5] w fun e w' => e = .returned (.tuple #[]) ∧ ∃ m' c', MqAt w' M m' c' (pPart 5 x s).1 ∧ Sat w' S R (pPart 5 x s).2 ∧ Kept (SRM S R M) w w' := by
  obtain ⟨W, hW⟩ : ∃ W, W = w.alloc (.cells #[.pointer (some ⟨S, 0, none⟩)] 78) := ⟨_, rfl⟩
  have hbl : Below w.heap.size w W := by rw [hW]; exact (Below.refl _ _).alloc (Nat.le_refl _) _
  have q : W.cell? ⟨w.heap.size, 0, none⟩ = some (.pointer (some ⟨S, 0, none⟩)) := by rw [hW, cell_of_row _ _ _ _ _ _ (heap_alloc_new _ _)]; rfl
  have HS := Lib.hid (h.on hbl)
  have HM := Lib.hid (hm.below hbl)
  have HBL := Lib.hid hbl
  have HLS := Lib.hid hS
  have HLR := Lib.hid hR
  have HLM := Lib.hid (lt_of_block hm.box)
  have HW := Lib.hid hW
  have hmf : ∀ (fn : Fn) (first cap : Array Value) (w : World), (Instr.makeFunc fn first cap).run Tryd.prog w = .ok (.func fn first cap) w := fun _ _ _ _ => rfl
  have HP : Hid (pPart 5 x s = ({ x with w := { x.w with pg := (p8 s).1 } }, (p8 s).2)) := Lib.hid rfl
  have C := s8 W S R s HS.out
  have CH := Lib.hid C
  clear h hm hbl hW hS hR C
  go_enter Tryd.func37, Tryd.ntmps37
  go_upto_region 1 with fail
  rw [← HW.out]
  clear HW
  go_wp2_with fail
  refine Calls.mono CH.out ?_
  rintro e w1 ⟨rfl, h, k⟩
  have hm1 := HM.out.call k HLS.out HLR.out
  have hc := hm1.cell 13
  have hz := hm1.free 13
  simp only [Mg.cells] at hc
  have HM1 := Lib.hid hm1
  have HS1 := Lib.hid h
  have HK := Lib.hid k
  clear h k hm1 HM HS CH
  go_wp2_with fail
  go_end0
  refine ⟨rfl, ?_⟩
  rw [HP.out, one_put]
  refine ⟨{ m with pg := (p8 s).1 }, c, HM1.out.put ⟨HM1.out.dat.vt, HM1.out.dat.vs, HM1.out.dat.sm, HM1.out.dat.dt⟩ HM1.out.new (by simp [over, Mg.cells]) (by rw [← HM1.out.wd]) HM1.out.vt HM1.out.vs HM1.out.sm HM1.out.dt, HS1.out.put HLS.out HLR.out, Kept.put HBL.out HK.out⟩

set_option maxHeartbeats 4000000 in
theorem read6 (w : World) (S R M : Nat) (s : Sr) (m : Mg) (c : Mc) (x : Mq) (h : Sat w S R s) (hm : MqAt w M m c x) (hS : S < M) (hR : R < M) :
    Calls Tryd.prog 37 #[.pointer (some ⟨S, 0, none⟩), .pointer (some ⟨M, 0, none⟩), .int .u8 6] w fun e w' => e = .returned (.tuple #[]) ∧ ∃ m' c', MqAt w' M m' c' (pPart 6 x s).1 ∧ Sat w' S R (pPart 6 x s).2 ∧ Kept (SRM S R M) w w' := by
  obtain ⟨W, hW⟩ : ∃ W, W = w.alloc (.cells #[.pointer (some ⟨S, 0, none⟩)] 78) := ⟨_, rfl⟩
  have hbl : Below w.heap.size w W := by rw [hW]; exact (Below.refl _ _).alloc (Nat.le_refl _) _
  have q : W.cell? ⟨w.heap.size, 0, none⟩ = some (.pointer (some ⟨S, 0, none⟩)) := by rw [hW, cell_of_row _ _ _ _ _ _ (heap_alloc_new _ _)]; rfl
  have HS := Lib.hid (h.on hbl)
  have HM := Lib.hid (hm.below hbl)
  have HBL := Lib.hid hbl
  have HLS := Lib.hid hS
  have HLR := Lib.hid hR
  have HLM := Lib.hid (lt_of_block hm.box)
  have HW := Lib.hid hW
  have hmf : ∀ (fn : Fn) (first cap : Array Value) (w : World), (Instr.makeFunc fn first cap).run Tryd.prog w = .ok (.func fn first cap) w := fun _ _ _ _ => rfl
  have HP : Hid (pPart 6 x s = ({ x with w := { x.w with rs := (p32 s).1 } }, (p32 s).2)) := Lib.hid rfl
  have C := s32 W S R s HS.out
  have CH := Lib.hid C
  clear h hm hbl hW hS hR C
  go_enter Tryd.func37, Tryd.ntmps37
  go_upto_region 1 with fail
  rw [← HW.out]
  clear HW
  go_wp2_with fail
  refine Calls.mono CH.out ?_
  rintro e w1 ⟨rfl, h, k⟩
  have hm1 := HM.out.call k HLS.out HLR.out
  have hc := hm1.cell 14
  have hz := hm1.free 14
  simp only [Mg.cells] at hc
  have HM1 := Lib.hid hm1
  have HS1 := Lib.hid h
  have HK := Lib.hid k
  clear h k hm1 HM HS CH
  go_wp2_with fail
  go_end0
  refine ⟨rfl, ?_⟩
  rw [HP.out, one_put]
  refine ⟨{ m with rs := (p32 s).1 }, c, HM1.out.put ⟨HM1.out.dat.vt, HM1.out.dat.vs, HM1.out.dat.sm, HM1.out.dat.dt⟩ HM1.out.new (by simp [over, Mg.cells]) (by rw [← HM1.out.wd]) HM1.out.vt HM1.out.vs HM1.out.sm HM1.out.dt, HS1.out.put HLS.out HLR.out, Kept.put HBL.out HK.out⟩

set_option maxHeartbeats 4000000 in
theorem read9 (w : World) (S R M : Nat) (s : Sr) (m : Mg) (c : Mc) (x : Mq) (h : Sat w S R s) (hm : MqAt w M m c x) (hS : S < M) (hR : R < M) :
    Calls Tryd.prog 37 #[.pointer (some ⟨S, 0, none⟩), .pointer (some ⟨M, 0, none⟩), .int .u8 9] w fun e w' => e = .returned (.tuple #[]) ∧ ∃ m' c', MqAt w' M m' c' (pPart 9 x s).1 ∧ Sat w' S R (pPart 9 x s).2 ∧ Kept (SRM S R M) w w' := by
  obtain ⟨W, hW⟩ : ∃ W, W = w.alloc (.cells #[.pointer (some ⟨S, 0, none⟩)] 78) := ⟨_, rfl⟩
  have hbl : Below w.heap.size w W := by rw [hW]; exact (Below.refl _ _).alloc (Nat.le_refl _) _
  have q : W.cell? ⟨w.heap.size, 0, none⟩ = some (.pointer (some ⟨S, 0, none⟩)) := by rw [hW, cell_of_row _ _ _ _ _ _ (heap_alloc_new _ _)]; rfl
  have HS := Lib.hid (h.on hbl)
  have HM := Lib.hid (hm.below hbl)
  have HBL := Lib.hid hbl
  have HLS := Lib.hid hS
  have HLR := Lib.hid hR
  have HLM := Lib.hid (lt_of_block hm.box)
  have HW := Lib.hid hW
  have hmf : ∀ (fn : Fn) (first cap : Array Value) (w : World), (Instr.makeFunc fn first cap).run Tryd.prog w = .ok (.func fn first cap) w := fun _ _ _ _ => rfl
  have HP : Hid (pPart 9 x s = ({ x with sm := (pL p64 8 8 s).1 }, (pL p64 8 8 s).2)) := Lib.hid rfl
  have C := listU64 W S R s HS.out 8 8 (by omega) (by omega)
  rw [show ((8 : Nat) : Int) = 8 from rfl] at C
  have CH := Lib.hid C
  clear h hm hbl hW hS hR C
  go_enter Tryd.func37, Tryd.ntmps37
  go_upto_region 1 with fail
  rw [← HW.out]
  clear HW
  go_wp2_with fail
  refine Calls.mono CH.out ?_
  rintro e w1 ⟨v, rfl, hrow, hnew, h, k⟩
  have hm1 := HM.out.call k HLS.out HLR.out
  have hc := hm1.cell 23
  have hz := hm1.free 23
  simp only [Mg.cells] at hc
  have HM1 := Lib.hid hm1
  have HS1 := Lib.hid h
  have HK := Lib.hid k
  have HRW := Lib.hid hrow
  have HNW := Lib.hid (show ∀ ad, v.a = some ad → M + 1 ≤ ad.block from fun ad e => by have := hnew ad e; have := HLM.out; have := HBL.out.size; omega)
  obtain ⟨va, vn, vc⟩ := v
  simp only at HRW HNW ⊢
  clear h k hm1 hrow hnew HM HS CH
  go_wp2_with fail
  go_end0
  refine ⟨rfl, ?_⟩
  rw [HP.out, one_put]
  refine ⟨{ m with sm := ⟨va, vn, vc⟩ }, { c with sm := (pL p64 8 8 s).1 }, HM1.out.put ⟨HM1.out.dat.vt, HM1.out.dat.vs, HRW.out, HM1.out.dat.dt⟩ ⟨HM1.out.new.1, HM1.out.new.2.1, HNW.out, HM1.out.new.2.2.2⟩ (by simp [over, Mg.cells]) HM1.out.wd HM1.out.vt HM1.out.vs rfl HM1.out.dt, HS1.out.put HLS.out HLR.out, Kept.put HBL.out HK.out⟩

set_option maxHeartbeats 4000000 in
theorem read10 (w : World) (S R M : Nat) (s : Sr) (m : Mg) (c : Mc) (x : Mq) (h : Sat w S R s) (hm : MqAt w M m c x) (hS : S < M) (hR : R < M) :
    Calls Tryd.prog 37 #[.pointer (some ⟨S, 0, none⟩), .pointer (some ⟨M, 0, none⟩), .int .u8 10] w fun e w' => e = .returned (.tuple #[]) ∧ ∃ m' c', MqAt w' M m' c' (pPart 10 x s).1 ∧ Sat w' S R (pPart 10 x s).2 ∧ Kept (SRM S R M) w w' := by
  obtain ⟨W, hW⟩ : ∃ W, W = w.alloc (.cells #[.pointer (some ⟨S, 0, none⟩)] 78) := ⟨_, rfl⟩
  have hbl : Below w.heap.size w W := by rw [hW]; exact (Below.refl _ _).alloc (Nat.le_refl _) _
  have q : W.cell? ⟨w.heap.size, 0, none⟩ = some (.pointer (some ⟨S, 0, none⟩)) := by rw [hW, cell_of_row _ _ _ _ _ _ (heap_alloc_new _ _)]; rfl
  have HS := Lib.hid (h.on hbl)
  have HM := Lib.hid (hm.below hbl)
  have HBL := Lib.hid hbl
  have HLS := Lib.hid hS
  have HLR := Lib.hid hR
  have HLM := Lib.hid (lt_of_block hm.box)
  have HW := Lib.hid hW
  have hmf : ∀ (fn : Fn) (first cap : Array Value) (w : World), (Instr.makeFunc fn first cap).run Tryd.prog w = .ok (.func fn first cap) w := fun _ _ _ _ => rfl
  have HP : Hid (pPart 10 x s = ({ x with dt := (pDt s).1 }, (pDt s).2)) := Lib.hid rfl
  have C := data_any W S R w.heap.size s HS.out q
  have CH := Lib.hid C
  clear h hm hbl hW hS hR C
  go_enter Tryd.func37, Tryd.ntmps37
  go_upto_region 1 with fail
  rw [← HW.out]
  clear HW
  go_wp2_with fail
  refine Calls.mono CH.out ?_
  rintro e w1 ⟨v, rfl, hrow, hnew, h, k⟩
  have hm1 := HM.out.call k HLS.out HLR.out
  have hc := hm1.cell 24
  have hz := hm1.free 24
  simp only [Mg.cells] at hc
  have HM1 := Lib.hid hm1
  have HS1 := Lib.hid h
  have HK := Lib.hid k
  have HRW := Lib.hid hrow
  have HNW := Lib.hid (show ∀ ad, v.a = some ad → M + 1 ≤ ad.block from fun ad e => by have := hnew ad e; have := HLM.out; have := HBL.out.size; omega)
  obtain ⟨va, vn, vc⟩ := v
  simp only at HRW HNW ⊢
  clear h k hm1 hrow hnew HM HS CH
  go_wp2_with fail
  go_end0
  refine ⟨rfl, ?_⟩
  rw [HP.out, one_put]
  refine ⟨{ m with dt := ⟨va, vn, vc⟩ }, { c with dt := (pDt s).1 }, HM1.out.put ⟨HM1.out.dat.vt, HM1.out.dat.vs, HM1.out.dat.sm, HRW.out⟩ ⟨HM1.out.new.1, HM1.out.new.2.1, HM1.out.new.2.2.1, HNW.out⟩ (by simp [over, Mg.cells]) HM1.out.wd HM1.out.vt HM1.out.vs HM1.out.sm rfl, HS1.out.put HLS.out HLR.out, Kept.put HBL.out HK.out⟩
end Go.Proofs.YtmkeckablkccnaaDoor
