/- Requests, votes within a message are read. -/
import Derived.Test.YtmkeckablkccnaaDoorSr7
import Derived.Deep.RegionHeld3
namespace Go.Proofs.YtmkeckablkccnaaDoor
open Go.RowKit
set_option maxRecDepth 100000

theorem Rq.one (r : Rq) : ∀ u ∈ r.cells, u.oneCell' = true := by
  intro u hu
  simp [Rq.cells] at hu
  (repeat' (rcases hu with rfl | hu))
  all_goals first | rfl | (subst hu; rfl)
theorem MqAt.there {w : World} {M : Nat} {m : Mg} {c : Mc} {x : Mq} (h : MqAt w M m c x) (o k : Nat) (ho : o + k ≤ 25) : w.there M o k := there_part (there_row (n := 25) h.box rfl) ho

set_option maxHeartbeats 4000000 in
theorem read2 (w : World) (S R M : Nat) (s : Sr) (m : Mg) (c : Mc) (x : Mq) (h : Sat w S R s) (hm : MqAt w M m c x) (hS : S < M) (hR : R < M) :
    Calls Tryd.prog 37 #[.pointer (some ⟨S, 0, none⟩), .pointer (some ⟨M, 0, none⟩), .int .u8 2] w fun e w' => e = .returned (.tuple #[]) ∧ ∃ m' c', MqAt w' M m' c' (pPart 2 x s).1 ∧ Sat w' S R (pPart 2 x s).2 ∧ Kept (SRM S R M) w w' := by
  obtain ⟨W, hW⟩ : ∃ W, W = w.alloc (.cells #[.pointer (some ⟨S, 0, none⟩)] 78) := ⟨_, rfl⟩
  have hbl : Below w.heap.size w W := by rw [hW]; exact (Below.refl _ _).alloc (Nat.le_refl _) _
  have q : W.cell? ⟨w.heap.size, 0, none⟩ = some (.pointer (some ⟨S, 0, none⟩)) := by rw [hW, cell_of_row _ _ _ _ _ _ (heap_alloc_new _ _)]; rfl
  have HS := Lib.hid (h.on hbl)
  have HM := Lib.hid (hm.below hbl)
  have HBL := Lib.hid hbl
  have HLS := Lib.hid hS
  have HLR := Lib.hid hR
  have HLM := Lib.hid (lt_of_block hm.box)
  have HW := Lib.hid hW
  have hmf : ∀ (fn : Fn) (first cap : Array Value) (w : World), (Instr.makeFunc fn first cap).run Tryd.prog w = .ok (.func fn first cap) w := fun _ _ _ _ => rfl
  have HP : Hid (pPart 2 x s = ({ x with w := { x.w with rq := (pRq s).1 } }, (pRq s).2)) := Lib.hid rfl
  have C := req_any W S R s HS.out
  have CH := Lib.hid C
  clear h hm hbl hW hS hR C
  go_enter Tryd.func37, Tryd.ntmps37
  go_upto_region 1 with fail
  rw [← HW.out]
  clear HW
  go_wp2_with fail
  refine Calls.mono CH.out ?_
  rintro e w1 ⟨rfl, h, k⟩
  have hm1 := HM.out.call k HLS.out HLR.out
  have hc := hm1.cell 6
  have hz := hm1.free 6
  simp only [Mg.cells] at hc
  have HM1 := Lib.hid hm1
  have HS1 := Lib.hid h
  have HK := Lib.hid k
  clear h k hm1 HM HS CH
  have HTH := Lib.hid (HM1.out.there 6 5 (by omega))
  go_wp2_with (first | (refine wpList_store_mid rfl 27 (.tmp 27) (.tmp 25) rfl M 6 (pRq s).1.cells.toArray rfl rfl HTH.out size27 (all_oneCell_toArray (Rq.one _)) ?_; refine Hid.out ?_) | go_in)
  refine Lib.hid ?_
  have HW9 := Lib.hid (show w1.setCells M 6 (pRq s).1.cells = w1.setCells M 6 (pRq s).1.cells from rfl)
  obtain ⟨w9, hw9⟩ : ∃ w9, w9 = w1.setCells M 6 (pRq s).1.cells := ⟨_, rfl⟩
  rw [← hw9]
  have HE := Lib.hid hw9
  clear hw9 HW9 HTH
  go_wp2_with fail
  go_end0
  refine ⟨rfl, ?_⟩
  rw [HP.out, HE.out]
  refine ⟨{ m with rq := (pRq s).1 }, c, HM1.out.put ⟨HM1.out.dat.vt, HM1.out.dat.vs, HM1.out.dat.sm, HM1.out.dat.dt⟩ HM1.out.new (by simp [over, Mg.cells, Rq.cells]) (by rw [← HM1.out.wd]) HM1.out.vt HM1.out.vs HM1.out.sm HM1.out.dt, HS1.out.put HLS.out HLR.out, Kept.put HBL.out HK.out⟩

set_option maxHeartbeats 4000000 in
theorem read7 (w : World) (S R M : Nat) (s : Sr) (m : Mg) (c : Mc) (x : Mq) (h : Sat w S R s) (hm : MqAt w M m c x) (hS : S < M) (hR : R < M) :
    Calls Tryd.prog 37 #[.pointer (some ⟨S, 0, none⟩), .pointer (some ⟨M, 0, none⟩), .int .u8 7] w fun e w' => e = .returned (.tuple #[]) ∧ ∃ m' c', MqAt w' M m' c' (pPart 7 x s).1 ∧ Sat w' S R (pPart 7 x s).2 ∧ Kept (SRM S R M) w w' := by
  obtain ⟨W, hW⟩ : ∃ W, W = w.alloc (.cells #[.pointer (some ⟨S, 0, none⟩)] 78) := ⟨_, rfl⟩
  have hbl : Below w.heap.size w W := by rw [hW]; exact (Below.refl _ _).alloc (Nat.le_refl _) _
  have q : W.cell? ⟨w.heap.size, 0, none⟩ = some (.pointer (some ⟨S, 0, none⟩)) := by rw [hW, cell_of_row _ _ _ _ _ _ (heap_alloc_new _ _)]; rfl
  have HS := Lib.hid (h.on hbl)
  have HM := Lib.hid (hm.below hbl)
  have HBL := Lib.hid hbl
  have HLS := Lib.hid hS
  have HLR := Lib.hid hR
  have HLM := Lib.hid (lt_of_block hm.box)
  have HW := Lib.hid hW
  have hmf : ∀ (fn : Fn) (first cap : Array Value) (w : World), (Instr.makeFunc fn first cap).run Tryd.prog w = .ok (.func fn first cap) w := fun _ _ _ _ => rfl
  have HP : Hid (pPart 7 x s = ({ x with vt := (pVt s).1 }, (pVt s).2)) := Lib.hid rfl
  have C := vote_any W S R s HS.out
  have CH := Lib.hid C
  clear h hm hbl hW hS hR C
  go_enter Tryd.func37, Tryd.ntmps37
  go_upto_region 1 with fail
  rw [← HW.out]
  clear HW
  go_wp2_with fail
  refine Calls.mono CH.out ?_
  rintro e w1 ⟨v, rfl, hvw, hva, hvn, h, k⟩
  have hm1 := HM.out.call k HLS.out HLR.out
  have hc := hm1.cell 15
  have hz := hm1.free 15
  simp only [Mg.cells] at hc
  have HM1 := Lib.hid hm1
  have HS1 := Lib.hid h
  have HK := Lib.hid k
  have HVW := Lib.hid hvw
  have HVA := Lib.hid hva
  have HVN := Lib.hid (show NewV (M + 1) v from ⟨fun ad e => by have := hvn.1 ad e; have := HLM.out; have := HBL.out.size; omega, fun ad e => by have := hvn.2.1 ad e; have := HLM.out; have := HBL.out.size; omega, fun ad e => by have := hvn.2.2 ad e; have := HLM.out; have := HBL.out.size; omega⟩)
  clear h k hm1 hvw hva hvn HM HS CH
  have HTH := Lib.hid (HM1.out.there 15 7 (by omega))
  go_wp2_with (first | (refine wpList_store_mid rfl 32 (.tmp 62) (.tmp 60) rfl M 15 v.cells.toArray rfl rfl HTH.out size32' (all_oneCell_toArray (Vt.one v)) ?_; refine Hid.out ?_) | go_in)
  refine Lib.hid ?_
  have HW9 := Lib.hid (show w1.setCells M 15 v.cells = w1.setCells M 15 v.cells from rfl)
  obtain ⟨w9, hw9⟩ : ∃ w9, w9 = w1.setCells M 15 v.cells := ⟨_, rfl⟩
  rw [← hw9]
  have HE := Lib.hid hw9
  clear hw9 HW9 HTH
  go_wp2_with fail
  go_end0
  refine ⟨rfl, ?_⟩
  rw [HP.out, HE.out]
  refine ⟨{ m with vt := v }, { c with vt := (pVt s).1.c }, HM1.out.put ⟨HVA.out, HM1.out.dat.vs, HM1.out.dat.sm, HM1.out.dat.dt⟩ ⟨HVN.out, HM1.out.new.2.1, HM1.out.new.2.2.1, HM1.out.new.2.2.2⟩ (by simp [over, Mg.cells, Vt.cells]) HM1.out.wd (by simp only [toVp]; obtain ⟨e1, e2, e3, e4⟩ := HVW.out; rw [e1, e2, e3, e4]) HM1.out.vs HM1.out.sm HM1.out.dt, HS1.out.put HLS.out HLR.out, Kept.put HBL.out HK.out⟩

theorem ptr_load {w' : World} {g S : Nat} (h : w'.cell? ⟨g, 0, none⟩ = some (.pointer (some ⟨S, 0, none⟩))) : (Instr.loadAt 78 (.pointer (some ⟨g, 0, none⟩))).run Tryd.prog w' = .ok (.pointer (some ⟨S, 0, none⟩)) w' := by go_simp
theorem wp_st {ty : TypeId} {p v : Value} {w w1 : World} {o : Oper} {a : Act} {ox oy : Operand} {K : Act → World → Prop} {Q : Exit → Act → World → Prop} (h : (Instr.storeAt ty p v).run Tryd.prog w = .ok () w1) (hop : o.op = Op.store ty ox oy) (hx : a.eval ox = p) (hy : a.eval oy = v) (hd : o.dst = none) (hk : K a w1) : Oper.wp Tryd.prog o a w K Q := by
  have e : (execOp a.eval o).run Tryd.prog w = .ok .skip w1 := by
    unfold execOp
    simp [hop, hx, hy, h, Result.andThen]
  unfold Oper.wp
  rw [e, Oper.upon_skip, hd]
  exact hk
theorem cell_sr {w w' : World} {S R g : Nat} {v : Value} (k : Kept (SR S R) w w') (hS : g ≠ S) (hR : g ≠ R) (hc : w.cell? ⟨g, 0, none⟩ = some v) : w'.cell? ⟨g, 0, none⟩ = some v := by
  rw [← hc]
  exact World.cell?_of_block (k.block g (cell_block hc) (fun e => by rcases e with e | e; exact hS e; exact hR e))
theorem Sat.drew {w : World} {S R : Nat} {s : Sr} (h : Sat w S R s) : Sat w.drew S R s := h.on ((Below.refl _ _).drew)

set_option maxHeartbeats 8000000 in
theorem read8 (w : World) (S R M : Nat) (s : Sr) (m : Mg) (c : Mc) (x : Mq) (h : Sat w S R s) (hm : MqAt w M m c x) (hS : S < M) (hR : R < M) :
    Calls Tryd.prog 37 #[.pointer (some ⟨S, 0, none⟩), .pointer (some ⟨M, 0, none⟩), .int .u8 8] w fun e w' => e = .returned (.tuple #[]) ∧ ∃ m' c', MqAt w' M m' c' (pPart 8 x s).1 ∧ Sat w' S R (pPart 8 x s).2 ∧ Kept (SRM S R M) w w' := by
  obtain ⟨W, hW⟩ : ∃ W, W = w.alloc (.cells #[.pointer (some ⟨S, 0, none⟩)] 78) := ⟨_, rfl⟩
  have hbl : Below w.heap.size w W := by rw [hW]; exact (Below.refl _ _).alloc (Nat.le_refl _) _
  have q : W.cell? ⟨w.heap.size, 0, none⟩ = some (.pointer (some ⟨S, 0, none⟩)) := by rw [hW, cell_of_row _ _ _ _ _ _ (heap_alloc_new _ _)]; rfl
  have hsd := (h.on hbl).drew
  have HM := Lib.hid ((hm.below hbl).below ((Below.refl W.heap.size W).drew))
  have HBL := Lib.hid (hbl.drew)
  have HLS := Lib.hid hS
  have HLR := Lib.hid hR
  have HLM := Lib.hid (lt_of_block hm.box)
  have HW := Lib.hid hW
  have hmf : ∀ (fn : Fn) (first cap : Array Value) (w : World), (Instr.makeFunc fn first cap).run Tryd.prog w = .ok (.func fn first cap) w := fun _ _ _ _ => rfl
  obtain ⟨n, hn⟩ : ∃ n, n = p8 s := ⟨_, rfl⟩
  obtain ⟨z, hz⟩ : ∃ z, z = pL pVt n.1.toNat 4 n.2 := ⟨_, rfl⟩
  have HP : Hid (pPart 8 x s = ({ x with vs := z.1 }, z.2)) := Lib.hid (by rw [hz, hn]; rfl)
  have C1 := s8 W.drew S R s hsd
  have rn := p8_range hsd
  rw [← hn] at C1 rn
  have CH1 := Lib.hid C1
  have C2 := fun w1 (h1 : Sat w1 S R n.2) => listVt w1 S R n.2 h1 n.1.toNat 4 (by omega) (by omega)
  rw [← hz, show ((n.1.toNat : Nat) : Int) = n.1 from by omega, show ((4 : Nat) : Int) = 4 from rfl] at C2
  have CH2 := Lib.hid C2
  have HGS := Lib.hid (show w.heap.size ≠ S by have := h.lt; omega)
  have HGR := Lib.hid (show w.heap.size ≠ R by have := h.lt; omega)
  obtain ⟨gx, hgx⟩ : ∃ g, g = w.heap.size := ⟨_, rfl⟩
  rw [← hgx] at q HGS HGR
  have HGX := Lib.hid hgx
  have Q := Lib.hid q
  clear h hm hbl hW hS hR C1 C2 hsd hn hz hgx
  go_enter Tryd.func37, Tryd.ntmps37
  go_upto_region 1 with fail
  rw [← HW.out, ← HGX.out]
  clear HW
  go_wp2_with fail
  have hWd := (show W.drew.cell? ⟨gx, 0, none⟩ = some (.pointer (some ⟨S, 0, none⟩)) from Q.out)
  refine wp_region_held_drew (S := fun w' => w'.cell? ⟨gx, 0, none⟩ = some (.pointer (some ⟨S, 0, none⟩))) (by kernel_rfl) hWd (fun hS => ?_)
  clear hWd q
  refine takeA (i := 0) (v := .pointer (some ⟨M, 0, none⟩)) ({ tmps := #[.pointer (some ⟨S, 0, none⟩), .pointer (some ⟨M, 0, none⟩), .int .u8 8, .pointer (some ⟨gx, 0, none⟩), undef, undef, .int .u8 8, .bool false, .bool false, undef, undef, undef, undef, undef, .bool false, .bool false, undef, undef, undef, undef, undef, .bool false, .bool false, undef, undef, undef, undef, undef, .bool false, .bool false, undef, undef, undef, undef, undef, .bool false, .bool false, undef, undef, undef, undef, undef, .bool false, .bool false, undef, undef, undef, undef, undef, .bool false, .bool false, undef, undef, undef, undef, undef, .bool false, .bool false, undef, undef, undef, undef, undef, .bool true, .bool true, .pointer (some ⟨M, 0, none⟩), undef, undef, undef, undef, undef, undef, undef, undef, undef, undef, undef, undef, undef, undef, undef, undef, undef, undef, undef, undef, undef, undef, undef, undef, undef, undef], defers := [] }) rfl (by kernel_rfl) (by kernel_rfl) (by kernel_rfl) (fun _ _ _ h => h) (.inl ⟨rfl, fun _ _ => rfl⟩) hS rfl ?_
  refine takeA (i := 1) (v := .pointer (some ⟨S, 0, none⟩)) ({ tmps := #[.pointer (some ⟨S, 0, none⟩), .pointer (some ⟨M, 0, none⟩), .int .u8 8, .pointer (some ⟨gx, 0, none⟩), undef, undef, .int .u8 8, .bool false, .bool false, undef, undef, undef, undef, undef, .bool false, .bool false, undef, undef, undef, undef, undef, .bool false, .bool false, undef, undef, undef, undef, undef, .bool false, .bool false, undef, undef, undef, undef, undef, .bool false, .bool false, undef, undef, undef, undef, undef, .bool false, .bool false, undef, undef, undef, undef, undef, .bool false, .bool false, undef, undef, undef, undef, undef, .bool false, .bool false, undef, undef, undef, undef, undef, .bool true, .bool true, .pointer (some ⟨M, 0, none⟩), .pointer (some ⟨S, 0, none⟩), undef, undef, undef, undef, undef, undef, undef, undef, undef, undef, undef, undef, undef, undef, undef, undef, undef, undef, undef, undef, undef, undef, undef, undef, undef], defers := [] }) rfl (by kernel_rfl) (by kernel_rfl) (by kernel_rfl) (fun _ _ _ h => h) (yi_load 78 (.tmp 3) _ rfl rfl rfl (fun w' h => ptr_load h)) hS rfl ?_
  refine takeA (i := 2) (v := .pointer (some ⟨S, 0, none⟩)) ({ tmps := #[.pointer (some ⟨S, 0, none⟩), .pointer (some ⟨M, 0, none⟩), .int .u8 8, .pointer (some ⟨gx, 0, none⟩), undef, undef, .int .u8 8, .bool false, .bool false, undef, undef, undef, undef, undef, .bool false, .bool false, undef, undef, undef, undef, undef, .bool false, .bool false, undef, undef, undef, undef, undef, .bool false, .bool false, undef, undef, undef, undef, undef, .bool false, .bool false, undef, undef, undef, undef, undef, .bool false, .bool false, undef, undef, undef, undef, undef, .bool false, .bool false, undef, undef, undef, undef, undef, .bool false, .bool false, undef, undef, undef, undef, undef, .bool true, .bool true, .pointer (some ⟨M, 0, none⟩), .pointer (some ⟨S, 0, none⟩), .pointer (some ⟨S, 0, none⟩), undef, undef, undef, undef, undef, undef, undef, undef, undef, undef, undef, undef, undef, undef, undef, undef, undef, undef, undef, undef, undef, undef, undef, undef], defers := [] }) rfl (by kernel_rfl) (by kernel_rfl) (by kernel_rfl) (fun _ _ _ h => h) (yi_load 78 (.tmp 3) _ rfl rfl rfl (fun w' h => ptr_load h)) hS rfl ?_
  refine takeA (i := 5) (v := .pointer (some ⟨S, 0, none⟩)) ({ tmps := #[.pointer (some ⟨S, 0, none⟩), .pointer (some ⟨M, 0, none⟩), .int .u8 8, .pointer (some ⟨gx, 0, none⟩), undef, undef, .int .u8 8, .bool false, .bool false, undef, undef, undef, undef, undef, .bool false, .bool false, undef, undef, undef, undef, undef, .bool false, .bool false, undef, undef, undef, undef, undef, .bool false, .bool false, undef, undef, undef, undef, undef, .bool false, .bool false, undef, undef, undef, undef, undef, .bool false, .bool false, undef, undef, undef, undef, undef, .bool false, .bool false, undef, undef, undef, undef, undef, .bool false, .bool false, undef, undef, undef, undef, undef, .bool true, .bool true, .pointer (some ⟨M, 0, none⟩), .pointer (some ⟨S, 0, none⟩), .pointer (some ⟨S, 0, none⟩), undef, undef, .pointer (some ⟨S, 0, none⟩), undef, undef, undef, undef, undef, undef, undef, undef, undef, undef, undef, undef, undef, undef, undef, undef, undef, undef, undef, undef, undef], defers := [] }) rfl (by kernel_rfl) (by kernel_rfl) (by kernel_rfl) (fun _ _ _ h => h) (yi_load 78 (.tmp 3) _ rfl rfl rfl (fun w' h => ptr_load h)) hS rfl ?_
  refine takeA (i := 6) (v := .func (.func 70) #[.pointer (some ⟨S, 0, none⟩)] #[]) ({ tmps := #[.pointer (some ⟨S, 0, none⟩), .pointer (some ⟨M, 0, none⟩), .int .u8 8, .pointer (some ⟨gx, 0, none⟩), undef, undef, .int .u8 8, .bool false, .bool false, undef, undef, undef, undef, undef, .bool false, .bool false, undef, undef, undef, undef, undef, .bool false, .bool false, undef, undef, undef, undef, undef, .bool false, .bool false, undef, undef, undef, undef, undef, .bool false, .bool false, undef, undef, undef, undef, undef, .bool false, .bool false, undef, undef, undef, undef, undef, .bool false, .bool false, undef, undef, undef, undef, undef, .bool false, .bool false, undef, undef, undef, undef, undef, .bool true, .bool true, .pointer (some ⟨M, 0, none⟩), .pointer (some ⟨S, 0, none⟩), .pointer (some ⟨S, 0, none⟩), undef, undef, .pointer (some ⟨S, 0, none⟩), .func (.func 70) #[.pointer (some ⟨S, 0, none⟩)] #[], undef, undef, undef, undef, undef, undef, undef, undef, undef, undef, undef, undef, undef, undef, undef, undef, undef, undef, undef, undef], defers := [] }) rfl (by kernel_rfl) (by kernel_rfl) (by kernel_rfl) (fun _ _ _ h => h) (.inl ⟨rfl, fun w' _ => by go_simp⟩) hS rfl ?_
  refine wpAnyH_ready (rs := [3]) (by kernel_rfl) (by simp) ?_
  refine AllReadyH.cons rfl (fun K hK => ?_) AllReadyH.nil
  rw [if_pos (by rfl)]
  go_simp
  refine Calls.mono (CH1.out) ?_
  rintro e w1 ⟨rfl, h1, hb⟩
  have k1 := hb
  refine hK.out ({ tmps := #[.pointer (some ⟨S, 0, none⟩), .pointer (some ⟨M, 0, none⟩), .int .u8 8, .pointer (some ⟨gx, 0, none⟩), undef, undef, .int .u8 8, .bool false, .bool false, undef, undef, undef, undef, undef, .bool false, .bool false, undef, undef, undef, undef, undef, .bool false, .bool false, undef, undef, undef, undef, undef, .bool false, .bool false, undef, undef, undef, undef, undef, .bool false, .bool false, undef, undef, undef, undef, undef, .bool false, .bool false, undef, undef, undef, undef, undef, .bool false, .bool false, undef, undef, undef, undef, undef, .bool false, .bool false, undef, undef, undef, undef, undef, .bool true, .bool true, .pointer (some ⟨M, 0, none⟩), .pointer (some ⟨S, 0, none⟩), .pointer (some ⟨S, 0, none⟩), .int .u8 n.1, undef, .pointer (some ⟨S, 0, none⟩), .func (.func 70) #[.pointer (some ⟨S, 0, none⟩)] #[], undef, undef, undef, undef, undef, undef, undef, undef, undef, undef, undef, undef, undef, undef, undef, undef, undef, undef, undef, undef], defers := [] }) w1 ((fun h hb => cell_sr hb HGS.out HGR.out h) hS hb) (fun hS => ?_)
  clear hK K hb
  have C3 := Lib.hid (CH2.out w1 h1)
  have K1 := Lib.hid k1
  clear h1 k1
  refine takeA (i := 4) (v := .int .i64 n.1) ({ tmps := #[.pointer (some ⟨S, 0, none⟩), .pointer (some ⟨M, 0, none⟩), .int .u8 8, .pointer (some ⟨gx, 0, none⟩), undef, undef, .int .u8 8, .bool false, .bool false, undef, undef, undef, undef, undef, .bool false, .bool false, undef, undef, undef, undef, undef, .bool false, .bool false, undef, undef, undef, undef, undef, .bool false, .bool false, undef, undef, undef, undef, undef, .bool false, .bool false, undef, undef, undef, undef, undef, .bool false, .bool false, undef, undef, undef, undef, undef, .bool false, .bool false, undef, undef, undef, undef, undef, .bool false, .bool false, undef, undef, undef, undef, undef, .bool true, .bool true, .pointer (some ⟨M, 0, none⟩), .pointer (some ⟨S, 0, none⟩), .pointer (some ⟨S, 0, none⟩), .int .u8 n.1, .int .i64 n.1, .pointer (some ⟨S, 0, none⟩), .func (.func 70) #[.pointer (some ⟨S, 0, none⟩)] #[], undef, undef, undef, undef, undef, undef, undef, undef, undef, undef, undef, undef, undef, undef, undef, undef, undef, undef, undef, undef], defers := [] }) rfl (by kernel_rfl) (by kernel_rfl) (by kernel_rfl) (fun _ _ _ h => h) (.inl ⟨rfl, fun w' _ => by go_simp; rw [IntKind.wrap_i64]; omega⟩) hS rfl ?_
  refine wpAnyH_ready (rs := [7]) (by kernel_rfl) (by simp) ?_
  refine AllReadyH.cons rfl (fun K hK => ?_) AllReadyH.nil
  rw [if_pos (by rfl)]
  go_simp
  refine Calls.mono (C3.out) ?_
  rintro e w2 ⟨v, vl, rfl, hva, hvp, hvn, h2, hb⟩
  have k2 := hb
  refine hK.out ({ tmps := #[.pointer (some ⟨S, 0, none⟩), .pointer (some ⟨M, 0, none⟩), .int .u8 8, .pointer (some ⟨gx, 0, none⟩), undef, undef, .int .u8 8, .bool false, .bool false, undef, undef, undef, undef, undef, .bool false, .bool false, undef, undef, undef, undef, undef, .bool false, .bool false, undef, undef, undef, undef, undef, .bool false, .bool false, undef, undef, undef, undef, undef, .bool false, .bool false, undef, undef, undef, undef, undef, .bool false, .bool false, undef, undef, undef, undef, undef, .bool false, .bool false, undef, undef, undef, undef, undef, .bool false, .bool false, undef, undef, undef, undef, undef, .bool true, .bool true, .pointer (some ⟨M, 0, none⟩), .pointer (some ⟨S, 0, none⟩), .pointer (some ⟨S, 0, none⟩), .int .u8 n.1, .int .i64 n.1, .pointer (some ⟨S, 0, none⟩), .func (.func 70) #[.pointer (some ⟨S, 0, none⟩)] #[], .slice v.a v.n v.c, undef, undef, undef, undef, undef, undef, undef, undef, undef, undef, undef, undef, undef, undef, undef, undef, undef, undef, undef], defers := [] }) w2 ((fun h hb => cell_sr hb HGS.out HGR.out h) hS hb) (fun hS => ?_)
  clear hK K hb
  refine takeA (i := 8) (v := .pointer (some ⟨M, 0, none⟩)) ({ tmps := #[.pointer (some ⟨S, 0, none⟩), .pointer (some ⟨M, 0, none⟩), .int .u8 8, .pointer (some ⟨gx, 0, none⟩), undef, undef, .int .u8 8, .bool false, .bool false, undef, undef, undef, undef, undef, .bool false, .bool false, undef, undef, undef, undef, undef, .bool false, .bool false, undef, undef, undef, undef, undef, .bool false, .bool false, undef, undef, undef, undef, undef, .bool false, .bool false, undef, undef, undef, undef, undef, .bool false, .bool false, undef, undef, undef, undef, undef, .bool false, .bool false, undef, undef, undef, undef, undef, .bool false, .bool false, undef, undef, undef, undef, undef, .bool true, .bool true, .pointer (some ⟨M, 0, none⟩), .pointer (some ⟨S, 0, none⟩), .pointer (some ⟨S, 0, none⟩), .int .u8 n.1, .int .i64 n.1, .pointer (some ⟨S, 0, none⟩), .func (.func 70) #[.pointer (some ⟨S, 0, none⟩)] #[], .slice v.a v.n v.c, .pointer (some ⟨M, 0, none⟩), undef, undef, undef, undef, undef, undef, undef, undef, undef, undef, undef, undef, undef, undef, undef, undef, undef, undef], defers := [] }) rfl (by kernel_rfl) (by kernel_rfl) (by kernel_rfl) (fun _ _ _ h => h) (.inl ⟨rfl, fun w' _ => by go_simp⟩) hS rfl ?_
  refine takeA (i := 9) (v := .pointer (some ⟨M, 22, none⟩)) ({ tmps := #[.pointer (some ⟨S, 0, none⟩), .pointer (some ⟨M, 0, none⟩), .int .u8 8, .pointer (some ⟨gx, 0, none⟩), undef, undef, .int .u8 8, .bool false, .bool false, undef, undef, undef, undef, undef, .bool false, .bool false, undef, undef, undef, undef, undef, .bool false, .bool false, undef, undef, undef, undef, undef, .bool false, .bool false, undef, undef, undef, undef, undef, .bool false, .bool false, undef, undef, undef, undef, undef, .bool false, .bool false, undef, undef, undef, undef, undef, .bool false, .bool false, undef, undef, undef, undef, undef, .bool false, .bool false, undef, undef, undef, undef, undef, .bool true, .bool true, .pointer (some ⟨M, 0, none⟩), .pointer (some ⟨S, 0, none⟩), .pointer (some ⟨S, 0, none⟩), .int .u8 n.1, .int .i64 n.1, .pointer (some ⟨S, 0, none⟩), .func (.func 70) #[.pointer (some ⟨S, 0, none⟩)] #[], .slice v.a v.n v.c, .pointer (some ⟨M, 0, none⟩), .pointer (some ⟨M, 22, none⟩), undef, undef, undef, undef, undef, undef, undef, undef, undef, undef, undef, undef, undef, undef, undef, undef, undef], defers := [] }) rfl (by kernel_rfl) (by kernel_rfl) (by kernel_rfl) (fun _ _ _ h => h) (.inl ⟨rfl, fun w' _ => by go_simp⟩) hS rfl ?_
  have hm2 := (HM.out.call K1.out HLS.out HLR.out).call k2 HLS.out HLR.out
  have hrun : (Instr.storeAt 33 (.pointer (some ⟨M, 22, none⟩)) (.slice v.a v.n v.c)).run Tryd.prog w2 = .ok () (w2.setCell ⟨M, 22, none⟩ (.slice v.a v.n v.c)) := by
    have hc2 := hm2.cell 22
    have hz2 := hm2.free 22
    simp only [Mg.cells] at hc2
    clear hm2 hva hvp hvn h2 k2
    go_simp
  refine wpAnyH_ready (rs := [10]) (by kernel_rfl) (by simp) ?_
  refine AllReadyH.cons rfl (fun K hK => ?_) AllReadyH.nil
  rw [if_pos (by rfl)]
  refine wp_st hrun rfl rfl rfl rfl ?_
  have HM2 := Lib.hid hm2
  have HS2 := Lib.hid h2
  have K2 := Lib.hid k2
  have HVA := Lib.hid hva
  have HVP := Lib.hid hvp
  have HVN := Lib.hid hvn
  have HSS := Lib.hid hS
  refine hK.out ({ tmps := #[.pointer (some ⟨S, 0, none⟩), .pointer (some ⟨M, 0, none⟩), .int .u8 8, .pointer (some ⟨gx, 0, none⟩), undef, undef, .int .u8 8, .bool false, .bool false, undef, undef, undef, undef, undef, .bool false, .bool false, undef, undef, undef, undef, undef, .bool false, .bool false, undef, undef, undef, undef, undef, .bool false, .bool false, undef, undef, undef, undef, undef, .bool false, .bool false, undef, undef, undef, undef, undef, .bool false, .bool false, undef, undef, undef, undef, undef, .bool false, .bool false, undef, undef, undef, undef, undef, .bool false, .bool false, undef, undef, undef, undef, undef, .bool true, .bool true, .pointer (some ⟨M, 0, none⟩), .pointer (some ⟨S, 0, none⟩), .pointer (some ⟨S, 0, none⟩), .int .u8 n.1, .int .i64 n.1, .pointer (some ⟨S, 0, none⟩), .func (.func 70) #[.pointer (some ⟨S, 0, none⟩)] #[], .slice v.a v.n v.c, .pointer (some ⟨M, 0, none⟩), .pointer (some ⟨M, 22, none⟩), undef, undef, undef, undef, undef, undef, undef, undef, undef, undef, undef, undef, undef, undef, undef, undef, undef], defers := [] }) (w2.setCell ⟨M, 22, none⟩ (.slice v.a v.n v.c)) ?_ (fun hS => ?_)
  · rw [World.cell?_of_block (w := w2) (heap_setCell_other _ _ _ _ (by simp only; have := HLM.out; have := HGX.out; omega))]
    exact HSS.out
  clear hK K hm2 h2 k2 hva hvp hvn hrun hS
  refine wpAnyH_done (by kernel_rfl) ?_ _
  go_wp2_with fail
  go_end0
  refine ⟨rfl, ?_⟩
  rw [HP.out, one_put]
  refine ⟨{ m with vs := v }, { c with vs := vl }, HM2.out.put ⟨HM2.out.dat.vt, HVA.out, HM2.out.dat.sm, HM2.out.dat.dt⟩ ⟨HM2.out.new.1, ?_, HM2.out.new.2.2.1, HM2.out.new.2.2.2⟩ (by simp [over, Mg.cells]) HM2.out.wd HM2.out.vt HVP.out HM2.out.sm HM2.out.dt, HS2.out.put HLS.out HLR.out, Kept.put HBL.out (K1.out.trans K2.out (fun _ _ h => h))⟩
  have hle : M + 1 ≤ w1.heap.size := by have := HLM.out; have := HBL.out.size; have := K1.out.size; omega
  exact ⟨fun ad e => Nat.le_trans hle (HVN.out.1 ad e), fun x hx => ⟨fun ad e => Nat.le_trans hle ((HVN.out.2 x hx).1 ad e), fun ad e => Nat.le_trans hle ((HVN.out.2 x hx).2.1 ad e), fun ad e => Nat.le_trans hle ((HVN.out.2 x hx).2.2 ad e)⟩⟩
end Go.Proofs.YtmkeckablkccnaaDoor
