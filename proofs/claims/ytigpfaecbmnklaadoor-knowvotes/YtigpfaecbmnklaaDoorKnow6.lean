/- What is seen. -/
import Derived.Test.YtigpfaecbmnklaaDoorKnow5
namespace Go.Proofs.YtigpfaecbmnklaaDoor
open Go.RowKit Go.Maps
set_option maxRecDepth 100000

/-- P4.1: a message without votes is seen -/
def seeK (S : Kn) (m : Mg) (c : Mc) : Kn := if isM m c then { S with m := S.m ++ [toU (encM m c)], r := if m.rq = Rq.zero then S.r else S.r ++ [m.rq] } else S

theorem ownB_stay {w w' : World} {ao : Option Addr} {n cap : Nat} {xs : List Value} (h : w.ownsRow 0 5 1 (.slice ao n cap) n xs) (hs : ∀ (g : Nat) (A : Array Value) (t : TypeId) (fr : Nat × Nat), w.heap[g]? = some (Obj.cells A t fr) → t = 5 → w'.heap[g]? = some (Obj.cells A t fr)) : w'.ownsRow 0 5 1 (.slice ao n cap) n xs := by
  refine ⟨h.1, ?_⟩
  rcases h.2 with hn | ⟨g, cap, cur, e, hb, hgg, rest⟩
  · exact .inl hn
  · exact .inr ⟨g, cap, cur, e, hb, hs _ _ _ _ hgg rfl, rest⟩

set_option maxHeartbeats 8000000 in
theorem see20 (H : Nat) (w : World) (B : Nat) (S : Kn) (h : Kw H w B S) (m : Mg) (c : Mc) (hm : MgAt w m c) (hok : McOk c) (ht : Tab w) (h6 : m.k ≠ 6) (hvs : m.vs = ⟨none, 0, 0⟩) (hk : m.rq.ok) (hl : S.m.length ≤ 100000) (hl2 : S.r.length ≤ 100000) :
    Calls Tryd.prog 20 #[.pointer (some ⟨B, 0, none⟩), .agg m.cells.toArray] w fun e w' => e = .returned (.tuple #[]) ∧ Kw H w' B (seeK S m c) ∧ KStep H B w w' := by
  obtain ⟨W, hW⟩ : ∃ W, W = w.alloc (.cells m.cells.toArray 37) := ⟨_, rfl⟩
  have hbl : Below w.heap.size w W := by rw [hW]; exact (Below.refl _ _).alloc (Nat.le_refl _) _
  have hbx : W.heap[w.heap.size]? = some (.cells m.cells.toArray 37 (0, 0)) := by rw [hW]; exact heap_alloc_new _ _
  have CE := Lib.hid (enc_ok W m c (hm.below hbl) hok (Tab.on ht hbl))
  have hlen := fun hi => encM_len hm (c := c) hi
  have hHw := h.le
  have hgB : w.heap.size ≠ B := by have := h.lt; omega
  obtain ⟨o, h⟩ := h
  have hWK := h.on hbl
  obtain ⟨S', hS'⟩ : ∃ S', S' = seeK S m c := ⟨_, rfl⟩
  rw [← hS']
  unfold seeK at hS'
  have HST0 := Lib.hid (KStep.of (B := B) hbl hHw)
  have HNE := Lib.hid (show o 2 ≠ some B from fun e => (h.ne 2 B (by decide) e).1 rfl)
  have CVO := Lib.hid (fun w' => votesOf54 w' m h6 hvs)
  have CRO := Lib.hid (fun w' => requestsOf56 w' m h6 hvs)
  generalize hel : encM m c = el at *
  generalize isM m c = ib at *
  have HL := Lib.hid hlen
  have HS' := Lib.hid hS'
  have HBX := Lib.hid hbx
  have HBL := Lib.hid hbl
  have HW := Lib.hid hW
  have HWK := Lib.hid hWK
  have HGB := Lib.hid hgB
  clear hW hbx hbl h hWK hm hok ht hS' hvs h6 hlen hel hgB
  simp only [Mg.cells] at HW ⊢
  go_enter Tryd.func20, Tryd.ntmps20
  go_upto_region 1 with fail
  rw [← HW.out]
  have eA : (#[.int .u8 m.k, .int .u8 m.f, .int .u8 m.t, .int .u8 m.e, .int .u32 m.vw, .int .u32 m.sq, .int .u8 m.rq.c, .int .u32 m.rq.t, .int .u8 m.rq.k, .int .u8 m.rq.y, .int .u16 m.rq.v, .int .u64 m.ro, .int .u8 m.ct, .int .u8 m.pg, .int .u32 m.rs, .int .u8 m.vt.f, .int .u8 m.vt.e, .int .u32 m.vt.vw, .int .u32 m.vt.lo, .slice m.vt.ms.a m.vt.ms.n m.vt.ms.c, .slice m.vt.p.a m.vt.p.n m.vt.p.c, .slice m.vt.q.a m.vt.q.n m.vt.q.c, .slice m.vs.a m.vs.n m.vs.c, .slice m.sm.a m.sm.n m.sm.c, .slice m.dt.a m.dt.n m.dt.c] : Array Value) = m.cells.toArray := rfl
  rw [eA]
  clear eA HW
  have HSZ := Lib.hid (show m.cells.toArray.size = 25 from rfl)
  generalize m.cells.toArray = A at *
  refine wp_region_lit ?_
  refine wpList_load_row rfl 37 (.tmp 3) rfl w.heap.size rfl 37 _ (0, 0) _ HBX.out Tryd.underlying37 rfl (by rw [HSZ.out]; exact size37) ?_
  go_wp2_with fail
  refine Calls.mono CE.out ?_
  rintro e W1 ⟨hres, hb1⟩
  have B1 := Lib.hid hb1
  have HKS1 := Lib.hid (HST0.out.trans (KStep.of (B := B) hb1 (Nat.le_trans hHw HBL.out.size)))
  have HK1 := Lib.hid (HWK.out.on hb1)
  have HBX1 := Lib.hid ((hb1.block _ (lt_of_block HBX.out)).trans HBX.out)
  clear hb1 CE
  rcases hres with ⟨rfl, rfl⟩ | ⟨rfl, ao, kc, rfl, hnew⟩
  · go_wp2_with fail
    (try simp only [Exit.inBlock, Exit.then])
    refine bodyPost_ret (results_none rfl _ _ _) rfl ?_
    refine ⟨rfl, ?_⟩
    rw [HS'.out]
    (try rw [if_neg (by simp)])
    exact ⟨⟨o, HK1.out⟩, HKS1.out⟩
  · have hl8 := HL.out rfl
    have hKd := HK1.out.on ((Below.refl W1.heap.size W1).drew)
    have CA := Lib.hid (add53 W1.drew B 2 (knC o) (o 2) S.m (toU el) (by simp only [toU, List.length_map]; omega) hKd.box rfl hKd.m HNE.out hl)
    have LC := Lib.hid (fun (w' : World) (h' : w'.ownsRow 0 5 1 (.slice ao el.length kc) el.length (vals el)) => str_bytes (c := kc) (own_bytes h') (fun e => (hnew.none e).1))
    have STAY := Lib.hid (fun w2 (h1 : W1.drew.heap[w.heap.size]? = some (.cells A 37 (0, 0)) ∧ W1.drew.ownsRow 0 5 1 (.slice ao el.length kc) el.length (vals el)) (ha : Added stV 9 W1.drew w2 B 2 (knC o) (o 2) (S.m ++ [toU el])) => And.intro (added_stay hKd.m ha h1.1 HGB.out) (ownB_stay h1.2 (fun g A t fr hg ht5 => added_stay hKd.m ha hg (fun e => by
      subst e
      have := hKd.box
      rw [hg] at this
      simp at this
      obtain ⟨_, h2, _⟩ := this
      rw [ht5] at h2
      cases h2))))
    have FIN := Lib.hid (fun w2 (ha : Added stV 9 W1.drew w2 B 2 (knC o) (o 2) (S.m ++ [toU el])) => And.intro (kw_m hKd ha).1 (HKS1.out.trans ((KStep.of (B := B) ((Below.refl _ W1).drew) (Nat.le_trans hHw (Nat.le_trans HBL.out.size B1.out.size))).trans (kw_m hKd ha).2)))
    have HSI := Lib.hid (And.intro HBX1.out hnew.1)
    have hsx : strOfNums el = ⟨(toU el).toArray⟩ := rfl
    rw [hsx] at LC
    generalize (⟨(toU el).toArray⟩ : ByteArray) = sx at *
    generalize hln : el.length = ln at *
    clear hnew hln hsx hKd
    obtain ⟨gx, hgx⟩ : ∃ g, g = w.heap.size := ⟨_, rfl⟩
    rw [← hgx] at STAY HSI HGB HBX1 ⊢
    have HGX := Lib.hid hgx
    clear hgx
    go_upto_region 3 with fail
    refine wp_region_held_drew (S := fun w' => w'.heap[gx]? = some (.cells A 37 (0, 0)) ∧ w'.ownsRow 0 5 1 (.slice ao ln kc) ln (vals el)) (by kernel_rfl) ⟨box_drew2 HSI.out.1, HSI.out.2⟩ (fun hS => ?_)
    refine takeA (i := 0) (v := .pointer (some ⟨B, 0, none⟩)) ({ tmps := #[.pointer (some ⟨B, 0, none⟩), .agg A, undef, .pointer (some ⟨gx, 0, none⟩), .slice ao ln kc, .int .i64 0, undef, undef, undef, undef, .tuple #[.slice ao ln kc, .int .i64 0], .agg A, .tuple #[.slice ao ln kc, .int .i64 0], .slice ao ln kc, .int .i64 0, .int .i64 0, .bool false, .pointer (some ⟨B, 0, none⟩), undef, undef, undef, undef, undef, undef, undef, undef, undef, undef, undef, undef, undef, undef, undef, undef, undef, undef, undef, undef, undef, undef, undef, undef, undef, undef, undef, undef, undef, undef, undef, undef, undef, undef, undef], defers := [] }) rfl (by kernel_rfl) (by kernel_rfl) (by kernel_rfl) (fun _ _ _ h => h) (.inl ⟨rfl, fun _ _ => rfl⟩) hS rfl ?_
    refine takeA (i := 1) (v := .pointer (some ⟨B, 0, none⟩)) ({ tmps := #[.pointer (some ⟨B, 0, none⟩), .agg A, undef, .pointer (some ⟨gx, 0, none⟩), .slice ao ln kc, .int .i64 0, undef, undef, undef, undef, .tuple #[.slice ao ln kc, .int .i64 0], .agg A, .tuple #[.slice ao ln kc, .int .i64 0], .slice ao ln kc, .int .i64 0, .int .i64 0, .bool false, .pointer (some ⟨B, 0, none⟩), .pointer (some ⟨B, 0, none⟩), undef, undef, undef, undef, undef, undef, undef, undef, undef, undef, undef, undef, undef, undef, undef, undef, undef, undef, undef, undef, undef, undef, undef, undef, undef, undef, undef, undef, undef, undef, undef, undef, undef, undef], defers := [] }) rfl (by kernel_rfl) (by kernel_rfl) (by kernel_rfl) (fun _ _ _ h => h) (.inl ⟨rfl, fun w' _ => by go_simp⟩) hS rfl ?_
    refine takeA (i := 2) (v := .pointer (some ⟨B, 2, none⟩)) ({ tmps := #[.pointer (some ⟨B, 0, none⟩), .agg A, undef, .pointer (some ⟨gx, 0, none⟩), .slice ao ln kc, .int .i64 0, undef, undef, undef, undef, .tuple #[.slice ao ln kc, .int .i64 0], .agg A, .tuple #[.slice ao ln kc, .int .i64 0], .slice ao ln kc, .int .i64 0, .int .i64 0, .bool false, .pointer (some ⟨B, 0, none⟩), .pointer (some ⟨B, 0, none⟩), .pointer (some ⟨B, 2, none⟩), undef, undef, undef, undef, undef, undef, undef, undef, undef, undef, undef, undef, undef, undef, undef, undef, undef, undef, undef, undef, undef, undef, undef, undef, undef, undef, undef, undef, undef, undef, undef, undef, undef], defers := [] }) rfl (by kernel_rfl) (by kernel_rfl) (by kernel_rfl) (fun _ _ _ h => h) (.inl ⟨rfl, fun w' _ => by go_simp⟩) hS rfl ?_
    refine takeA (i := 3) (v := .slice ao ln kc) ({ tmps := #[.pointer (some ⟨B, 0, none⟩), .agg A, undef, .pointer (some ⟨gx, 0, none⟩), .slice ao ln kc, .int .i64 0, undef, undef, undef, undef, .tuple #[.slice ao ln kc, .int .i64 0], .agg A, .tuple #[.slice ao ln kc, .int .i64 0], .slice ao ln kc, .int .i64 0, .int .i64 0, .bool false, .pointer (some ⟨B, 0, none⟩), .pointer (some ⟨B, 0, none⟩), .pointer (some ⟨B, 2, none⟩), .slice ao ln kc, undef, undef, undef, undef, undef, undef, undef, undef, undef, undef, undef, undef, undef, undef, undef, undef, undef, undef, undef, undef, undef, undef, undef, undef, undef, undef, undef, undef, undef, undef, undef, undef], defers := [] }) rfl (by kernel_rfl) (by kernel_rfl) (by kernel_rfl) (fun _ _ _ h => h) (.inl ⟨rfl, fun _ _ => rfl⟩) hS rfl ?_
    refine takeA (i := 4) (v := .string sx) ({ tmps := #[.pointer (some ⟨B, 0, none⟩), .agg A, undef, .pointer (some ⟨gx, 0, none⟩), .slice ao ln kc, .int .i64 0, undef, undef, undef, undef, .tuple #[.slice ao ln kc, .int .i64 0], .agg A, .tuple #[.slice ao ln kc, .int .i64 0], .slice ao ln kc, .int .i64 0, .int .i64 0, .bool false, .pointer (some ⟨B, 0, none⟩), .pointer (some ⟨B, 0, none⟩), .pointer (some ⟨B, 2, none⟩), .slice ao ln kc, .string sx, undef, undef, undef, undef, undef, undef, undef, undef, undef, undef, undef, undef, undef, undef, undef, undef, undef, undef, undef, undef, undef, undef, undef, undef, undef, undef, undef, undef, undef, undef, undef], defers := [] }) rfl (by kernel_rfl) (by kernel_rfl) (by kernel_rfl) (fun _ _ _ h => h) (yi_conv 35 9 (.tmp 20) _ rfl rfl rfl (fun w' h => LC.out w' h.2)) hS rfl ?_
    refine wpAnyH_ready (rs := [5]) (by kernel_rfl) (by simp) ?_
    refine AllReadyH.cons rfl (fun K hK => ?_) AllReadyH.nil
    rw [if_pos (by rfl)]
    go_simp
    refine Calls.mono (CA.out) ?_
    rintro e w2 ⟨rfl, hb⟩
    have HADD := Lib.hid hb
    refine hK.out ({ tmps := #[.pointer (some ⟨B, 0, none⟩), .agg A, undef, .pointer (some ⟨gx, 0, none⟩), .slice ao ln kc, .int .i64 0, undef, undef, undef, undef, .tuple #[.slice ao ln kc, .int .i64 0], .agg A, .tuple #[.slice ao ln kc, .int .i64 0], .slice ao ln kc, .int .i64 0, .int .i64 0, .bool false, .pointer (some ⟨B, 0, none⟩), .pointer (some ⟨B, 0, none⟩), .pointer (some ⟨B, 2, none⟩), .slice ao ln kc, .string sx, .tuple #[], undef, undef, undef, undef, undef, undef, undef, undef, undef, undef, undef, undef, undef, undef, undef, undef, undef, undef, undef, undef, undef, undef, undef, undef, undef, undef, undef, undef, undef, undef], defers := [] }) w2 (STAY.out _ hS hb) (fun hS => ?_)
    clear hK K hb
    refine wpAnyH_done (by kernel_rfl) ?_ _
    obtain ⟨hK2, hKS2⟩ := FIN.out _ HADD.out
    have HK2 := Lib.hid hK2
    have HKS2 := Lib.hid hKS2
    have HBX2 := Lib.hid hS.1
    clear hK2 hKS2 hS
    go_upto_region 4 with fail
    refine wp_region_lit ?_
    refine wpList_load_row rfl 37 (.tmp 3) rfl gx rfl 37 _ (0, 0) _ HBX2.out Tryd.underlying37 rfl (by rw [HSZ.out]; exact size37) ?_
    go_wp2_with fail
    refine Calls.mono (CVO.out _) ?_
    rintro e w3 ⟨rfl, hb3⟩
    have HK3 := Lib.hid (HK2.out.on hb3)
    have HKS3 := Lib.hid (HKS2.out.trans (KStep.of (B := B) hb3 HK2.out.le))
    have HBX3 := Lib.hid ((hb3.block _ (lt_of_block HBX2.out)).trans HBX2.out)
    clear hb3
    go_wp2_with fail
    go_loopw [26] (fun vi wr => vi = .int .i64 0 ∧ wr = w3) (fun _ _ => 1)
    case atStart => exact ⟨rfl, rfl⟩
    case round =>
      obtain ⟨rfl, rfl⟩ := hrel
      go_upto_region 9 with fail
      refine wp_region_lit ?_
      refine wpList_load_row rfl 37 (.tmp 3) rfl gx rfl 37 _ (0, 0) _ HBX3.out Tryd.underlying37 rfl (by rw [HSZ.out]; exact size37) ?_
      go_wp2_with fail
      refine Calls.mono (CRO.out _) ?_
      rintro e w4 ⟨gr, rfl, hgr, hgle, hb4⟩
      have HK4 := Lib.hid (HK3.out.on hb4)
      have HKS4 := Lib.hid (HKS3.out.trans (KStep.of (B := B) hb4 HK3.out.le))
      have y0 : w4.cell? ⟨gr, 0, none⟩ = some (.int .u8 m.rq.c) := by rw [cell_of_row _ _ _ _ _ _ hgr]; rfl
      have y1 : w4.cell? ⟨gr, 1, none⟩ = some (.int .u32 m.rq.t) := by rw [cell_of_row _ _ _ _ _ _ hgr]; rfl
      have y2 : w4.cell? ⟨gr, 2, none⟩ = some (.int .u8 m.rq.k) := by rw [cell_of_row _ _ _ _ _ _ hgr]; rfl
      have y3 : w4.cell? ⟨gr, 3, none⟩ = some (.int .u8 m.rq.y) := by rw [cell_of_row _ _ _ _ _ _ hgr]; rfl
      have y4 : w4.cell? ⟨gr, 4, none⟩ = some (.int .u16 m.rq.v) := by rw [cell_of_row _ _ _ _ _ _ hgr]; rfl
      clear hb4 hgr
      go_wp2_with fail
      go_loopw [40] (fun vi wr => (vi = .int .i64 0 ∧ wr = w4) ∨ (vi = .int .i64 1 ∧ Hid (Kw H wr B S' ∧ KStep H B w wr))) (fun i _ => 1 - (intOf i).toNat)
      case atStart => exact .inl ⟨rfl, rfl⟩
      case round =>
        rcases hrel with ⟨rfl, rfl⟩ | ⟨rfl, HF⟩
        · obtain ⟨w5, hw5⟩ : ∃ w5, w5 = wr.alloc (.cells m.rq.cells.toArray 27) := ⟨_, rfl⟩
          have hb5 : Below wr.heap.size wr w5 := by rw [hw5]; exact (Below.refl _ _).alloc (Nat.le_refl _) _
          have hge : w5.heap[wr.heap.size]? = some (.cells m.rq.cells.toArray 27 (0, 0)) := by rw [hw5]; exact heap_alloc_new _ _
          have HK5 := Lib.hid (HK4.out.on hb5)
          have HKS5 := Lib.hid (HKS4.out.trans (KStep.of (B := B) hb5 HK4.out.le))
          have HGE := Lib.hid hge
          have hgeB : wr.heap.size ≠ B := by have := HK4.out.lt; omega
          have HGEB := Lib.hid hgeB
          obtain ⟨nz, hnz⟩ : ∃ b, b = !decide (m.rq = Rq.zero) := ⟨_, rfl⟩
          have hq : ∀ w, (binOp .neq 27 (.agg m.rq.cells.toArray) (.agg Rq.zero.cells.toArray)).run Tryd.prog w = .ok (.bool nz) w := fun w => by rw [hnz]; exact neq27 m.rq Rq.zero w
          have HNZ := Lib.hid hnz
          clear hnz
          have hgd := fun op a b w => guard27 op a b m.rq Rq.zero w
          have x0 : w5.cell? ⟨wr.heap.size, 0, none⟩ = some (.int .u8 m.rq.c) := by rw [cell_of_row _ _ _ _ _ _ hge]; rfl
          have x1 : w5.cell? ⟨wr.heap.size, 1, none⟩ = some (.int .u32 m.rq.t) := by rw [cell_of_row _ _ _ _ _ _ hge]; rfl
          have x2 : w5.cell? ⟨wr.heap.size, 2, none⟩ = some (.int .u8 m.rq.k) := by rw [cell_of_row _ _ _ _ _ _ hge]; rfl
          have x3 : w5.cell? ⟨wr.heap.size, 3, none⟩ = some (.int .u8 m.rq.y) := by rw [cell_of_row _ _ _ _ _ _ hge]; rfl
          have x4 : w5.cell? ⟨wr.heap.size, 4, none⟩ = some (.int .u16 m.rq.v) := by rw [cell_of_row _ _ _ _ _ _ hge]; rfl
          simp only [Rq.cells, Rq.zero] at hq hgd hw5
          have HW5 := Lib.hid hw5
          clear hb5 hge hgeB hw5
          cases nz
          · have HZ := Lib.hid (show m.rq = Rq.zero by have := HNZ.out; simpa using this.symm)
            go_upto_region 12 with fail
            rw [← HW5.out]
            clear HW5
            go_wp2_with fail
            go_round
            case measure => simp [intOf]
            case rel =>
              refine .inr ⟨rfl, Lib.hid ⟨?_, HKS5.out⟩⟩
              rw [HS'.out, if_pos (by first | rfl | trivial), if_pos (show m.rq = Rq.zero from HZ.out)]
              exact HK5.out
          · have HZ := Lib.hid (show ¬ m.rq = Rq.zero by have := HNZ.out; simpa using this.symm)
            go_upto_region 12 with fail
            rw [← HW5.out]
            clear HW5
            go_upto_region 13 with fail
            obtain ⟨o5, hK5⟩ := HK5.out
            have hKd := hK5.on ((Below.refl w5.heap.size w5).drew)
            have CA := Lib.hid (add57 w5.drew B 1 (knC o5) (o5 1) S.r m.rq hk hKd.box rfl hKd.r (fun e => (hK5.ne 1 B (by decide) e).1 rfl) hl2)
            have LB := Lib.hid (fun (w' : World) (h' : w'.heap[wr.heap.size]? = some (.cells m.rq.cells.toArray 27 (0, 0))) => req_load h')
            have STAY := Lib.hid (fun w2 (h1 : w5.drew.heap[wr.heap.size]? = some (.cells m.rq.cells.toArray 27 (0, 0))) (ha : Added rqV 27 w5.drew w2 B 1 (knC o5) (o5 1) (S.r ++ [m.rq])) => added_stay hKd.r ha h1 HGEB.out)
            have FIN := Lib.hid (fun w2 (ha : Added rqV 27 w5.drew w2 B 1 (knC o5) (o5 1) (S.r ++ [m.rq])) => And.intro (kw_r hKd ha).1 (HKS5.out.trans ((KStep.of (B := B) ((Below.refl _ w5).drew) HK5.out.le).trans (kw_r hKd ha).2)))
            clear hKd hK5 hq hgd x0 x1 x2 x3 x4
            have eR : (#[.int .u8 m.rq.c, .int .u32 m.rq.t, .int .u8 m.rq.k, .int .u8 m.rq.y, .int .u16 m.rq.v] : Array Value) = m.rq.cells.toArray := rfl
            rw [eR]
            clear eR
            generalize m.rq.cells.toArray = ra at *
            obtain ⟨ge, hgg⟩ : ∃ g, g = wr.heap.size := ⟨_, rfl⟩
            rw [← hgg] at LB STAY HGE ⊢
            clear hgg
            refine wp_region_held_drew (S := fun w' => w'.heap[ge]? = some (.cells ra 27 (0, 0))) (by kernel_rfl) (box_drew2 HGE.out) (fun hS => ?_)
            refine takeA (i := 0) (v := .pointer (some ⟨B, 0, none⟩)) ({ tmps := #[.pointer (some ⟨B, 0, none⟩), .agg A, undef, .pointer (some ⟨gx, 0, none⟩), .slice ao ln kc, .int .i64 0, undef, u7, undef, .pointer (some ⟨ge, 0, none⟩), .tuple #[.slice ao ln kc, .int .i64 0], .agg A, .tuple #[.slice ao ln kc, .int .i64 0], .slice ao ln kc, .int .i64 0, .int .i64 0, .bool false, .pointer (some ⟨B, 0, none⟩), .pointer (some ⟨B, 0, none⟩), .pointer (some ⟨B, 2, none⟩), .slice ao ln kc, .string sx, .tuple #[], .agg A, .slice none 0 0, .int .i64 0, .int .i64 0, .bool false, u28, u29, u30, u31, u32, u33, u34, u35, u36, .agg A, .slice (some ⟨gr, 0, none⟩) 1 1, .int .i64 1, .int .i64 0, .bool true, .pointer (some ⟨gr, 0, none⟩), .agg ra, .agg ra, .agg #[.int .u8 0, .int .u32 0, .int .u8 0, .int .u8 0, .int .u16 0], .bool true, .pointer (some ⟨B, 0, none⟩), u48, u49, u50, u51, u52], defers := [] }) rfl (by kernel_rfl) (by kernel_rfl) (by kernel_rfl) (fun _ _ _ h => h) (.inl ⟨rfl, fun _ _ => rfl⟩) hS rfl ?_
            refine takeA (i := 1) (v := .pointer (some ⟨B, 0, none⟩)) ({ tmps := #[.pointer (some ⟨B, 0, none⟩), .agg A, undef, .pointer (some ⟨gx, 0, none⟩), .slice ao ln kc, .int .i64 0, undef, u7, undef, .pointer (some ⟨ge, 0, none⟩), .tuple #[.slice ao ln kc, .int .i64 0], .agg A, .tuple #[.slice ao ln kc, .int .i64 0], .slice ao ln kc, .int .i64 0, .int .i64 0, .bool false, .pointer (some ⟨B, 0, none⟩), .pointer (some ⟨B, 0, none⟩), .pointer (some ⟨B, 2, none⟩), .slice ao ln kc, .string sx, .tuple #[], .agg A, .slice none 0 0, .int .i64 0, .int .i64 0, .bool false, u28, u29, u30, u31, u32, u33, u34, u35, u36, .agg A, .slice (some ⟨gr, 0, none⟩) 1 1, .int .i64 1, .int .i64 0, .bool true, .pointer (some ⟨gr, 0, none⟩), .agg ra, .agg ra, .agg #[.int .u8 0, .int .u32 0, .int .u8 0, .int .u8 0, .int .u16 0], .bool true, .pointer (some ⟨B, 0, none⟩), .pointer (some ⟨B, 0, none⟩), u49, u50, u51, u52], defers := [] }) rfl (by kernel_rfl) (by kernel_rfl) (by kernel_rfl) (fun _ _ _ h => h) (.inl ⟨rfl, fun w' _ => by go_simp⟩) hS rfl ?_
            refine takeA (i := 2) (v := .pointer (some ⟨B, 1, none⟩)) ({ tmps := #[.pointer (some ⟨B, 0, none⟩), .agg A, undef, .pointer (some ⟨gx, 0, none⟩), .slice ao ln kc, .int .i64 0, undef, u7, undef, .pointer (some ⟨ge, 0, none⟩), .tuple #[.slice ao ln kc, .int .i64 0], .agg A, .tuple #[.slice ao ln kc, .int .i64 0], .slice ao ln kc, .int .i64 0, .int .i64 0, .bool false, .pointer (some ⟨B, 0, none⟩), .pointer (some ⟨B, 0, none⟩), .pointer (some ⟨B, 2, none⟩), .slice ao ln kc, .string sx, .tuple #[], .agg A, .slice none 0 0, .int .i64 0, .int .i64 0, .bool false, u28, u29, u30, u31, u32, u33, u34, u35, u36, .agg A, .slice (some ⟨gr, 0, none⟩) 1 1, .int .i64 1, .int .i64 0, .bool true, .pointer (some ⟨gr, 0, none⟩), .agg ra, .agg ra, .agg #[.int .u8 0, .int .u32 0, .int .u8 0, .int .u8 0, .int .u16 0], .bool true, .pointer (some ⟨B, 0, none⟩), .pointer (some ⟨B, 0, none⟩), .pointer (some ⟨B, 1, none⟩), u50, u51, u52], defers := [] }) rfl (by kernel_rfl) (by kernel_rfl) (by kernel_rfl) (fun _ _ _ h => h) (.inl ⟨rfl, fun w' _ => by go_simp⟩) hS rfl ?_
            refine takeA (i := 3) (v := .agg ra) ({ tmps := #[.pointer (some ⟨B, 0, none⟩), .agg A, undef, .pointer (some ⟨gx, 0, none⟩), .slice ao ln kc, .int .i64 0, undef, u7, undef, .pointer (some ⟨ge, 0, none⟩), .tuple #[.slice ao ln kc, .int .i64 0], .agg A, .tuple #[.slice ao ln kc, .int .i64 0], .slice ao ln kc, .int .i64 0, .int .i64 0, .bool false, .pointer (some ⟨B, 0, none⟩), .pointer (some ⟨B, 0, none⟩), .pointer (some ⟨B, 2, none⟩), .slice ao ln kc, .string sx, .tuple #[], .agg A, .slice none 0 0, .int .i64 0, .int .i64 0, .bool false, u28, u29, u30, u31, u32, u33, u34, u35, u36, .agg A, .slice (some ⟨gr, 0, none⟩) 1 1, .int .i64 1, .int .i64 0, .bool true, .pointer (some ⟨gr, 0, none⟩), .agg ra, .agg ra, .agg #[.int .u8 0, .int .u32 0, .int .u8 0, .int .u8 0, .int .u16 0], .bool true, .pointer (some ⟨B, 0, none⟩), .pointer (some ⟨B, 0, none⟩), .pointer (some ⟨B, 1, none⟩), .agg ra, u51, u52], defers := [] }) rfl (by kernel_rfl) (by kernel_rfl) (by kernel_rfl) (fun _ _ _ h => h) (yi_load 27 (.tmp 9) _ rfl rfl rfl LB.out) hS rfl ?_
            refine wpAnyH_ready (rs := [4]) (by kernel_rfl) (by simp) ?_
            refine AllReadyH.cons rfl (fun K hK => ?_) AllReadyH.nil
            rw [if_pos (by rfl)]
            go_simp
            refine Calls.mono (CA.out) ?_
            rintro e w7 ⟨rfl, hb⟩
            have HADD2 := Lib.hid hb
            refine hK.out ({ tmps := #[.pointer (some ⟨B, 0, none⟩), .agg A, undef, .pointer (some ⟨gx, 0, none⟩), .slice ao ln kc, .int .i64 0, undef, u7, undef, .pointer (some ⟨ge, 0, none⟩), .tuple #[.slice ao ln kc, .int .i64 0], .agg A, .tuple #[.slice ao ln kc, .int .i64 0], .slice ao ln kc, .int .i64 0, .int .i64 0, .bool false, .pointer (some ⟨B, 0, none⟩), .pointer (some ⟨B, 0, none⟩), .pointer (some ⟨B, 2, none⟩), .slice ao ln kc, .string sx, .tuple #[], .agg A, .slice none 0 0, .int .i64 0, .int .i64 0, .bool false, u28, u29, u30, u31, u32, u33, u34, u35, u36, .agg A, .slice (some ⟨gr, 0, none⟩) 1 1, .int .i64 1, .int .i64 0, .bool true, .pointer (some ⟨gr, 0, none⟩), .agg ra, .agg ra, .agg #[.int .u8 0, .int .u32 0, .int .u8 0, .int .u8 0, .int .u16 0], .bool true, .pointer (some ⟨B, 0, none⟩), .pointer (some ⟨B, 0, none⟩), .pointer (some ⟨B, 1, none⟩), .agg ra, .tuple #[], u52], defers := [] }) w7 (STAY.out _ hS hb) (fun hS => ?_)
            clear hK K hb
            refine wpAnyH_done (by kernel_rfl) ?_ _
            go_wp2_with fail
            go_round
            case measure => simp [intOf]
            case rel =>
              refine .inr ⟨rfl, Lib.hid ?_⟩
              rw [HS'.out, if_pos (by first | rfl | trivial), if_neg (show ¬ m.rq = Rq.zero from HZ.out)]
              exact FIN.out _ HADD2.out
        · go_wp2_with fail
          go_end0
          exact ⟨rfl, HF.out⟩
end Go.Proofs.YtigpfaecbmnklaaDoor
