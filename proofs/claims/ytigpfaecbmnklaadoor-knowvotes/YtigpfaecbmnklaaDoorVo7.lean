/- A vote without lists is seen. -/
import Derived.Test.YtigpfaecbmnklaaDoorVo6
namespace Go.Proofs.YtigpfaecbmnklaaDoor
open Go.RowKit Go.Maps
set_option maxRecDepth 100000

/-- P4.1: a message that casts a vote without lists is seen -/
def seeV (S : Kn) (m : Mg) (c : Mc) : Kn := if isM m c then { S with m := S.m ++ [toU (encM m c)], v := S.v ++ [votB m.vt ⟨[], [], []⟩] } else S

set_option maxHeartbeats 8000000 in
theorem see20k (H : Nat) (w : World) (B : Nat) (S : Kn) (h : Kw H w B S) (m : Mg) (c : Mc) (hm : MgAt w m c) (hok : McOk c) (ht : ∀ w', Below H w w' → Tab w') (h6 : m.k = 6) (hvs : m.vs = ⟨none, 0, 0⟩) (hms : m.vt.ms = ⟨none, 0, 0⟩) (hp : m.vt.p = ⟨none, 0, 0⟩) (hq : m.vt.q = ⟨none, 0, 0⟩) (hk : m.rq = Rq.zero) (hl : S.m.length ≤ 100000) (hl2 : S.v.length ≤ 100000) :
    Calls Tryd.prog 20 #[.pointer (some ⟨B, 0, none⟩), .agg m.cells.toArray] w fun e w' => e = .returned (.tuple #[]) ∧ Kw H w' B (seeV S m c) ∧ KStep H B w w' := by
  obtain ⟨W, hW⟩ : ∃ W, W = w.alloc (.cells m.cells.toArray 37) := ⟨_, rfl⟩
  have hbl : Below w.heap.size w W := by rw [hW]; exact (Below.refl _ _).alloc (Nat.le_refl _) _
  have hbx : W.heap[w.heap.size]? = some (.cells m.cells.toArray 37 (0, 0)) := by rw [hW]; exact heap_alloc_new _ _
  have CE := Lib.hid (enc_ok W m c (hm.below hbl) hok (ht W (hbl.mono h.le)))
  have hlen := fun hi => encM_len hm (c := c) hi
  have hHw := h.le
  have hgB : w.heap.size ≠ B := by have := h.lt; omega
  obtain ⟨o, h⟩ := h
  have hWK := h.on hbl
  obtain ⟨S', hS'⟩ : ∃ S', S' = seeV S m c := ⟨_, rfl⟩
  rw [← hS']
  unfold seeV at hS'
  have HST0 := Lib.hid (KStep.of (B := B) hbl hHw)
  have HNE := Lib.hid (show o 2 ≠ some B from fun e => (h.ne 2 B (by decide) e).1 rfl)
  have hrn : ∀ w' : World, Row w' 7 Vt.cells m.vs.val [] := fun w' => by rw [hvs]; exact Row.nil _ _ _
  have hv6 : vsOf m [] = [m.vt] := if_pos h6
  have CVO := Lib.hid (fun w' => votesOf54r w' m [] (hrn w'))
  rw [hv6] at CVO
  have CRO := Lib.hid (fun w' => requestsOf56r w' m [] (hrn w') (by rw [hv6]; intro x hx; simp only [List.mem_singleton] at hx; subst hx; exact ⟨hp, hq⟩))
  have hva : ∀ w' : World, VtAt w' m.vt ⟨[], [], []⟩ := fun w' => ⟨by rw [hms]; exact Row.nil _ _ _, by rw [hp]; exact Row.nil _ _ _, by rw [hq]; exact Row.nil _ _ _⟩
  have hvl := votB_len (hva w)
  have CBO := Lib.hid (fun w' (ht' : Tab w') => bytesOf55 w' m.vt ⟨[], [], []⟩ (hva w') ⟨fun x hx => (by cases hx), fun x hx => (by cases hx)⟩ ht')
  simp only [stV] at CBO
  generalize votB m.vt ⟨[], [], []⟩ = vb at *
  have HRQ := Lib.hid hk
  have HTT := Lib.hid ht
  generalize hel : encM m c = el at *
  generalize isM m c = ib at *
  have HL := Lib.hid hlen
  have HS' := Lib.hid hS'
  have HBX := Lib.hid hbx
  have HBL := Lib.hid hbl
  have HW := Lib.hid hW
  have HWK := Lib.hid hWK
  have HGB := Lib.hid hgB
  clear hW hbx hbl h hWK hm hok ht hS' hvs h6 hlen hel hgB hrn hv6 hva hms hp hq hk
  simp only [Mg.cells] at HW ⊢
  go_enter Tryd.func20, Tryd.ntmps20
  go_upto_region 1 with fail
  rw [← HW.out]
  have eA : (#[.int .u8 m.k, .int .u8 m.f, .int .u8 m.t, .int .u8 m.e, .int .u32 m.vw, .int .u32 m.sq, .int .u8 m.rq.c, .int .u32 m.rq.t, .int .u8 m.rq.k, .int .u8 m.rq.y, .int .u16 m.rq.v, .int .u64 m.ro, .int .u8 m.ct, .int .u8 m.pg, .int .u32 m.rs, .int .u8 m.vt.f, .int .u8 m.vt.e, .int .u32 m.vt.vw, .int .u32 m.vt.lo, .slice m.vt.ms.a m.vt.ms.n m.vt.ms.c, .slice m.vt.p.a m.vt.p.n m.vt.p.c, .slice m.vt.q.a m.vt.q.n m.vt.q.c, .slice m.vs.a m.vs.n m.vs.c, .slice m.sm.a m.sm.n m.sm.c, .slice m.dt.a m.dt.n m.dt.c] : Array Value) = m.cells.toArray := rfl
  rw [eA]
  clear eA HW
  have HSZ := Lib.hid (show m.cells.toArray.size = 25 from rfl)
  generalize m.cells.toArray = A at *
  refine wp_region_lit ?_
  refine wpList_load_row rfl 37 (.tmp 3) rfl w.heap.size rfl 37 _ (0, 0) _ HBX.out Tryd.underlying37 rfl (by rw [HSZ.out]; exact size37) ?_
  go_wp2_with fail
  refine Calls.mono CE.out ?_
  rintro e W1 ⟨hres, hb1⟩
  have B1 := Lib.hid hb1
  have HKS1 := Lib.hid (HST0.out.trans (KStep.of (B := B) hb1 (Nat.le_trans hHw HBL.out.size)))
  have HK1 := Lib.hid (HWK.out.on hb1)
  have HBX1 := Lib.hid ((hb1.block _ (lt_of_block HBX.out)).trans HBX.out)
  clear hb1 CE
  rcases hres with ⟨rfl, rfl⟩ | ⟨rfl, ao, kc, rfl, hnew⟩
  · go_wp2_with fail
    (try simp only [Exit.inBlock, Exit.then])
    refine bodyPost_ret (results_none rfl _ _ _) rfl ?_
    refine ⟨rfl, ?_⟩
    rw [HS'.out]
    (try rw [if_neg (by simp)])
    exact ⟨⟨o, HK1.out⟩, HKS1.out⟩
  · have hl8 := HL.out rfl
    have hKd := HK1.out.on ((Below.refl W1.heap.size W1).drew)
    have CA := Lib.hid (add53 W1.drew B 2 (knC o) (o 2) S.m (toU el) (by simp only [toU, List.length_map]; omega) hKd.box rfl hKd.m HNE.out hl)
    have LC := Lib.hid (fun (w' : World) (h' : w'.ownsRow 0 5 1 (.slice ao el.length kc) el.length (vals el)) => str_bytes (c := kc) (own_bytes h') (fun e => (hnew.none e).1))
    have STAY := Lib.hid (fun w2 (h1 : W1.drew.heap[w.heap.size]? = some (.cells A 37 (0, 0)) ∧ W1.drew.ownsRow 0 5 1 (.slice ao el.length kc) el.length (vals el)) (ha : Added stV 9 W1.drew w2 B 2 (knC o) (o 2) (S.m ++ [toU el])) => And.intro (added_stay hKd.m ha h1.1 HGB.out) (ownB_stay h1.2 (fun g A t fr hg ht5 => added_stay hKd.m ha hg (fun e => by
      subst e
      have := hKd.box
      rw [hg] at this
      simp at this
      obtain ⟨_, h2, _⟩ := this
      rw [ht5] at h2
      cases h2))))
    have FIN := Lib.hid (fun w2 (ha : Added stV 9 W1.drew w2 B 2 (knC o) (o 2) (S.m ++ [toU el])) => And.intro (kw_m hKd ha).1 (HKS1.out.trans ((KStep.of (B := B) ((Below.refl _ W1).drew) (Nat.le_trans hHw (Nat.le_trans HBL.out.size B1.out.size))).trans (kw_m hKd ha).2)))
    have HSI := Lib.hid (And.intro HBX1.out hnew.1)
    have hsx : strOfNums el = ⟨(toU el).toArray⟩ := rfl
    rw [hsx] at LC
    generalize (⟨(toU el).toArray⟩ : ByteArray) = sx at *
    generalize hln : el.length = ln at *
    clear hnew hln hsx hKd
    obtain ⟨gx, hgx⟩ : ∃ g, g = w.heap.size := ⟨_, rfl⟩
    rw [← hgx] at STAY HSI HGB HBX1 ⊢
    have HGX := Lib.hid hgx
    clear hgx
    go_upto_region 3 with fail
    refine wp_region_held_drew (S := fun w' => w'.heap[gx]? = some (.cells A 37 (0, 0)) ∧ w'.ownsRow 0 5 1 (.slice ao ln kc) ln (vals el)) (by kernel_rfl) ⟨box_drew2 HSI.out.1, HSI.out.2⟩ (fun hS => ?_)
    refine takeA (i := 0) (v := .pointer (some ⟨B, 0, none⟩)) ({ tmps := #[.pointer (some ⟨B, 0, none⟩), .agg A, undef, .pointer (some ⟨gx, 0, none⟩), .slice ao ln kc, .int .i64 0, undef, undef, undef, undef, .tuple #[.slice ao ln kc, .int .i64 0], .agg A, .tuple #[.slice ao ln kc, .int .i64 0], .slice ao ln kc, .int .i64 0, .int .i64 0, .bool false, .pointer (some ⟨B, 0, none⟩), undef, undef, undef, undef, undef, undef, undef, undef, undef, undef, undef, undef, undef, undef, undef, undef, undef, undef, undef, undef, undef, undef, undef, undef, undef, undef, undef, undef, undef, undef, undef, undef, undef, undef, undef], defers := [] }) rfl (by kernel_rfl) (by kernel_rfl) (by kernel_rfl) (fun _ _ _ h => h) (.inl ⟨rfl, fun _ _ => rfl⟩) hS rfl ?_
    refine takeA (i := 1) (v := .pointer (some ⟨B, 0, none⟩)) ({ tmps := #[.pointer (some ⟨B, 0, none⟩), .agg A, undef, .pointer (some ⟨gx, 0, none⟩), .slice ao ln kc, .int .i64 0, undef, undef, undef, undef, .tuple #[.slice ao ln kc, .int .i64 0], .agg A, .tuple #[.slice ao ln kc, .int .i64 0], .slice ao ln kc, .int .i64 0, .int .i64 0, .bool false, .pointer (some ⟨B, 0, none⟩), .pointer (some ⟨B, 0, none⟩), undef, undef, undef, undef, undef, undef, undef, undef, undef, undef, undef, undef, undef, undef, undef, undef, undef, undef, undef, undef, undef, undef, undef, undef, undef, undef, undef, undef, undef, undef, undef, undef, undef, undef], defers := [] }) rfl (by kernel_rfl) (by kernel_rfl) (by kernel_rfl) (fun _ _ _ h => h) (.inl ⟨rfl, fun w' _ => by go_simp⟩) hS rfl ?_
    refine takeA (i := 2) (v := .pointer (some ⟨B, 2, none⟩)) ({ tmps := #[.pointer (some ⟨B, 0, none⟩), .agg A, undef, .pointer (some ⟨gx, 0, none⟩), .slice ao ln kc, .int .i64 0, undef, undef, undef, undef, .tuple #[.slice ao ln kc, .int .i64 0], .agg A, .tuple #[.slice ao ln kc, .int .i64 0], .slice ao ln kc, .int .i64 0, .int .i64 0, .bool false, .pointer (some ⟨B, 0, none⟩), .pointer (some ⟨B, 0, none⟩), .pointer (some ⟨B, 2, none⟩), undef, undef, undef, undef, undef, undef, undef, undef, undef, undef, undef, undef, undef, undef, undef, undef, undef, undef, undef, undef, undef, undef, undef, undef, undef, undef, undef, undef, undef, undef, undef, undef, undef], defers := [] }) rfl (by kernel_rfl) (by kernel_rfl) (by kernel_rfl) (fun _ _ _ h => h) (.inl ⟨rfl, fun w' _ => by go_simp⟩) hS rfl ?_
    refine takeA (i := 3) (v := .slice ao ln kc) ({ tmps := #[.pointer (some ⟨B, 0, none⟩), .agg A, undef, .pointer (some ⟨gx, 0, none⟩), .slice ao ln kc, .int .i64 0, undef, undef, undef, undef, .tuple #[.slice ao ln kc, .int .i64 0], .agg A, .tuple #[.slice ao ln kc, .int .i64 0], .slice ao ln kc, .int .i64 0, .int .i64 0, .bool false, .pointer (some ⟨B, 0, none⟩), .pointer (some ⟨B, 0, none⟩), .pointer (some ⟨B, 2, none⟩), .slice ao ln kc, undef, undef, undef, undef, undef, undef, undef, undef, undef, undef, undef, undef, undef, undef, undef, undef, undef, undef, undef, undef, undef, undef, undef, undef, undef, undef, undef, undef, undef, undef, undef, undef], defers := [] }) rfl (by kernel_rfl) (by kernel_rfl) (by kernel_rfl) (fun _ _ _ h => h) (.inl ⟨rfl, fun _ _ => rfl⟩) hS rfl ?_
    refine takeA (i := 4) (v := .string sx) ({ tmps := #[.pointer (some ⟨B, 0, none⟩), .agg A, undef, .pointer (some ⟨gx, 0, none⟩), .slice ao ln kc, .int .i64 0, undef, undef, undef, undef, .tuple #[.slice ao ln kc, .int .i64 0], .agg A, .tuple #[.slice ao ln kc, .int .i64 0], .slice ao ln kc, .int .i64 0, .int .i64 0, .bool false, .pointer (some ⟨B, 0, none⟩), .pointer (some ⟨B, 0, none⟩), .pointer (some ⟨B, 2, none⟩), .slice ao ln kc, .string sx, undef, undef, undef, undef, undef, undef, undef, undef, undef, undef, undef, undef, undef, undef, undef, undef, undef, undef, undef, undef, undef, undef, undef, undef, undef, undef, undef, undef, undef, undef, undef], defers := [] }) rfl (by kernel_rfl) (by kernel_rfl) (by kernel_rfl) (fun _ _ _ h => h) (yi_conv 35 9 (.tmp 20) _ rfl rfl rfl (fun w' h => LC.out w' h.2)) hS rfl ?_
    refine wpAnyH_ready (rs := [5]) (by kernel_rfl) (by simp) ?_
    refine AllReadyH.cons rfl (fun K hK => ?_) AllReadyH.nil
    rw [if_pos (by rfl)]
    go_simp
    refine Calls.mono (CA.out) ?_
    rintro e w2 ⟨rfl, hb⟩
    have HADD := Lib.hid hb
    refine hK.out ({ tmps := #[.pointer (some ⟨B, 0, none⟩), .agg A, undef, .pointer (some ⟨gx, 0, none⟩), .slice ao ln kc, .int .i64 0, undef, undef, undef, undef, .tuple #[.slice ao ln kc, .int .i64 0], .agg A, .tuple #[.slice ao ln kc, .int .i64 0], .slice ao ln kc, .int .i64 0, .int .i64 0, .bool false, .pointer (some ⟨B, 0, none⟩), .pointer (some ⟨B, 0, none⟩), .pointer (some ⟨B, 2, none⟩), .slice ao ln kc, .string sx, .tuple #[], undef, undef, undef, undef, undef, undef, undef, undef, undef, undef, undef, undef, undef, undef, undef, undef, undef, undef, undef, undef, undef, undef, undef, undef, undef, undef, undef, undef, undef, undef], defers := [] }) w2 (STAY.out _ hS hb) (fun hS => ?_)
    clear hK K hb
    refine wpAnyH_done (by kernel_rfl) ?_ _
    obtain ⟨hK2, hKS2⟩ := FIN.out _ HADD.out
    have HK2 := Lib.hid hK2
    have HKS2 := Lib.hid hKS2
    have HBX2 := Lib.hid hS.1
    clear hK2 hKS2 hS
    go_upto_region 4 with fail
    refine wp_region_lit ?_
    refine wpList_load_row rfl 37 (.tmp 3) rfl gx rfl 37 _ (0, 0) _ HBX2.out Tryd.underlying37 rfl (by rw [HSZ.out]; exact size37) ?_
    go_wp2_with fail
    refine Calls.mono (CVO.out _) ?_
    rintro e w3 ⟨va, vn, vk, rfl, hrow, hb3⟩
    obtain ⟨va', vk', hq, -, -, -, hrow⟩ := hrow
    injection hq with hq1 hq2 hq3
    subst hq1 hq3
    simp only [List.length_singleton] at hq2
    subst hq2
    obtain ⟨rb, ro, rfl, G⟩ := hrow 0 m.vt rfl
    simp only [Nat.zero_mul, Nat.add_zero] at G
    have HLV := Lib.hid (vt_load G)
    have HK3 := Lib.hid (HK2.out.on hb3)
    have HKS3 := Lib.hid (HKS2.out.trans (KStep.of (B := B) hb3 HK2.out.le))
    have HBX3 := Lib.hid ((hb3.block _ (lt_of_block HBX2.out)).trans HBX2.out)
    clear hb3 hrow G
    go_wp2_with fail
    go_loopw [26] (fun vi wr => (vi = .int .i64 0 ∧ wr = w3) ∨ (vi = .int .i64 1 ∧ Hid (Kw H wr B ⟨S.k, S.r, S.m ++ [toU el], S.v ++ [vb]⟩ ∧ KStep H B w wr ∧ wr.heap[gx]? = some (.cells A 37 (0, 0))))) (fun i _ => 1 - (intOf i).toNat)
    case atStart => exact .inl ⟨rfl, rfl⟩
    case round =>
      rcases hrel with ⟨rfl, rfl⟩ | ⟨rfl, HF⟩
      · obtain ⟨V, hV⟩ : ∃ V, V = wr.alloc (.cells m.vt.cells.toArray 32) := ⟨_, rfl⟩
        have hVb : Below wr.heap.size wr V := by rw [hV]; exact (Below.refl _ _).alloc (Nat.le_refl _) _
        have hVx : V.heap[wr.heap.size]? = some (.cells m.vt.cells.toArray 32 (0, 0)) := by rw [hV]; exact heap_alloc_new _ _
        have HKV := Lib.hid (HK3.out.on hVb)
        have HKSV := Lib.hid (HKS3.out.trans (KStep.of (B := B) hVb HK3.out.le))
        have HSI7 := Lib.hid (And.intro hVx ((hVb.block _ (lt_of_block HBX3.out)).trans HBX3.out))
        have HGVB := Lib.hid (show wr.heap.size ≠ B by have := HK3.out.lt; omega)
        have CB7 := Lib.hid (CBO.out V.drew (HTT.out _ (HKSV.out.bel.drew)))
        have HV := Lib.hid hV
        have LB7 := Lib.hid (fun (w' : World) (h' : w'.heap[wr.heap.size]? = some (.cells m.vt.cells.toArray 32 (0, 0))) => vt_load0 h')
        have STAY5 := Lib.hid (fun w5 (h1 : V.drew.heap[wr.heap.size]? = some (.cells m.vt.cells.toArray 32 (0, 0)) ∧ V.drew.heap[gx]? = some (.cells A 37 (0, 0))) (hb : Below V.drew.heap.size V.drew w5) => And.intro ((hb.block _ (lt_of_block h1.1)).trans h1.1) ((hb.block _ (lt_of_block h1.2)).trans h1.2))
        obtain ⟨o3, hK3o⟩ := HKV.out
        have HKD := Lib.hid (hK3o.on ((Below.refl V.heap.size V).drew))
        clear hV hVb hVx hK3o
        go_upto_region 6 with fail
        refine wp_region_lit ?_
        refine wpl_val (v := .pointer (some ⟨rb, ro, none⟩)) (w1 := wr) rfl (by go_simp) _ rfl ?_
        refine wpl_val (v := .agg m.vt.cells.toArray) (w1 := wr) rfl (exec_load 32 (.tmp 28) rfl rfl HLV.out) _ rfl ?_
        simp only [Vt.cells] at HV ⊢
        go_upto_region 7 with fail
        rw [← HV.out]
        have eA : (#[.int .u8 m.vt.f, .int .u8 m.vt.e, .int .u32 m.vt.vw, .int .u32 m.vt.lo, .slice m.vt.ms.a m.vt.ms.n m.vt.ms.c, .slice m.vt.p.a m.vt.p.n m.vt.p.c, .slice m.vt.q.a m.vt.q.n m.vt.q.c] : Array Value) = m.vt.cells.toArray := rfl
        rw [eA]
        clear eA HV
        generalize m.vt.cells.toArray = A2 at *
        obtain ⟨gv, hgv⟩ : ∃ g, g = wr.heap.size := ⟨_, rfl⟩
        rw [← hgv] at HSI7 HGVB LB7 STAY5 ⊢
        clear hgv
        refine wp_region_held_drew (S := fun w' => w'.heap[gv]? = some (.cells A2 32 (0, 0)) ∧ w'.heap[gx]? = some (.cells A 37 (0, 0))) (by kernel_rfl) ⟨HSI7.out.1, HSI7.out.2⟩ (fun hS => ?_)
        refine takeA (i := 0) (v := .pointer (some ⟨B, 0, none⟩)) ({ tmps := #[.pointer (some ⟨B, 0, none⟩), .agg A, undef, .pointer (some ⟨gx, 0, none⟩), .slice ao ln kc, .int .i64 0, undef, .pointer (some ⟨gv, 0, none⟩), undef, undef, .tuple #[.slice ao ln kc, .int .i64 0], .agg A, .tuple #[.slice ao ln kc, .int .i64 0], .slice ao ln kc, .int .i64 0, .int .i64 0, .bool false, .pointer (some ⟨B, 0, none⟩), .pointer (some ⟨B, 0, none⟩), .pointer (some ⟨B, 2, none⟩), .slice ao ln kc, .string sx, .tuple #[], .agg A, .slice (some ⟨rb, ro, none⟩) 1 vk, .int .i64 1, .int .i64 0, .bool true, .pointer (some ⟨rb, ro, none⟩), .agg A2, .pointer (some ⟨B, 0, none⟩), u31, u32, u33, u34, u35, u36, undef, undef, undef, undef, undef, undef, undef, undef, undef, undef, undef, undef, undef, undef, undef, undef], defers := [] }) rfl (by kernel_rfl) (by kernel_rfl) (by kernel_rfl) (fun _ _ _ h => h) (.inl ⟨rfl, fun _ _ => rfl⟩) hS rfl ?_
        refine takeA (i := 1) (v := .pointer (some ⟨B, 0, none⟩)) ({ tmps := #[.pointer (some ⟨B, 0, none⟩), .agg A, undef, .pointer (some ⟨gx, 0, none⟩), .slice ao ln kc, .int .i64 0, undef, .pointer (some ⟨gv, 0, none⟩), undef, undef, .tuple #[.slice ao ln kc, .int .i64 0], .agg A, .tuple #[.slice ao ln kc, .int .i64 0], .slice ao ln kc, .int .i64 0, .int .i64 0, .bool false, .pointer (some ⟨B, 0, none⟩), .pointer (some ⟨B, 0, none⟩), .pointer (some ⟨B, 2, none⟩), .slice ao ln kc, .string sx, .tuple #[], .agg A, .slice (some ⟨rb, ro, none⟩) 1 vk, .int .i64 1, .int .i64 0, .bool true, .pointer (some ⟨rb, ro, none⟩), .agg A2, .pointer (some ⟨B, 0, none⟩), .pointer (some ⟨B, 0, none⟩), u32, u33, u34, u35, u36, undef, undef, undef, undef, undef, undef, undef, undef, undef, undef, undef, undef, undef, undef, undef, undef], defers := [] }) rfl (by kernel_rfl) (by kernel_rfl) (by kernel_rfl) (fun _ _ _ h => h) (.inl ⟨rfl, fun w' _ => by go_simp⟩) hS rfl ?_
        refine takeA (i := 2) (v := .pointer (some ⟨B, 3, none⟩)) ({ tmps := #[.pointer (some ⟨B, 0, none⟩), .agg A, undef, .pointer (some ⟨gx, 0, none⟩), .slice ao ln kc, .int .i64 0, undef, .pointer (some ⟨gv, 0, none⟩), undef, undef, .tuple #[.slice ao ln kc, .int .i64 0], .agg A, .tuple #[.slice ao ln kc, .int .i64 0], .slice ao ln kc, .int .i64 0, .int .i64 0, .bool false, .pointer (some ⟨B, 0, none⟩), .pointer (some ⟨B, 0, none⟩), .pointer (some ⟨B, 2, none⟩), .slice ao ln kc, .string sx, .tuple #[], .agg A, .slice (some ⟨rb, ro, none⟩) 1 vk, .int .i64 1, .int .i64 0, .bool true, .pointer (some ⟨rb, ro, none⟩), .agg A2, .pointer (some ⟨B, 0, none⟩), .pointer (some ⟨B, 0, none⟩), .pointer (some ⟨B, 3, none⟩), u33, u34, u35, u36, undef, undef, undef, undef, undef, undef, undef, undef, undef, undef, undef, undef, undef, undef, undef, undef], defers := [] }) rfl (by kernel_rfl) (by kernel_rfl) (by kernel_rfl) (fun _ _ _ h => h) (.inl ⟨rfl, fun w' _ => by go_simp⟩) hS rfl ?_
        refine takeA (i := 3) (v := .agg A2) ({ tmps := #[.pointer (some ⟨B, 0, none⟩), .agg A, undef, .pointer (some ⟨gx, 0, none⟩), .slice ao ln kc, .int .i64 0, undef, .pointer (some ⟨gv, 0, none⟩), undef, undef, .tuple #[.slice ao ln kc, .int .i64 0], .agg A, .tuple #[.slice ao ln kc, .int .i64 0], .slice ao ln kc, .int .i64 0, .int .i64 0, .bool false, .pointer (some ⟨B, 0, none⟩), .pointer (some ⟨B, 0, none⟩), .pointer (some ⟨B, 2, none⟩), .slice ao ln kc, .string sx, .tuple #[], .agg A, .slice (some ⟨rb, ro, none⟩) 1 vk, .int .i64 1, .int .i64 0, .bool true, .pointer (some ⟨rb, ro, none⟩), .agg A2, .pointer (some ⟨B, 0, none⟩), .pointer (some ⟨B, 0, none⟩), .pointer (some ⟨B, 3, none⟩), .agg A2, u34, u35, u36, undef, undef, undef, undef, undef, undef, undef, undef, undef, undef, undef, undef, undef, undef, undef, undef], defers := [] }) rfl (by kernel_rfl) (by kernel_rfl) (by kernel_rfl) (fun _ _ _ h => h) (yi_load 32 (.tmp 7) _ rfl rfl rfl (fun w' h => LB7.out w' h.1)) hS rfl ?_
        refine wpAnyH_ready (rs := [4]) (by kernel_rfl) (by simp) ?_
        refine AllReadyH.cons rfl (fun K hK => ?_) AllReadyH.nil
        rw [if_pos (by rfl)]
        go_simp
        refine Calls.mono (CB7.out) ?_
        rintro e w5 ⟨rfl, hb⟩
        have B5 := Lib.hid hb
        refine hK.out ({ tmps := #[.pointer (some ⟨B, 0, none⟩), .agg A, undef, .pointer (some ⟨gx, 0, none⟩), .slice ao ln kc, .int .i64 0, undef, .pointer (some ⟨gv, 0, none⟩), undef, undef, .tuple #[.slice ao ln kc, .int .i64 0], .agg A, .tuple #[.slice ao ln kc, .int .i64 0], .slice ao ln kc, .int .i64 0, .int .i64 0, .bool false, .pointer (some ⟨B, 0, none⟩), .pointer (some ⟨B, 0, none⟩), .pointer (some ⟨B, 2, none⟩), .slice ao ln kc, .string sx, .tuple #[], .agg A, .slice (some ⟨rb, ro, none⟩) 1 vk, .int .i64 1, .int .i64 0, .bool true, .pointer (some ⟨rb, ro, none⟩), .agg A2, .pointer (some ⟨B, 0, none⟩), .pointer (some ⟨B, 0, none⟩), .pointer (some ⟨B, 3, none⟩), .agg A2, .string ⟨vb.toArray⟩, u35, u36, undef, undef, undef, undef, undef, undef, undef, undef, undef, undef, undef, undef, undef, undef, undef, undef], defers := [] }) w5 (STAY5.out _ hS hb) (fun hS => ?_)
        clear hK K hb
        have hK5 := HKD.out.on B5.out
        have CA7 := Lib.hid (add53 w5 B 3 (knC o3) (o3 3) S.v vb (by omega) hK5.box rfl hK5.v (fun e => (hK5.ne 3 B (by decide) e).1 rfl) hl2)
        have STAY6 := Lib.hid (fun w6 (h1 : w5.heap[gv]? = some (.cells A2 32 (0, 0)) ∧ w5.heap[gx]? = some (.cells A 37 (0, 0))) (ha : Added stV 9 w5 w6 B 3 (knC o3) (o3 3) (S.v ++ [vb])) => And.intro (added_stay hK5.v ha h1.1 HGVB.out) (added_stay hK5.v ha h1.2 HGB.out))
        have FIN7 := Lib.hid (fun w6 (ha : Added stV 9 w5 w6 B 3 (knC o3) (o3 3) (S.v ++ [vb])) => And.intro (kw_v hK5 ha).1 (HKSV.out.trans ((KStep.of (B := B) ((Below.refl _ V).drew) HKV.out.le).trans ((KStep.of (B := B) B5.out HKV.out.le).trans (kw_v hK5 ha).2))))
        clear hK5
        refine wpAnyH_ready (rs := [5]) (by kernel_rfl) (by simp) ?_
        refine AllReadyH.cons rfl (fun K hK => ?_) AllReadyH.nil
        rw [if_pos (by rfl)]
        go_simp
        refine Calls.mono (CA7.out) ?_
        rintro e w6 ⟨rfl, hb⟩
        have HADD7 := Lib.hid hb
        refine hK.out ({ tmps := #[.pointer (some ⟨B, 0, none⟩), .agg A, undef, .pointer (some ⟨gx, 0, none⟩), .slice ao ln kc, .int .i64 0, undef, .pointer (some ⟨gv, 0, none⟩), undef, undef, .tuple #[.slice ao ln kc, .int .i64 0], .agg A, .tuple #[.slice ao ln kc, .int .i64 0], .slice ao ln kc, .int .i64 0, .int .i64 0, .bool false, .pointer (some ⟨B, 0, none⟩), .pointer (some ⟨B, 0, none⟩), .pointer (some ⟨B, 2, none⟩), .slice ao ln kc, .string sx, .tuple #[], .agg A, .slice (some ⟨rb, ro, none⟩) 1 vk, .int .i64 1, .int .i64 0, .bool true, .pointer (some ⟨rb, ro, none⟩), .agg A2, .pointer (some ⟨B, 0, none⟩), .pointer (some ⟨B, 0, none⟩), .pointer (some ⟨B, 3, none⟩), .agg A2, .string ⟨vb.toArray⟩, .tuple #[], u36, undef, undef, undef, undef, undef, undef, undef, undef, undef, undef, undef, undef, undef, undef, undef, undef], defers := [] }) w6 (STAY6.out _ hS hb) (fun hS => ?_)
        clear hK K hb
        refine wpAnyH_done (by kernel_rfl) ?_ _
        have HS6 := Lib.hid hS.2
        clear hS
        go_wp2_with fail
        go_round
        case measure => simp [intOf]
        case rel => exact .inr ⟨rfl, Lib.hid ⟨(FIN7.out _ HADD7.out).1, (FIN7.out _ HADD7.out).2, HS6.out⟩⟩
      · obtain ⟨hKF, hKSF, hBXF⟩ := HF.out
        have HKF := Lib.hid hKF
        have HKSF := Lib.hid hKSF
        have HBXF := Lib.hid hBXF
        clear hKF hKSF hBXF HF
        go_upto_region 9 with fail
        refine wp_region_lit ?_
        refine wpList_load_row rfl 37 (.tmp 3) rfl gx rfl 37 _ (0, 0) _ HBXF.out Tryd.underlying37 rfl (by rw [HSZ.out]; exact size37) ?_
        go_wp2_with fail
        refine Calls.mono (CRO.out _) ?_
        rintro e w4 ⟨gr, rfl, hgr, hgle, hb4⟩
        rw [HRQ.out] at hgr
        have HK4 := Lib.hid (HKF.out.on hb4)
        have HKS4 := Lib.hid (HKSF.out.trans (KStep.of (B := B) hb4 HKF.out.le))
        have y0 : w4.cell? ⟨gr, 0, none⟩ = some (.int .u8 0) := by rw [cell_of_row _ _ _ _ _ _ hgr]; rfl
        have y1 : w4.cell? ⟨gr, 1, none⟩ = some (.int .u32 0) := by rw [cell_of_row _ _ _ _ _ _ hgr]; rfl
        have y2 : w4.cell? ⟨gr, 2, none⟩ = some (.int .u8 0) := by rw [cell_of_row _ _ _ _ _ _ hgr]; rfl
        have y3 : w4.cell? ⟨gr, 3, none⟩ = some (.int .u8 0) := by rw [cell_of_row _ _ _ _ _ _ hgr]; rfl
        have y4 : w4.cell? ⟨gr, 4, none⟩ = some (.int .u16 0) := by rw [cell_of_row _ _ _ _ _ _ hgr]; rfl
        clear hb4 hgr
        go_wp2_with fail
        go_loopw [40] (fun vi wr => (vi = .int .i64 0 ∧ wr = w4) ∨ (vi = .int .i64 1 ∧ Hid (Kw H wr B S' ∧ KStep H B w wr))) (fun i _ => 1 - (intOf i).toNat)
        case atStart => exact .inl ⟨rfl, rfl⟩
        case round =>
          rcases hrel with ⟨rfl, rfl⟩ | ⟨rfl, HF⟩
          · obtain ⟨w5, hw5⟩ : ∃ w5, w5 = wr.alloc (.cells Rq.zero.cells.toArray 27) := ⟨_, rfl⟩
            have hb5 : Below wr.heap.size wr w5 := by rw [hw5]; exact (Below.refl _ _).alloc (Nat.le_refl _) _
            have hge : w5.heap[wr.heap.size]? = some (.cells Rq.zero.cells.toArray 27 (0, 0)) := by rw [hw5]; exact heap_alloc_new _ _
            have HK5 := Lib.hid (HK4.out.on hb5)
            have HKS5 := Lib.hid (HKS4.out.trans (KStep.of (B := B) hb5 HK4.out.le))
            have hq : ∀ w, (binOp .neq 27 (.agg Rq.zero.cells.toArray) (.agg Rq.zero.cells.toArray)).run Tryd.prog w = .ok (.bool false) w := fun w => by rw [neq27 Rq.zero Rq.zero w]; simp
            have hgd := fun op a b w => guard27 op a b Rq.zero Rq.zero w
            have x0 : w5.cell? ⟨wr.heap.size, 0, none⟩ = some (.int .u8 0) := by rw [cell_of_row _ _ _ _ _ _ hge]; rfl
            have x1 : w5.cell? ⟨wr.heap.size, 1, none⟩ = some (.int .u32 0) := by rw [cell_of_row _ _ _ _ _ _ hge]; rfl
            have x2 : w5.cell? ⟨wr.heap.size, 2, none⟩ = some (.int .u8 0) := by rw [cell_of_row _ _ _ _ _ _ hge]; rfl
            have x3 : w5.cell? ⟨wr.heap.size, 3, none⟩ = some (.int .u8 0) := by rw [cell_of_row _ _ _ _ _ _ hge]; rfl
            have x4 : w5.cell? ⟨wr.heap.size, 4, none⟩ = some (.int .u16 0) := by rw [cell_of_row _ _ _ _ _ _ hge]; rfl
            simp only [Rq.cells, Rq.zero] at hq hgd hw5
            have HW5 := Lib.hid hw5
            clear hb5 hge hw5
            go_upto_region 12 with fail
            rw [← HW5.out]
            clear HW5
            go_wp2_with fail
            go_round
            case measure => simp [intOf]
            case rel =>
              refine .inr ⟨rfl, Lib.hid ⟨?_, HKS5.out⟩⟩
              rw [HS'.out, if_pos (by first | rfl | trivial)]
              exact HK5.out
          · go_wp2_with fail
            go_end0
            exact ⟨rfl, HF.out⟩
end Go.Proofs.YtigpfaecbmnklaaDoor
