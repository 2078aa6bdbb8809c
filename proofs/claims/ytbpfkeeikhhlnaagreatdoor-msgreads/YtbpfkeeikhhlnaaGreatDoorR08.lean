/- The document's Decode. -/
import Derived.Test.YtbpfkeeikhhlnaaGreatDoorR07
import Derived.Deep.CutRange
import Derived.Deep.CutBlock
namespace Go.Proofs.YtbpfkeeikhhlnaaGreatDoor
open Go.RowKit
set_option maxRecDepth 100000

/-- what the document's Decode tells -/
def DocD (w' : World) (l : List Int) (m : Mg) (c : Mc) (ok : Bool) : Prop :=
  (ok = true ∧ MgAt w' m c ∧ MgOk m c ∧ isM m c = true ∧ encM m c = l) ∨
  (ok = false ∧ m = hm 0 0 0 0 ∧ ((1 ≤ (p8 ⟨l, 0⟩).1 ∧ (p8 ⟨l, 0⟩).1 ≤ 14) → ((dAll l).2.f ≠ 0 ∨ ∃ w2 m' c', MgAt w2 m' c' ∧ RelQ m' c' (dAll l).1 ∧ (isM m' c' = false ∨ encM m' c' ≠ l))))

set_option maxHeartbeats 32000000 in
theorem rdecode_any (w : World) (ao : Option Addr) (cap : Nat) (l : List Int) (hb : Bytes w ao l) (hnone : ao = none → l = [] ∧ cap = 0) (hcap : l.length ≤ cap) (hfa : ∀ ad, ao = some ad → 0 < cap → ∃ b off, ad = ⟨b, off, none⟩) (hl : l.length ≤ 8000) (hby : ∀ x ∈ l, isByte x) :
    Calls Tryz.prog 21 #[.slice ao l.length cap] w fun e w' => ∃ m c ok, e = .returned (.tuple #[.agg m.cells.toArray, .bool ok]) ∧ DocD w' l m c ok ∧ Below w.heap.size w w' := by
  obtain ⟨W, hW⟩ : ∃ W, W = w.alloc (.cells Vz.toArray 37) := ⟨_, rfl⟩
  have hbl := bl1 hW
  have hsz : W.heap.size = w.heap.size + 1 := by rw [hW]; simp
  have hg0 : W.heap[w.heap.size]? = some (.cells Vz.toArray 37 (0, 0)) := by rw [hW]; exact heap_alloc_new _ _
  obtain ⟨W1, hW1⟩ : ∃ W1, W1 = W.alloc (.cells #[.slice ao l.length cap, .bool false] 101) := ⟨_, rfl⟩
  have hb1 : Below W.heap.size W W1 := by rw [hW1]; exact (Below.refl _ _).alloc (Nat.le_refl _) _
  have hsz1 : W1.heap.size = W.heap.size + 1 := by rw [hW1]; simp
  have hbx : W1.heap[W.heap.size]? = some (.cells #[.slice ao l.length cap, .bool false] 101 (0, 0)) := by rw [hW1]; exact heap_alloc_new _ _
  have hB1 : Bytes W1 ao l := bytes_below hb ((hbl.trans (hb1.mono hbl.size))) (Nat.le_refl _)
  have D0 : Ds W1 W.heap.size ⟨l, 0⟩ := ⟨⟨ao, cap, by simpa [Sr.dr] using hbx, hB1, hcap, fun ad e hp => by
      obtain ⟨ad', e', hc⟩ := hb 0 hp
      rw [e] at e'
      injection e' with e'
      subst e'
      have := cell_block hc
      rw [add_block] at this
      omega, hby, hfa, fun e => (hnone e).2⟩, .inl rfl, by simp only; omega⟩
  have HH := Lib.hid (And.intro hbl (And.intro hb1 (And.intro hsz (And.intro hsz1 (And.intro hg0 (And.intro hby (And.intro hb (And.intro hnone hl))))))))
  have HD0 := Lib.hid D0
  have HW := Lib.hid hW
  have HW1 := Lib.hid hW1
  clear hb hnone hby hbl hg0 hW hsz hB1 hbx hb1 hcap hfa D0 hsz1 hW1
  have d8 : decide (8000 < (l.length : Int)) = false := by rw [decide_eq_false_iff_not]; omega
  generalize hln : l.length = ln at *
  have HLN := Lib.hid hln
  clear hln hl
  simp only [Vz] at HW
  go_enter Tryz.func21, Tryz.ntmps21
  go_upto_region 1 with fail
  rw [← HW.out]
  clear HW
  go_upto_region 4 with fail
  rw [← HW1.out]
  clear HW1
  obtain ⟨a, ha⟩ : ∃ a, a = p8 ⟨l, 0⟩ := ⟨_, rfl⟩
  obtain ⟨b, hb⟩ : ∃ b, b = p8 a.2 := ⟨_, rfl⟩
  obtain ⟨c, hc⟩ : ∃ c, c = p8 b.2 := ⟨_, rfl⟩
  obtain ⟨d, hd⟩ : ∃ d, d = p8 c.2 := ⟨_, rfl⟩
  have HY0 : Hid (dAll l = dFold (partsOf a.1) (zeroQ a.1 b.1 c.1 d.1, d.2)) := Lib.hid (by rw [hd, hc, hb, ha]; rfl)
  obtain ⟨X, hX⟩ : ∃ X, X = W.heap.size := ⟨_, rfl⟩
  have hXs : W1.heap.size = X + 1 := by rw [hX]; exact HH.out.2.2.2.1
  rw [← hX] at HD0 ⊢
  have HX := Lib.hid (And.intro hX hXs)
  clear hX hXs
  have C := rget1 _ X _ HD0.out
  rw [← ha] at C
  have ra := p8_in HD0.out.ok
  rw [← ha] at ra
  have CH := Lib.hid C
  have HA := Lib.hid ha
  clear C ha
  go_wp2_with fail
  refine CH.out.mono ?_
  rintro e1 w1 ⟨rfl, d1, k1⟩
  have D1 := Lib.hid (And.intro d1 k1)
  have C := rget1 _ X _ d1
  rw [← hb] at C
  have rb := p8_in d1.ok
  rw [← hb] at rb
  have CH := Lib.hid C
  clear C d1 k1 HD0 hb
  go_wp2_with fail
  refine CH.out.mono ?_
  rintro e2 w2 ⟨rfl, d2, k2⟩
  have D2 := Lib.hid (And.intro d2 (D1.out.2.trans k2 (fun _ _ h => h)))
  clear d2 k2 D1 CH
  dsimp only
  refine ‹∀ (a : Act) (w : World), wpList Tryz.prog _ _ _ a w → _› _ _ ?_
  have BW2 : Below w.heap.size w w2 := (HH.out.1.trans (HH.out.2.1.mono HH.out.1.size)).trans (D2.out.2.below (HH.out.1.trans (HH.out.2.1.mono HH.out.1.size)).size (fun k e => by have := HX.out.1; have := HH.out.2.2.1; omega))
  have hG2 : w2.heap[w.heap.size]? = some (.cells Vz.toArray 37 (0, 0)) := by
    rw [D2.out.2.block _ (by have := HX.out.1; have := HX.out.2; have := HH.out.2.2.1; omega) (fun e => by have := HX.out.1; have := HH.out.2.2.1; omega), HH.out.2.1.block _ (by have := HH.out.2.2.1; omega)]
    exact HH.out.2.2.2.2.1
  obtain ⟨U, hU⟩ : ∃ U, U = (w2.alloc (.cells Vz.toArray 37)).setCells w2.heap.size 0 (hm a.1 b.1 0 0).cells := ⟨_, rfl⟩
  obtain ⟨hUM, hUb, hth⟩ := msg_new w2 _ hU
  have J0 : DJ w w.heap.size X w2.heap.size a.1 U (hm a.1 b.1 0 0) Mc.nil (zeroQ a.1 b.1 0 0, b.2) :=
    ⟨⟨hUM, zero_at _ _ _ _ _, zero_new _ _ _ _ _, rfl, rfl, rfl, rfl, rfl⟩, D2.out.1.kept (S := fun _ => False) (Kept.ofBelow hUb) (fun _ _ h => h), zeroQ_ok ra rb (by unfold isByte; decide) (by unfold isByte; decide), (hUb.block _ (lt_of_block hG2)).trans hG2, BW2.trans (hUb.mono BW2.size), Nat.le_refl _, by have := HX.out.1; have := HH.out.2.2.1; omega, D2.out.1.lt, rfl⟩
  replace J0 := Lib.hid J0
  have HTH := Lib.hid hth
  have HU := Lib.hid hU
  clear hUM hUb hth BW2 hG2 hU
  have wb : IntKind.u8.wrap b.1 = b.1 := by
    have : IntKind.u8.wrap b.1 = b.1 % 256 := rfl
    omega
  refine wv (.int .u8 b.1) w2 (by go_simp <;> exact wb) ?_
  clear wb
  refine wv (.agg (hm a.1 b.1 0 0).cells.toArray) w2 (by simp only [hm, Mg.cells, Rq.zero, Vt.zero]; go_simp) ?_
  refine wv (.pointer (some ⟨w2.heap.size, 0, none⟩)) (w2.alloc (.cells Vz.toArray 37)) (by simp only [Vz]; go_simp) ?_
  refine wpList_store_mid rfl 37 (.tmp 5) (.tmp 23) rfl w2.heap.size 0 (hm a.1 b.1 0 0).cells.toArray rfl rfl HTH.out size37 (all_oneCell_toArray (Mg.one _)) ?_
  dsimp only
  rw [← HU.out]
  clear HTH HU D2 CH
  generalize w2.heap.size = M at *
  have C0 := rget1 _ X _ J0.out.rd
  have rc := p8_in J0.out.rd.ok
  simp only at C0 rc
  rw [← hc] at C0 rc
  have C := Lib.hid C0
  clear C0
  generalize (hm a.1 b.1 0 0).cells.toArray = D0
  go_wp2_with fail
  refine C.out.mono ?_
  rintro e3 w3 ⟨rfl, d3, k3⟩
  have j := J0.out.call d3 k3
  have cc := j.mq.cell 2
  have ff := j.mq.free 2
  simp only [hm, Mg.cells, List.getElem?_cons_zero, List.getElem?_cons_succ] at cc
  have J1 : DJ w w.heap.size X M a.1 (w3.setCell ⟨M, 2, none⟩ (.int .u8 c.1)) (hm a.1 b.1 c.1 0) Mc.nil (zeroQ a.1 b.1 c.1 0, c.2) := by
    rw [one_put]
    exact j.put (zero_at _ _ _ _ _) (zero_new _ _ _ _ _) (by simp [over, hm, Mg.cells]) rfl rfl rfl rfl rfl (zeroQ_ok ra rb rc (by unfold isByte; decide)) rfl
  replace J1 := Lib.hid J1
  clear C d3 k3 j J0 hc
  go_wp2_with fail
  clear cc ff
  generalize w3.setCell ⟨M, 2, none⟩ (.int .u8 c.1) = w4 at *
  have C0 := rget1 _ X _ J1.out.rd
  have rd := p8_in J1.out.rd.ok
  simp only at C0 rd
  rw [← hd] at C0 rd
  have C := Lib.hid C0
  clear C0
  refine C.out.mono ?_
  rintro e5 w5 ⟨rfl, d3, k3⟩
  have j := J1.out.call d3 k3
  have cc := j.mq.cell 3
  have ff := j.mq.free 3
  simp only [hm, Mg.cells, List.getElem?_cons_zero, List.getElem?_cons_succ] at cc
  have J2 : DJ w w.heap.size X M a.1 (w5.setCell ⟨M, 3, none⟩ (.int .u8 d.1)) (hm a.1 b.1 c.1 d.1) Mc.nil (zeroQ a.1 b.1 c.1 d.1, d.2) := by
    rw [one_put]
    exact j.put (zero_at _ _ _ _ _) (zero_new _ _ _ _ _) (by simp [over, hm, Mg.cells]) rfl rfl rfl rfl rfl (zeroQ_ok ra rb rc rd) rfl
  have ck : w5.cell? ⟨M, 0, none⟩ = some (.int .u8 a.1) := j.mq.cell 0
  replace J2 := Lib.hid J2
  clear C d3 k3 j J1 hd
  obtain ⟨w6, hw6⟩ : ∃ w6, w6 = w5.setCell ⟨M, 3, none⟩ (.int .u8 d.1) := ⟨_, rfl⟩
  rw [← hw6] at J2
  replace hw6 := Lib.hid hw6
  go_upto_block 0 with fail
  rw [← hw6.out]
  clear cc ff hw6 ck
  have HK := Lib.hid ra
  generalize hm0 : hm a.1 b.1 c.1 d.1 = m0 at *
  have F0 : Hid (m0.vt = Vt.zero ∧ m0.vs = ⟨none, 0, 0⟩ ∧ m0.sm = ⟨none, 0, 0⟩ ∧ m0.dt = ⟨none, 0, 0⟩) := Lib.hid (by rw [← hm0]; exact ⟨rfl, rfl, rfl, rfl⟩)
  obtain ⟨y0, hy0⟩ : ∃ z, z = (zeroQ a.1 b.1 c.1 d.1, d.2) := ⟨_, rfl⟩
  rw [← hy0] at HY0 J2
  clear hm0 hy0 rb rc rd
  obtain ⟨kk, hkk⟩ : ∃ z, z = a.1 := ⟨_, rfl⟩
  rw [← hkk] at HY0 J2 HK ra ⊢
  have HKK := Lib.hid hkk
  clear hkk
  generalize w6 = w0 at *
  have J0 := J2
  clear J2
  go_cut [] from 6 to 118 (fun wx => ∃ (m : Mg) (cc : Mc) (y : Mq × Sr), Hid (DJ w w.heap.size X M kk wx m cc y ∧ ((1 ≤ kk ∧ kk ≤ 14) → y = dAll l)))
  case first =>
    by_cases h : kk = 1
    · skip
      have HKE := Lib.hid h
      rw [h] at J0 HY0 ⊢
      clear h HK ra
      have C := Lib.hid (rreq_any _ X _ J0.out.rd)
      go_wp2_with fail
      refine C.out.mono ?_
      rintro e wq0 ⟨rfl, dq, kq⟩
      have j := J0.out.call dq kq
      have HTH := Lib.hid (j.mq.there 6 5 (by omega))
      have N := J0.out.p2 dq kq
      obtain ⟨y1, hy⟩ : ∃ z, z = dPart 2 y0.1 y0.2 := ⟨_, rfl⟩
      rw [← hy] at N
      have E1 := Lib.hid hy
      have F1 : Hid (({ m0 with rq := (pRq y0.2).1 } : Mg).vt = Vt.zero ∧ ({ m0 with rq := (pRq y0.2).1 } : Mg).vs = ⟨none, 0, 0⟩ ∧ ({ m0 with rq := (pRq y0.2).1 } : Mg).sm = ⟨none, 0, 0⟩ ∧ ({ m0 with rq := (pRq y0.2).1 } : Mg).dt = ⟨none, 0, 0⟩) := Lib.hid F0.out
      generalize ({ m0 with rq := (pRq y0.2).1 } : Mg) = m1 at N F1
      obtain ⟨wr0, hwr⟩ : ∃ z, z = wq0.setCells M 6 (pRq y0.2).1.cells := ⟨_, rfl⟩
      rw [← hwr] at N
      have HWR := Lib.hid hwr
      have J1 := Lib.hid N
      clear N hy dq kq C F0 J0 hwr
      dsimp only
      refine ‹∀ (a : Act) (w : World), wpList Tryz.prog _ _ _ a w → _› _ _ ?_
      refine wv (.pointer (some ⟨M, 6, none⟩)) wq0 (by go_simp) ?_
      refine wpList_store_mid rfl 27 (.tmp 44) (.tmp 43) rfl M 6 (pRq y0.2).1.cells.toArray rfl rfl HTH.out size27 (all_oneCell_toArray (Rq.one _)) ?_
      dsimp only
      rw [← HWR.out]
      have ck0 : wr0.cell? ⟨M, 0, none⟩ = some (.int .u8 1) := by rw [← J1.out.kd]; exact J1.out.mq.cell 0
      clear HTH HWR j
      generalize (pRq y0.2).1.cells.toArray = RQ at *
      go_wp2_with fail
      (try go_meet)
      refine ⟨m1, Mc.nil, y1, ?_⟩
      rw [HKE.out]
      exact Lib.hid ⟨J1.out, fun _ => by rw [HY0.out, show partsOf 1 = [2] from rfl]; show y1 = dFold [2] y0; simp only [dFold, List.foldl]; rw [E1.out]⟩

    replace h : Hid (kk ≠ 1) := Lib.hid h
    have hk1 := h
    clear h
    by_cases h : kk = 2
    · skip
      have HKE := Lib.hid h
      rw [h] at J0 HY0 ⊢
      clear h HK ra
      have C := Lib.hid (rget4 _ X _ J0.out.rd)
      have r := p32_in J0.out.rd.ok
      go_wp2_with fail
      refine C.out.mono ?_
      rintro e wq0 ⟨rfl, dq, kq⟩
      have j := J0.out.call dq kq
      have cc0 := j.mq.cell 4
      have ff0 := j.mq.free 4
      simp only [Mg.cells, List.getElem?_cons_zero, List.getElem?_cons_succ] at cc0
      have ck0 : wq0.cell? ⟨M, 0, none⟩ = some (.int .u8 2) := by rw [← j.kd]; exact j.mq.cell 0
      have N := J0.out.p0 dq kq
      obtain ⟨y1, hy⟩ : ∃ z, z = dPart 0 y0.1 y0.2 := ⟨_, rfl⟩
      rw [← hy] at N
      have E1 := Lib.hid hy
      have F1 : Hid (({ m0 with vw := (p32 y0.2).1 } : Mg).vt = Vt.zero ∧ ({ m0 with vw := (p32 y0.2).1 } : Mg).vs = ⟨none, 0, 0⟩ ∧ ({ m0 with vw := (p32 y0.2).1 } : Mg).sm = ⟨none, 0, 0⟩ ∧ ({ m0 with vw := (p32 y0.2).1 } : Mg).dt = ⟨none, 0, 0⟩) := Lib.hid F0.out
      generalize ({ m0 with vw := (p32 y0.2).1 } : Mg) = m1 at N F1
      have J1 := Lib.hid N
      clear N hy dq kq j C F0 J0
      have C := Lib.hid (rget4 _ X _ J1.out.rd)
      have r := p32_in J1.out.rd.ok
      go_wp2_with fail
      refine C.out.mono ?_
      rintro e wq1 ⟨rfl, dq, kq⟩
      have j := J1.out.call dq kq
      have cc1 := j.mq.cell 5
      have ff1 := j.mq.free 5
      simp only [Mg.cells, List.getElem?_cons_zero, List.getElem?_cons_succ] at cc1
      have ck1 : wq1.cell? ⟨M, 0, none⟩ = some (.int .u8 2) := by rw [← j.kd]; exact j.mq.cell 0
      have N := J1.out.p1 dq kq
      obtain ⟨y2, hy⟩ : ∃ z, z = dPart 1 y1.1 y1.2 := ⟨_, rfl⟩
      rw [← hy] at N
      have E2 := Lib.hid hy
      have F2 : Hid (({ m1 with sq := (p32 y1.2).1 } : Mg).vt = Vt.zero ∧ ({ m1 with sq := (p32 y1.2).1 } : Mg).vs = ⟨none, 0, 0⟩ ∧ ({ m1 with sq := (p32 y1.2).1 } : Mg).sm = ⟨none, 0, 0⟩ ∧ ({ m1 with sq := (p32 y1.2).1 } : Mg).dt = ⟨none, 0, 0⟩) := Lib.hid F1.out
      generalize ({ m1 with sq := (p32 y1.2).1 } : Mg) = m2 at N F2
      have J2 := Lib.hid N
      clear N hy dq kq j C F1 J1
      have C := Lib.hid (rreq_any _ X _ J2.out.rd)
      go_wp2_with fail
      refine C.out.mono ?_
      rintro e wq2 ⟨rfl, dq, kq⟩
      have j := J2.out.call dq kq
      have HTH := Lib.hid (j.mq.there 6 5 (by omega))
      have N := J2.out.p2 dq kq
      obtain ⟨y3, hy⟩ : ∃ z, z = dPart 2 y2.1 y2.2 := ⟨_, rfl⟩
      rw [← hy] at N
      have E3 := Lib.hid hy
      have F3 : Hid (({ m2 with rq := (pRq y2.2).1 } : Mg).vt = Vt.zero ∧ ({ m2 with rq := (pRq y2.2).1 } : Mg).vs = ⟨none, 0, 0⟩ ∧ ({ m2 with rq := (pRq y2.2).1 } : Mg).sm = ⟨none, 0, 0⟩ ∧ ({ m2 with rq := (pRq y2.2).1 } : Mg).dt = ⟨none, 0, 0⟩) := Lib.hid F2.out
      generalize ({ m2 with rq := (pRq y2.2).1 } : Mg) = m3 at N F3
      obtain ⟨wr2, hwr⟩ : ∃ z, z = wq2.setCells M 6 (pRq y2.2).1.cells := ⟨_, rfl⟩
      rw [← hwr] at N
      have HWR := Lib.hid hwr
      have J3 := Lib.hid N
      clear N hy dq kq C F2 J2 hwr
      dsimp only
      refine ‹∀ (a : Act) (w : World), wpList Tryz.prog _ _ _ a w → _› _ _ ?_
      refine wv (.pointer (some ⟨M, 6, none⟩)) wq2 (by go_simp) ?_
      refine wpList_store_mid rfl 27 (.tmp 63) (.tmp 62) rfl M 6 (pRq y2.2).1.cells.toArray rfl rfl HTH.out size27 (all_oneCell_toArray (Rq.one _)) ?_
      dsimp only
      rw [← HWR.out]
      have ck2 : wr2.cell? ⟨M, 0, none⟩ = some (.int .u8 2) := by rw [← J3.out.kd]; exact J3.out.mq.cell 0
      clear HTH HWR j
      generalize (pRq y2.2).1.cells.toArray = RQ at *
      go_wp2_with fail
      (try go_meet)
      refine ⟨m3, Mc.nil, y3, ?_⟩
      rw [HKE.out]
      exact Lib.hid ⟨J3.out, fun _ => by rw [HY0.out, show partsOf 2 = [0, 1, 2] from rfl]; show y3 = dFold [0, 1, 2] y0; simp only [dFold, List.foldl]; rw [E3.out, E2.out, E1.out]⟩

    replace h : Hid (kk ≠ 2) := Lib.hid h
    have hk2 := h
    clear h
    by_cases h : kk = 3
    · skip
      have HKE := Lib.hid h
      rw [h] at J0 HY0 ⊢
      clear h HK ra
      have C := Lib.hid (rget4 _ X _ J0.out.rd)
      have r := p32_in J0.out.rd.ok
      go_wp2_with fail
      refine C.out.mono ?_
      rintro e wq0 ⟨rfl, dq, kq⟩
      have j := J0.out.call dq kq
      have cc0 := j.mq.cell 4
      have ff0 := j.mq.free 4
      simp only [Mg.cells, List.getElem?_cons_zero, List.getElem?_cons_succ] at cc0
      have ck0 : wq0.cell? ⟨M, 0, none⟩ = some (.int .u8 3) := by rw [← j.kd]; exact j.mq.cell 0
      have N := J0.out.p0 dq kq
      obtain ⟨y1, hy⟩ : ∃ z, z = dPart 0 y0.1 y0.2 := ⟨_, rfl⟩
      rw [← hy] at N
      have E1 := Lib.hid hy
      have F1 : Hid (({ m0 with vw := (p32 y0.2).1 } : Mg).vt = Vt.zero ∧ ({ m0 with vw := (p32 y0.2).1 } : Mg).vs = ⟨none, 0, 0⟩ ∧ ({ m0 with vw := (p32 y0.2).1 } : Mg).sm = ⟨none, 0, 0⟩ ∧ ({ m0 with vw := (p32 y0.2).1 } : Mg).dt = ⟨none, 0, 0⟩) := Lib.hid F0.out
      generalize ({ m0 with vw := (p32 y0.2).1 } : Mg) = m1 at N F1
      have J1 := Lib.hid N
      clear N hy dq kq j C F0 J0
      have C := Lib.hid (rget4 _ X _ J1.out.rd)
      have r := p32_in J1.out.rd.ok
      go_wp2_with fail
      refine C.out.mono ?_
      rintro e wq1 ⟨rfl, dq, kq⟩
      have j := J1.out.call dq kq
      have cc1 := j.mq.cell 5
      have ff1 := j.mq.free 5
      simp only [Mg.cells, List.getElem?_cons_zero, List.getElem?_cons_succ] at cc1
      have ck1 : wq1.cell? ⟨M, 0, none⟩ = some (.int .u8 3) := by rw [← j.kd]; exact j.mq.cell 0
      have N := J1.out.p1 dq kq
      obtain ⟨y2, hy⟩ : ∃ z, z = dPart 1 y1.1 y1.2 := ⟨_, rfl⟩
      rw [← hy] at N
      have E2 := Lib.hid hy
      have F2 : Hid (({ m1 with sq := (p32 y1.2).1 } : Mg).vt = Vt.zero ∧ ({ m1 with sq := (p32 y1.2).1 } : Mg).vs = ⟨none, 0, 0⟩ ∧ ({ m1 with sq := (p32 y1.2).1 } : Mg).sm = ⟨none, 0, 0⟩ ∧ ({ m1 with sq := (p32 y1.2).1 } : Mg).dt = ⟨none, 0, 0⟩) := Lib.hid F1.out
      generalize ({ m1 with sq := (p32 y1.2).1 } : Mg) = m2 at N F2
      have J2 := Lib.hid N
      clear N hy dq kq j C F1 J1
      have C := Lib.hid (rreq_any _ X _ J2.out.rd)
      go_wp2_with fail
      refine C.out.mono ?_
      rintro e wq2 ⟨rfl, dq, kq⟩
      have j := J2.out.call dq kq
      have HTH := Lib.hid (j.mq.there 6 5 (by omega))
      have N := J2.out.p2 dq kq
      obtain ⟨y3, hy⟩ : ∃ z, z = dPart 2 y2.1 y2.2 := ⟨_, rfl⟩
      rw [← hy] at N
      have E3 := Lib.hid hy
      have F3 : Hid (({ m2 with rq := (pRq y2.2).1 } : Mg).vt = Vt.zero ∧ ({ m2 with rq := (pRq y2.2).1 } : Mg).vs = ⟨none, 0, 0⟩ ∧ ({ m2 with rq := (pRq y2.2).1 } : Mg).sm = ⟨none, 0, 0⟩ ∧ ({ m2 with rq := (pRq y2.2).1 } : Mg).dt = ⟨none, 0, 0⟩) := Lib.hid F2.out
      generalize ({ m2 with rq := (pRq y2.2).1 } : Mg) = m3 at N F3
      obtain ⟨wr2, hwr⟩ : ∃ z, z = wq2.setCells M 6 (pRq y2.2).1.cells := ⟨_, rfl⟩
      rw [← hwr] at N
      have HWR := Lib.hid hwr
      have J3 := Lib.hid N
      clear N hy dq kq C F2 J2 hwr
      dsimp only
      refine ‹∀ (a : Act) (w : World), wpList Tryz.prog _ _ _ a w → _› _ _ ?_
      refine wv (.pointer (some ⟨M, 6, none⟩)) wq2 (by go_simp) ?_
      refine wpList_store_mid rfl 27 (.tmp 63) (.tmp 62) rfl M 6 (pRq y2.2).1.cells.toArray rfl rfl HTH.out size27 (all_oneCell_toArray (Rq.one _)) ?_
      dsimp only
      rw [← HWR.out]
      have ck2 : wr2.cell? ⟨M, 0, none⟩ = some (.int .u8 3) := by rw [← J3.out.kd]; exact J3.out.mq.cell 0
      clear HTH HWR j
      generalize (pRq y2.2).1.cells.toArray = RQ at *
      go_wp2_with fail
      (try go_meet)
      refine ⟨m3, Mc.nil, y3, ?_⟩
      rw [HKE.out]
      exact Lib.hid ⟨J3.out, fun _ => by rw [HY0.out, show partsOf 3 = [0, 1, 2] from rfl]; show y3 = dFold [0, 1, 2] y0; simp only [dFold, List.foldl]; rw [E3.out, E2.out, E1.out]⟩

    replace h : Hid (kk ≠ 3) := Lib.hid h
    have hk3 := h
    clear h
    by_cases h : kk = 4
    · skip
      have HKE := Lib.hid h
      rw [h] at J0 HY0 ⊢
      clear h HK ra
      have C := Lib.hid (rget4 _ X _ J0.out.rd)
      have r := p32_in J0.out.rd.ok
      go_wp2_with fail
      refine C.out.mono ?_
      rintro e wq0 ⟨rfl, dq, kq⟩
      have j := J0.out.call dq kq
      have cc0 := j.mq.cell 4
      have ff0 := j.mq.free 4
      simp only [Mg.cells, List.getElem?_cons_zero, List.getElem?_cons_succ] at cc0
      have ck0 : wq0.cell? ⟨M, 0, none⟩ = some (.int .u8 4) := by rw [← j.kd]; exact j.mq.cell 0
      have N := J0.out.p0 dq kq
      obtain ⟨y1, hy⟩ : ∃ z, z = dPart 0 y0.1 y0.2 := ⟨_, rfl⟩
      rw [← hy] at N
      have E1 := Lib.hid hy
      have F1 : Hid (({ m0 with vw := (p32 y0.2).1 } : Mg).vt = Vt.zero ∧ ({ m0 with vw := (p32 y0.2).1 } : Mg).vs = ⟨none, 0, 0⟩ ∧ ({ m0 with vw := (p32 y0.2).1 } : Mg).sm = ⟨none, 0, 0⟩ ∧ ({ m0 with vw := (p32 y0.2).1 } : Mg).dt = ⟨none, 0, 0⟩) := Lib.hid F0.out
      generalize ({ m0 with vw := (p32 y0.2).1 } : Mg) = m1 at N F1
      have J1 := Lib.hid N
      clear N hy dq kq j C F0 J0
      have C := Lib.hid (rget4 _ X _ J1.out.rd)
      have r := p32_in J1.out.rd.ok
      go_wp2_with fail
      refine C.out.mono ?_
      rintro e wq1 ⟨rfl, dq, kq⟩
      have j := J1.out.call dq kq
      have cc1 := j.mq.cell 5
      have ff1 := j.mq.free 5
      simp only [Mg.cells, List.getElem?_cons_zero, List.getElem?_cons_succ] at cc1
      have ck1 : wq1.cell? ⟨M, 0, none⟩ = some (.int .u8 4) := by rw [← j.kd]; exact j.mq.cell 0
      have N := J1.out.p1 dq kq
      obtain ⟨y2, hy⟩ : ∃ z, z = dPart 1 y1.1 y1.2 := ⟨_, rfl⟩
      rw [← hy] at N
      have E2 := Lib.hid hy
      have F2 : Hid (({ m1 with sq := (p32 y1.2).1 } : Mg).vt = Vt.zero ∧ ({ m1 with sq := (p32 y1.2).1 } : Mg).vs = ⟨none, 0, 0⟩ ∧ ({ m1 with sq := (p32 y1.2).1 } : Mg).sm = ⟨none, 0, 0⟩ ∧ ({ m1 with sq := (p32 y1.2).1 } : Mg).dt = ⟨none, 0, 0⟩) := Lib.hid F1.out
      generalize ({ m1 with sq := (p32 y1.2).1 } : Mg) = m2 at N F2
      have J2 := Lib.hid N
      clear N hy dq kq j C F1 J1
      have C := Lib.hid (rreq_any _ X _ J2.out.rd)
      go_wp2_with fail
      refine C.out.mono ?_
      rintro e wq2 ⟨rfl, dq, kq⟩
      have j := J2.out.call dq kq
      have HTH := Lib.hid (j.mq.there 6 5 (by omega))
      have N := J2.out.p2 dq kq
      obtain ⟨y3, hy⟩ : ∃ z, z = dPart 2 y2.1 y2.2 := ⟨_, rfl⟩
      rw [← hy] at N
      have E3 := Lib.hid hy
      have F3 : Hid (({ m2 with rq := (pRq y2.2).1 } : Mg).vt = Vt.zero ∧ ({ m2 with rq := (pRq y2.2).1 } : Mg).vs = ⟨none, 0, 0⟩ ∧ ({ m2 with rq := (pRq y2.2).1 } : Mg).sm = ⟨none, 0, 0⟩ ∧ ({ m2 with rq := (pRq y2.2).1 } : Mg).dt = ⟨none, 0, 0⟩) := Lib.hid F2.out
      generalize ({ m2 with rq := (pRq y2.2).1 } : Mg) = m3 at N F3
      obtain ⟨wr2, hwr⟩ : ∃ z, z = wq2.setCells M 6 (pRq y2.2).1.cells := ⟨_, rfl⟩
      rw [← hwr] at N
      have HWR := Lib.hid hwr
      have J3 := Lib.hid N
      clear N hy dq kq C F2 J2 hwr
      dsimp only
      refine ‹∀ (a : Act) (w : World), wpList Tryz.prog _ _ _ a w → _› _ _ ?_
      refine wv (.pointer (some ⟨M, 6, none⟩)) wq2 (by go_simp) ?_
      refine wpList_store_mid rfl 27 (.tmp 63) (.tmp 62) rfl M 6 (pRq y2.2).1.cells.toArray rfl rfl HTH.out size27 (all_oneCell_toArray (Rq.one _)) ?_
      dsimp only
      rw [← HWR.out]
      have ck2 : wr2.cell? ⟨M, 0, none⟩ = some (.int .u8 4) := by rw [← J3.out.kd]; exact J3.out.mq.cell 0
      clear HTH HWR j
      generalize (pRq y2.2).1.cells.toArray = RQ at *
      go_wp2_with fail
      (try go_meet)
      refine ⟨m3, Mc.nil, y3, ?_⟩
      rw [HKE.out]
      exact Lib.hid ⟨J3.out, fun _ => by rw [HY0.out, show partsOf 4 = [0, 1, 2] from rfl]; show y3 = dFold [0, 1, 2] y0; simp only [dFold, List.foldl]; rw [E3.out, E2.out, E1.out]⟩

    replace h : Hid (kk ≠ 4) := Lib.hid h
    have hk4 := h
    clear h
    by_cases h : kk = 14
    · skip
      have HKE := Lib.hid h
      rw [h] at J0 HY0 ⊢
      clear h HK ra
      have C := Lib.hid (rget4 _ X _ J0.out.rd)
      have r := p32_in J0.out.rd.ok
      go_wp2_with fail
      refine C.out.mono ?_
      rintro e wq0 ⟨rfl, dq, kq⟩
      have j := J0.out.call dq kq
      have cc0 := j.mq.cell 4
      have ff0 := j.mq.free 4
      simp only [Mg.cells, List.getElem?_cons_zero, List.getElem?_cons_succ] at cc0
      have ck0 : wq0.cell? ⟨M, 0, none⟩ = some (.int .u8 14) := by rw [← j.kd]; exact j.mq.cell 0
      have N := J0.out.p0 dq kq
      obtain ⟨y1, hy⟩ : ∃ z, z = dPart 0 y0.1 y0.2 := ⟨_, rfl⟩
      rw [← hy] at N
      have E1 := Lib.hid hy
      have F1 : Hid (({ m0 with vw := (p32 y0.2).1 } : Mg).vt = Vt.zero ∧ ({ m0 with vw := (p32 y0.2).1 } : Mg).vs = ⟨none, 0, 0⟩ ∧ ({ m0 with vw := (p32 y0.2).1 } : Mg).sm = ⟨none, 0, 0⟩ ∧ ({ m0 with vw := (p32 y0.2).1 } : Mg).dt = ⟨none, 0, 0⟩) := Lib.hid F0.out
      generalize ({ m0 with vw := (p32 y0.2).1 } : Mg) = m1 at N F1
      have J1 := Lib.hid N
      clear N hy dq kq j C F0 J0
      have C := Lib.hid (rreq_any _ X _ J1.out.rd)
      go_wp2_with fail
      refine C.out.mono ?_
      rintro e wq1 ⟨rfl, dq, kq⟩
      have j := J1.out.call dq kq
      have HTH := Lib.hid (j.mq.there 6 5 (by omega))
      have N := J1.out.p2 dq kq
      obtain ⟨y2, hy⟩ : ∃ z, z = dPart 2 y1.1 y1.2 := ⟨_, rfl⟩
      rw [← hy] at N
      have E2 := Lib.hid hy
      have F2 : Hid (({ m1 with rq := (pRq y1.2).1 } : Mg).vt = Vt.zero ∧ ({ m1 with rq := (pRq y1.2).1 } : Mg).vs = ⟨none, 0, 0⟩ ∧ ({ m1 with rq := (pRq y1.2).1 } : Mg).sm = ⟨none, 0, 0⟩ ∧ ({ m1 with rq := (pRq y1.2).1 } : Mg).dt = ⟨none, 0, 0⟩) := Lib.hid F1.out
      generalize ({ m1 with rq := (pRq y1.2).1 } : Mg) = m2 at N F2
      obtain ⟨wr1, hwr⟩ : ∃ z, z = wq1.setCells M 6 (pRq y1.2).1.cells := ⟨_, rfl⟩
      rw [← hwr] at N
      have HWR := Lib.hid hwr
      have J2 := Lib.hid N
      clear N hy dq kq C F1 J1 hwr
      dsimp only
      refine ‹∀ (a : Act) (w : World), wpList Tryz.prog _ _ _ a w → _› _ _ ?_
      refine wv (.pointer (some ⟨M, 6, none⟩)) wq1 (by go_simp) ?_
      refine wpList_store_mid rfl 27 (.tmp 63) (.tmp 62) rfl M 6 (pRq y1.2).1.cells.toArray rfl rfl HTH.out size27 (all_oneCell_toArray (Rq.one _)) ?_
      dsimp only
      rw [← HWR.out]
      have ck1 : wr1.cell? ⟨M, 0, none⟩ = some (.int .u8 14) := by rw [← J2.out.kd]; exact J2.out.mq.cell 0
      clear HTH HWR j
      generalize (pRq y1.2).1.cells.toArray = RQ at *
      have C := Lib.hid (rget4 _ X _ J2.out.rd)
      have r := p32_in J2.out.rd.ok
      go_wp2_with fail
      refine C.out.mono ?_
      rintro e wq2 ⟨rfl, dq, kq⟩
      have j := J2.out.call dq kq
      have cc2 := j.mq.cell 14
      have ff2 := j.mq.free 14
      simp only [Mg.cells, List.getElem?_cons_zero, List.getElem?_cons_succ] at cc2
      have ck2 : wq2.cell? ⟨M, 0, none⟩ = some (.int .u8 14) := by rw [← j.kd]; exact j.mq.cell 0
      have N := J2.out.p6 dq kq
      obtain ⟨y3, hy⟩ : ∃ z, z = dPart 6 y2.1 y2.2 := ⟨_, rfl⟩
      rw [← hy] at N
      have E3 := Lib.hid hy
      have F3 : Hid (({ m2 with rs := (p32 y2.2).1 } : Mg).vt = Vt.zero ∧ ({ m2 with rs := (p32 y2.2).1 } : Mg).vs = ⟨none, 0, 0⟩ ∧ ({ m2 with rs := (p32 y2.2).1 } : Mg).sm = ⟨none, 0, 0⟩ ∧ ({ m2 with rs := (p32 y2.2).1 } : Mg).dt = ⟨none, 0, 0⟩) := Lib.hid F2.out
      generalize ({ m2 with rs := (p32 y2.2).1 } : Mg) = m3 at N F3
      have J3 := Lib.hid N
      clear N hy dq kq j C F2 J2
      go_wp2_with fail
      (try go_meet)
      refine ⟨m3, Mc.nil, y3, ?_⟩
      rw [HKE.out]
      exact Lib.hid ⟨J3.out, fun _ => by rw [HY0.out, show partsOf 14 = [0, 2, 6] from rfl]; show y3 = dFold [0, 2, 6] y0; simp only [dFold, List.foldl]; rw [E3.out, E2.out, E1.out]⟩

    replace h : Hid (kk ≠ 14) := Lib.hid h
    have hk14 := h
    clear h
    by_cases h : kk = 6
    · skip
      have HKE := Lib.hid h
      rw [h] at J0 HY0 ⊢
      clear h HK ra
      have C := Lib.hid (rvote_any _ X _ J0.out.rd)
      go_wp2_with fail
      refine C.out.mono ?_
      rintro e wq0 ⟨gr, g, a1, a2, a3, z1, z2, z3, t1, t2, t3, rfl, dq, kq, v1, v2, v3⟩
      have j := J0.out.call dq kq
      have HTH := Lib.hid (j.mq.there 15 7 (by omega))
      have N := J0.out.p7 dq kq v1 v2 v3
      obtain ⟨y1, hy⟩ : ∃ z, z = dPart 7 y0.1 y0.2 := ⟨_, rfl⟩
      rw [← hy] at N
      have E1 := Lib.hid hy
      generalize ({ m0 with vt := vtOf (dVt y0.2).1 a1 a2 a3 z1 z2 z3 t1 t2 t3 } : Mg) = m1 at N
      obtain ⟨wr0, hwr⟩ : ∃ z, z = wq0.setCells M 15 (vtOf (dVt y0.2).1 a1 a2 a3 z1 z2 z3 t1 t2 t3).cells := ⟨_, rfl⟩
      rw [← hwr] at N
      have HWR := Lib.hid hwr
      have J1 := Lib.hid N
      clear N hy dq kq C F0 J0 hwr v1 v2 v3
      dsimp only
      refine ‹∀ (a : Act) (w : World), wpList Tryz.prog _ _ _ a w → _› _ _ ?_
      refine wv (.pointer (some ⟨M, 15, none⟩)) wq0 (by go_simp) ?_
      refine wpList_store_mid rfl 32 (.tmp 75) (.tmp 74) rfl M 15 (vtOf (dVt y0.2).1 a1 a2 a3 z1 z2 z3 t1 t2 t3).cells.toArray rfl rfl HTH.out size32' (all_oneCell_toArray (Vt.one _)) ?_
      dsimp only
      rw [← HWR.out]
      clear HTH HWR j
      go_wp2_with fail
      (try go_meet)
      refine ⟨m1, { Mc.nil with vt := (dVt y0.2).1.c }, y1, ?_⟩
      rw [HKE.out]
      exact Lib.hid ⟨J1.out, fun _ => by rw [HY0.out, show partsOf 6 = [7] from rfl]; show y1 = dFold [7] y0; simp only [dFold, List.foldl]; rw [E1.out]⟩

    replace h : Hid (kk ≠ 6) := Lib.hid h
    have hk6 := h
    clear h
    by_cases h : kk = 8
    · skip
      have HKE := Lib.hid h
      rw [h] at J0 HY0 ⊢
      clear h HK ra
      have C := Lib.hid (rget1 _ X _ J0.out.rd)
      have r := p8_in J0.out.rd.ok
      go_wp2_with fail
      refine C.out.mono ?_
      rintro e wq0 ⟨rfl, dq, kq⟩
      have j := J0.out.call dq kq
      have cc0 := j.mq.cell 12
      have ff0 := j.mq.free 12
      simp only [Mg.cells, List.getElem?_cons_zero, List.getElem?_cons_succ] at cc0
      have ck0 : wq0.cell? ⟨M, 0, none⟩ = some (.int .u8 8) := by rw [← j.kd]; exact j.mq.cell 0
      have N := J0.out.p4 dq kq
      obtain ⟨y1, hy⟩ : ∃ z, z = dPart 4 y0.1 y0.2 := ⟨_, rfl⟩
      rw [← hy] at N
      have E1 := Lib.hid hy
      have F1 : Hid (({ m0 with ct := (p8 y0.2).1 } : Mg).vt = Vt.zero ∧ ({ m0 with ct := (p8 y0.2).1 } : Mg).vs = ⟨none, 0, 0⟩ ∧ ({ m0 with ct := (p8 y0.2).1 } : Mg).sm = ⟨none, 0, 0⟩ ∧ ({ m0 with ct := (p8 y0.2).1 } : Mg).dt = ⟨none, 0, 0⟩) := Lib.hid F0.out
      generalize ({ m0 with ct := (p8 y0.2).1 } : Mg) = m1 at N F1
      have J1 := Lib.hid N
      clear N hy dq kq j C F0 J0
      go_wp2_with fail
      (try go_meet)
      refine ⟨m1, Mc.nil, y1, ?_⟩
      rw [HKE.out]
      exact Lib.hid ⟨J1.out, fun _ => by rw [HY0.out, show partsOf 8 = [4] from rfl]; show y1 = dFold [4] y0; simp only [dFold, List.foldl]; rw [E1.out]⟩

    replace h : Hid (kk ≠ 8) := Lib.hid h
    have hk8 := h
    clear h
    by_cases h : kk = 9
    · skip
      have HKE := Lib.hid h
      rw [h] at J0 HY0 ⊢
      clear h HK ra
      have C := Lib.hid (rget1 _ X _ J0.out.rd)
      have r := p8_in J0.out.rd.ok
      go_wp2_with fail
      refine C.out.mono ?_
      rintro e wq0 ⟨rfl, dq, kq⟩
      have j := J0.out.call dq kq
      have cc0 := j.mq.cell 12
      have ff0 := j.mq.free 12
      simp only [Mg.cells, List.getElem?_cons_zero, List.getElem?_cons_succ] at cc0
      have ck0 : wq0.cell? ⟨M, 0, none⟩ = some (.int .u8 9) := by rw [← j.kd]; exact j.mq.cell 0
      have N := J0.out.p4 dq kq
      obtain ⟨y1, hy⟩ : ∃ z, z = dPart 4 y0.1 y0.2 := ⟨_, rfl⟩
      rw [← hy] at N
      have E1 := Lib.hid hy
      have F1 : Hid (({ m0 with ct := (p8 y0.2).1 } : Mg).vt = Vt.zero ∧ ({ m0 with ct := (p8 y0.2).1 } : Mg).vs = ⟨none, 0, 0⟩ ∧ ({ m0 with ct := (p8 y0.2).1 } : Mg).sm = ⟨none, 0, 0⟩ ∧ ({ m0 with ct := (p8 y0.2).1 } : Mg).dt = ⟨none, 0, 0⟩) := Lib.hid F0.out
      generalize ({ m0 with ct := (p8 y0.2).1 } : Mg) = m1 at N F1
      have J1 := Lib.hid N
      clear N hy dq kq j C F0 J0
      go_wp2_with fail
      (try go_meet)
      refine ⟨m1, Mc.nil, y1, ?_⟩
      rw [HKE.out]
      exact Lib.hid ⟨J1.out, fun _ => by rw [HY0.out, show partsOf 9 = [4] from rfl]; show y1 = dFold [4] y0; simp only [dFold, List.foldl]; rw [E1.out]⟩

    replace h : Hid (kk ≠ 9) := Lib.hid h
    have hk9 := h
    clear h
    by_cases h : kk = 10
    · skip
      have HKE := Lib.hid h
      rw [h] at J0 HY0 ⊢
      clear h HK ra
      have C := Lib.hid (rget1 _ X _ J0.out.rd)
      have r := p8_in J0.out.rd.ok
      go_wp2_with fail
      refine C.out.mono ?_
      rintro e wq0 ⟨rfl, dq, kq⟩
      have j := J0.out.call dq kq
      have cc0 := j.mq.cell 12
      have ff0 := j.mq.free 12
      simp only [Mg.cells, List.getElem?_cons_zero, List.getElem?_cons_succ] at cc0
      have ck0 : wq0.cell? ⟨M, 0, none⟩ = some (.int .u8 10) := by rw [← j.kd]; exact j.mq.cell 0
      have N := J0.out.p4 dq kq
      obtain ⟨y1, hy⟩ : ∃ z, z = dPart 4 y0.1 y0.2 := ⟨_, rfl⟩
      rw [← hy] at N
      have E1 := Lib.hid hy
      have F1 : Hid (({ m0 with ct := (p8 y0.2).1 } : Mg).vt = Vt.zero ∧ ({ m0 with ct := (p8 y0.2).1 } : Mg).vs = ⟨none, 0, 0⟩ ∧ ({ m0 with ct := (p8 y0.2).1 } : Mg).sm = ⟨none, 0, 0⟩ ∧ ({ m0 with ct := (p8 y0.2).1 } : Mg).dt = ⟨none, 0, 0⟩) := Lib.hid F0.out
      generalize ({ m0 with ct := (p8 y0.2).1 } : Mg) = m1 at N F1
      have J1 := Lib.hid N
      clear N hy dq kq j C F0 J0
      have C := Lib.hid (rget4 _ X _ J1.out.rd)
      have r := p32_in J1.out.rd.ok
      go_wp2_with fail
      refine C.out.mono ?_
      rintro e wq1 ⟨rfl, dq, kq⟩
      have j := J1.out.call dq kq
      have cc1 := j.mq.cell 5
      have ff1 := j.mq.free 5
      simp only [Mg.cells, List.getElem?_cons_zero, List.getElem?_cons_succ] at cc1
      have ck1 : wq1.cell? ⟨M, 0, none⟩ = some (.int .u8 10) := by rw [← j.kd]; exact j.mq.cell 0
      have N := J1.out.p1 dq kq
      obtain ⟨y2, hy⟩ : ∃ z, z = dPart 1 y1.1 y1.2 := ⟨_, rfl⟩
      rw [← hy] at N
      have E2 := Lib.hid hy
      have F2 : Hid (({ m1 with sq := (p32 y1.2).1 } : Mg).vt = Vt.zero ∧ ({ m1 with sq := (p32 y1.2).1 } : Mg).vs = ⟨none, 0, 0⟩ ∧ ({ m1 with sq := (p32 y1.2).1 } : Mg).sm = ⟨none, 0, 0⟩ ∧ ({ m1 with sq := (p32 y1.2).1 } : Mg).dt = ⟨none, 0, 0⟩) := Lib.hid F1.out
      generalize ({ m1 with sq := (p32 y1.2).1 } : Mg) = m2 at N F2
      have J2 := Lib.hid N
      clear N hy dq kq j C F1 J1
      go_wp2_with fail
      (try go_meet)
      refine ⟨m2, Mc.nil, y2, ?_⟩
      rw [HKE.out]
      exact Lib.hid ⟨J2.out, fun _ => by rw [HY0.out, show partsOf 10 = [4, 1] from rfl]; show y2 = dFold [4, 1] y0; simp only [dFold, List.foldl]; rw [E2.out, E1.out]⟩

    replace h : Hid (kk ≠ 10) := Lib.hid h
    have hk10 := h
    clear h
    by_cases h : kk = 7
    · skip
      have HKE := Lib.hid h
      rw [h] at J0 HY0 ⊢
      clear h HK ra
      have C := Lib.hid (rget4 _ X _ J0.out.rd)
      have r := p32_in J0.out.rd.ok
      go_wp2_with fail
      refine C.out.mono ?_
      rintro e wq0 ⟨rfl, dq, kq⟩
      have j := J0.out.call dq kq
      have cc0 := j.mq.cell 4
      have ff0 := j.mq.free 4
      simp only [Mg.cells, List.getElem?_cons_zero, List.getElem?_cons_succ] at cc0
      have ck0 : wq0.cell? ⟨M, 0, none⟩ = some (.int .u8 7) := by rw [← j.kd]; exact j.mq.cell 0
      have N := J0.out.p0 dq kq
      obtain ⟨y1, hy⟩ : ∃ z, z = dPart 0 y0.1 y0.2 := ⟨_, rfl⟩
      rw [← hy] at N
      have E1 := Lib.hid hy
      have F1 : Hid (({ m0 with vw := (p32 y0.2).1 } : Mg).vt = Vt.zero ∧ ({ m0 with vw := (p32 y0.2).1 } : Mg).vs = ⟨none, 0, 0⟩ ∧ ({ m0 with vw := (p32 y0.2).1 } : Mg).sm = ⟨none, 0, 0⟩ ∧ ({ m0 with vw := (p32 y0.2).1 } : Mg).dt = ⟨none, 0, 0⟩) := Lib.hid F0.out
      generalize ({ m0 with vw := (p32 y0.2).1 } : Mg) = m1 at N F1
      have J1 := Lib.hid N
      clear N hy dq kq j C F0 J0
      have C := Lib.hid (rget1 _ X _ J1.out.rd)
      have r8 := p8_in J1.out.rd.ok
      go_wp2_with fail
      refine C.out.mono ?_
      rintro e wq1 ⟨rfl, dq, kq⟩
      obtain ⟨n, hn⟩ : ∃ n : Nat, (p8 y1.2).1 = (n : Int) := ⟨(p8 y1.2).1.toNat, by omega⟩
      rw [hn] at r8 ⊢
      have hn255 : n ≤ 255 := by omega
      have JJ := Lib.hid (J1.out.call dq kq)
      have HSO := Lib.hid J1.out.rd.ok
      have HN := Lib.hid hn
      obtain ⟨s0, hs0⟩ : ∃ z, z = (p8 y1.2).2 := ⟨_, rfl⟩
      rw [← hs0] at JJ
      have HS := Lib.hid hs0
      have hm1 : ({ m1 with vs := ⟨none, 0, 0⟩ } : Mg) = m1 := by rw [← F1.out.2.1]
      have K0 : Hid (VL wq1 wq1 X M m1 s0 none 0 0 []) := Lib.hid ⟨by rw [hm1]; exact JJ.out.mx, ⟨by simp, .inl ⟨rfl, rfl⟩⟩, fun b hb => by simp [Value.ownBlock] at hb, rfl, rfl, fun x hx => by cases hx⟩
      have HMw : Hid (M < wq1.heap.size) := Lib.hid (lt_of_block JJ.out.mq.box)
      clear dq kq C J1 hn hs0 hm1
      go_wp2_with fail
      go_loopw [7] (fun v7 wr => ∃ (j : Nat) (ao7 : Option Addr) (c7 : Nat) (vl : List (Vt × Vc)), v7 = .int .i64 j ∧ j ≤ n ∧ Hid (VL wq1 wr X M m1 s0 ao7 j c7 vl)) (fun v7 _ => n - (intOf v7).toNat)
      case atStart => exact ⟨0, none, 0, [], rfl, Nat.zero_le _, K0⟩
      case round =>
        obtain ⟨j, ao7, c7, vl, rfl, hj, I⟩ := hrel
        clear K0
        have q := I.out.mx.rd.short
        by_cases hlt : j < n
        · have hlt' : (j : Int) < n := by omega
          by_cases hf : (dL dVt s0 j).2.f = 0
          · rw [Ds.short0 hf] at q
            have HF := Lib.hid hf
            clear hf
            have c1 := mx_cell I.out.mx.box 22
            have f1 := frozen_of_row wr M 22 _ 37 I.out.mx.box
            simp only [Mg.cells, List.getElem?_cons_zero, List.getElem?_cons_succ] at c1
            go_wp2_with fail
            have C8 := Lib.hid (rvote_any wr.drew X (dL dVt s0 j).2 (I.out.mx.rd.kept (S := fun _ => False) ((Kept.refl _ _).drew) (fun _ _ h => h)))
            obtain ⟨dv, hp⟩ : ∃ p, p = dVt (dL dVt s0 j).2 := ⟨_, rfl⟩
            rw [← hp] at C8
            have HP := Lib.hid hp
            clear hp q
            refine wp_region_held_drew (S := (fun _ : World => True)) (by kernel_rfl) (trivial) (fun hS => ?_)
            refine tg 0 (.pointer (some ⟨M, 22, none⟩)) rfl hS ?_
            refine tg 2 (.pointer (some ⟨X, 0, none⟩)) rfl hS ?_
            refine wpAnyH_ready (rs := [1, 3]) (by kernel_rfl) (by simp) ?_
            refine AllReadyH.cons rfl (fun K hK => ?_) (AllReadyH.cons rfl (fun K hK => ?_) AllReadyH.nil)
            · rw [if_pos (by rfl)]
              go_simp
              refine hK.out _ _ (trivial) (fun hS => ?_)
              clear hK K
              refine rdy1 3 rfl (fun K hK => ?_)
              rw [if_pos (by rfl)]
              go_simp
              refine Calls.mono (C8.out) ?_
              rintro e w2 ⟨gr, g, a1, a2, a3, z1, z2, z3, t1, t2, t3, rfl, d2, k2, v1, v2, v3⟩
              have M2 := I.out.mid HMw.out d2 k2
              have cc2 := mx_cell M2.1.box 22
              simp only [Mg.cells, List.getElem?_cons_zero, List.getElem?_cons_succ] at cc2
              have CC2 := cell_alloc (o := .cells #[.int .u8 dv.1.f, .int .u8 dv.1.e, .int .u32 dv.1.vw, .int .u32 dv.1.lo, .slice a1 z1 t1, .slice a2 z2 t2, .slice a3 z3 t3] 32) cc2
              replace M2 := Lib.hid M2
              have V2 := Lib.hid (And.intro d2 (And.intro k2 (And.intro v1 (And.intro v2 v3))))
              clear d2 k2 v1 v2 v3
              refine hK.out _ _ (trivial) (fun hS => ?_)
              clear hK K
              refine rdy1 4 rfl (fun K hK => ?_)
              rw [if_pos (by rfl)]
              go_simp
              refine hK.out _ _ (trivial) (fun hS => ?_)
              clear hK K
              refine rdy1 5 rfl (fun K hK => ?_)
              rw [if_pos (by rfl)]
              obtain ⟨i0, hinfo⟩ := info_parts info32v
              obtain ⟨hi, hz0, hz1, hz2⟩ := hinfo
              have o3 := own_kept' M2.out.2 (Kept.ofBelow (S := fun _ => False) ((Below.refl w2.heap.size w2).alloc (Nat.le_refl _) (.cells #[.int .u8 dv.1.f, .int .u8 dv.1.e, .int .u32 dv.1.vw, .int .u32 dv.1.lo, .slice a1 z1 t1, .slice a2 z2 t2, .slice a3 z3 t3] 32))) (fun _ _ h => h)
              have RA := row_new1 w2 7 vcell (vtOf dv.1 a1 a2 a3 z1 z2 z3 t1 t2 t3, dv.1.c) 32 #[.int .u8 dv.1.f, .int .u8 dv.1.e, .int .u32 dv.1.vw, .int .u32 dv.1.lo, .slice a1 z1 t1, .slice a2 z2 t2, .slice a3 z3 t3] rfl
              refine wp_appR vcell 7 33 32 88 i0 _ _ (.tmp 98) (.tmp 101) rfl Tryz.underlying33 hi hz0 hz1 hz2 rfl (by decide) (by decide) (.slice ao7 j c7) j (vl.flatMap vcell) rfl o3 (some ⟨w2.heap.size, 0, none⟩) 1 1 [(vtOf dv.1 a1 a2 a3 z1 z2 z3 t1 t2 t3, dv.1.c)] rfl RA (fun _ _ => rfl) (fun z _ u hu => Vt.one z.1 u hu) (by omega) ?_
              intro ao3 c3 w3 ho hk3 hg3
              have NX := I.out.next HMw.out HF.out HP.out V2.out.1 V2.out.2.1 V2.out.2.2.1 V2.out.2.2.2.1 V2.out.2.2.2.2 ho hk3 hg3
              have cc4 := mx_cell NX.1.box 22
              simp only [Mg.cells, List.getElem?_cons_zero, List.getElem?_cons_succ] at cc4
              have H4 := Lib.hid NX
              have CC4 := Lib.hid cc4
              clear o3 RA hi hz0 hz1 hz2 ho hk3 hg3 NX cc4
              refine hK.out _ _ (trivial) (fun hS => ?_)
              clear hK K
              refine tg 6 (.pointer (some ⟨M, 22, none⟩)) rfl hS ?_
              refine rdy1 7 rfl (fun K hK => ?_)
              rw [if_pos (by rfl)]
              have hrun : (Instr.storeAt 33 (.pointer (some ⟨M, 22, none⟩)) (.slice ao3 (j + 1) c3)).run Tryz.prog w3 = .ok () (w3.setCell ⟨M, 22, none⟩ (.slice ao3 (j + 1) c3)) := by
                have hc2 := CC4.out
                have hz2 := frozen_of_row w3 M 22 _ 37 H4.out.1.box
                go_simp
              refine wp_st hrun rfl rfl rfl rfl ?_
              refine hK.out _ _ (trivial) (fun hS => ?_)
              clear hK K
              refine wpAnyH_done (by kernel_rfl) ?_ _
              have N := Lib.hid H4.out.2
              clear hS H4 CC4 hrun
              go_wp2_with fail
              exact ⟨⟨j + 1, ao3, c3, _, by go_num, by omega, N⟩, by simp [intOf]; omega⟩
            · rw [if_pos (by rfl)]
              go_simp
              refine Calls.mono (C8.out) ?_
              rintro e w2 ⟨gr, g, a1, a2, a3, z1, z2, z3, t1, t2, t3, rfl, d2, k2, v1, v2, v3⟩
              have M2 := I.out.mid HMw.out d2 k2
              have cc2 := mx_cell M2.1.box 22
              simp only [Mg.cells, List.getElem?_cons_zero, List.getElem?_cons_succ] at cc2
              have CC2 := cell_alloc (o := .cells #[.int .u8 dv.1.f, .int .u8 dv.1.e, .int .u32 dv.1.vw, .int .u32 dv.1.lo, .slice a1 z1 t1, .slice a2 z2 t2, .slice a3 z3 t3] 32) cc2
              replace M2 := Lib.hid M2
              have V2 := Lib.hid (And.intro d2 (And.intro k2 (And.intro v1 (And.intro v2 v3))))
              clear d2 k2 v1 v2 v3
              refine hK.out _ _ (trivial) (fun hS => ?_)
              clear hK K
              refine wpAnyH_ready (rs := [1, 4]) (by kernel_rfl) (by simp) ?_
              refine AllReadyH.cons rfl (fun K hK => ?_) (AllReadyH.cons rfl (fun K hK => ?_) AllReadyH.nil)
              · rw [if_pos (by rfl)]
                go_simp
                refine hK.out _ _ (trivial) (fun hS => ?_)
                clear hK K
                refine rdy1 4 rfl (fun K hK => ?_)
                rw [if_pos (by rfl)]
                go_simp
                refine hK.out _ _ (trivial) (fun hS => ?_)
                clear hK K
                refine rdy1 5 rfl (fun K hK => ?_)
                rw [if_pos (by rfl)]
                obtain ⟨i0, hinfo⟩ := info_parts info32v
                obtain ⟨hi, hz0, hz1, hz2⟩ := hinfo
                have o3 := own_kept' M2.out.2 (Kept.ofBelow (S := fun _ => False) ((Below.refl w2.heap.size w2).alloc (Nat.le_refl _) (.cells #[.int .u8 dv.1.f, .int .u8 dv.1.e, .int .u32 dv.1.vw, .int .u32 dv.1.lo, .slice a1 z1 t1, .slice a2 z2 t2, .slice a3 z3 t3] 32))) (fun _ _ h => h)
                have RA := row_new1 w2 7 vcell (vtOf dv.1 a1 a2 a3 z1 z2 z3 t1 t2 t3, dv.1.c) 32 #[.int .u8 dv.1.f, .int .u8 dv.1.e, .int .u32 dv.1.vw, .int .u32 dv.1.lo, .slice a1 z1 t1, .slice a2 z2 t2, .slice a3 z3 t3] rfl
                refine wp_appR vcell 7 33 32 88 i0 _ _ (.tmp 98) (.tmp 101) rfl Tryz.underlying33 hi hz0 hz1 hz2 rfl (by decide) (by decide) (.slice ao7 j c7) j (vl.flatMap vcell) rfl o3 (some ⟨w2.heap.size, 0, none⟩) 1 1 [(vtOf dv.1 a1 a2 a3 z1 z2 z3 t1 t2 t3, dv.1.c)] rfl RA (fun _ _ => rfl) (fun z _ u hu => Vt.one z.1 u hu) (by omega) ?_
                intro ao3 c3 w3 ho hk3 hg3
                have NX := I.out.next HMw.out HF.out HP.out V2.out.1 V2.out.2.1 V2.out.2.2.1 V2.out.2.2.2.1 V2.out.2.2.2.2 ho hk3 hg3
                have cc4 := mx_cell NX.1.box 22
                simp only [Mg.cells, List.getElem?_cons_zero, List.getElem?_cons_succ] at cc4
                have H4 := Lib.hid NX
                have CC4 := Lib.hid cc4
                clear o3 RA hi hz0 hz1 hz2 ho hk3 hg3 NX cc4
                refine hK.out _ _ (trivial) (fun hS => ?_)
                clear hK K
                refine tg 6 (.pointer (some ⟨M, 22, none⟩)) rfl hS ?_
                refine rdy1 7 rfl (fun K hK => ?_)
                rw [if_pos (by rfl)]
                have hrun : (Instr.storeAt 33 (.pointer (some ⟨M, 22, none⟩)) (.slice ao3 (j + 1) c3)).run Tryz.prog w3 = .ok () (w3.setCell ⟨M, 22, none⟩ (.slice ao3 (j + 1) c3)) := by
                  have hc2 := CC4.out
                  have hz2 := frozen_of_row w3 M 22 _ 37 H4.out.1.box
                  go_simp
                refine wp_st hrun rfl rfl rfl rfl ?_
                refine hK.out _ _ (trivial) (fun hS => ?_)
                clear hK K
                refine wpAnyH_done (by kernel_rfl) ?_ _
                have N := Lib.hid H4.out.2
                clear hS H4 CC4 hrun
                go_wp2_with fail
                exact ⟨⟨j + 1, ao3, c3, _, by go_num, by omega, N⟩, by simp [intOf]; omega⟩
              · rw [if_pos (by rfl)]
                go_simp
                refine hK.out _ _ (trivial) (fun hS => ?_)
                clear hK K
                refine rdy1 1 rfl (fun K hK => ?_)
                rw [if_pos (by rfl)]
                go_simp
                refine hK.out _ _ (trivial) (fun hS => ?_)
                clear hK K
                refine rdy1 5 rfl (fun K hK => ?_)
                rw [if_pos (by rfl)]
                obtain ⟨i0, hinfo⟩ := info_parts info32v
                obtain ⟨hi, hz0, hz1, hz2⟩ := hinfo
                have o3 := own_kept' M2.out.2 (Kept.ofBelow (S := fun _ => False) ((Below.refl w2.heap.size w2).alloc (Nat.le_refl _) (.cells #[.int .u8 dv.1.f, .int .u8 dv.1.e, .int .u32 dv.1.vw, .int .u32 dv.1.lo, .slice a1 z1 t1, .slice a2 z2 t2, .slice a3 z3 t3] 32))) (fun _ _ h => h)
                have RA := row_new1 w2 7 vcell (vtOf dv.1 a1 a2 a3 z1 z2 z3 t1 t2 t3, dv.1.c) 32 #[.int .u8 dv.1.f, .int .u8 dv.1.e, .int .u32 dv.1.vw, .int .u32 dv.1.lo, .slice a1 z1 t1, .slice a2 z2 t2, .slice a3 z3 t3] rfl
                refine wp_appR vcell 7 33 32 88 i0 _ _ (.tmp 98) (.tmp 101) rfl Tryz.underlying33 hi hz0 hz1 hz2 rfl (by decide) (by decide) (.slice ao7 j c7) j (vl.flatMap vcell) rfl o3 (some ⟨w2.heap.size, 0, none⟩) 1 1 [(vtOf dv.1 a1 a2 a3 z1 z2 z3 t1 t2 t3, dv.1.c)] rfl RA (fun _ _ => rfl) (fun z _ u hu => Vt.one z.1 u hu) (by omega) ?_
                intro ao3 c3 w3 ho hk3 hg3
                have NX := I.out.next HMw.out HF.out HP.out V2.out.1 V2.out.2.1 V2.out.2.2.1 V2.out.2.2.2.1 V2.out.2.2.2.2 ho hk3 hg3
                have cc4 := mx_cell NX.1.box 22
                simp only [Mg.cells, List.getElem?_cons_zero, List.getElem?_cons_succ] at cc4
                have H4 := Lib.hid NX
                have CC4 := Lib.hid cc4
                clear o3 RA hi hz0 hz1 hz2 ho hk3 hg3 NX cc4
                refine hK.out _ _ (trivial) (fun hS => ?_)
                clear hK K
                refine tg 6 (.pointer (some ⟨M, 22, none⟩)) rfl hS ?_
                refine rdy1 7 rfl (fun K hK => ?_)
                rw [if_pos (by rfl)]
                have hrun : (Instr.storeAt 33 (.pointer (some ⟨M, 22, none⟩)) (.slice ao3 (j + 1) c3)).run Tryz.prog w3 = .ok () (w3.setCell ⟨M, 22, none⟩ (.slice ao3 (j + 1) c3)) := by
                  have hc2 := CC4.out
                  have hz2 := frozen_of_row w3 M 22 _ 37 H4.out.1.box
                  go_simp
                refine wp_st hrun rfl rfl rfl rfl ?_
                refine hK.out _ _ (trivial) (fun hS => ?_)
                clear hK K
                refine wpAnyH_done (by kernel_rfl) ?_ _
                have N := Lib.hid H4.out.2
                clear hS H4 CC4 hrun
                go_wp2_with fail
                exact ⟨⟨j + 1, ao3, c3, _, by go_num, by omega, N⟩, by simp [intOf]; omega⟩
          · rw [Ds.short1 hf] at q
            have hjn := dL_end hf (Nat.le_of_lt hlt)
            clear hf
            have HJN := Lib.hid hjn
            clear hjn
            go_wp2_with fail
            (try go_meet)
            have hs := HS.out
            clear HS
            subst hs
            refine ⟨{ m1 with vs := ⟨ao7, j, c7⟩ }, { Mc.nil with vs := vl }, dPart 8 y1.1 y1.2, ?_⟩
            rw [HKE.out]
            exact Lib.hid ⟨JJ.out.pv HSO.out I.out (by rw [HN.out, Int.toNat_natCast] <;> exact HJN.out) (by omega), fun _ => by rw [HY0.out, show partsOf 7 = [0, 8] from rfl]; show _ = dFold [0, 8] y0; simp only [dFold, List.foldl]; rw [E1.out]⟩
        · obtain rfl : n = j := by omega
          have HJN : Hid (dL dVt s0 n = dL dVt s0 n) := Lib.hid rfl
          go_wp2_with fail
          (try go_meet)
          have hs := HS.out
          clear HS
          subst hs
          refine ⟨{ m1 with vs := ⟨ao7, n, c7⟩ }, { Mc.nil with vs := vl }, dPart 8 y1.1 y1.2, ?_⟩
          rw [HKE.out]
          exact Lib.hid ⟨JJ.out.pv HSO.out I.out (by rw [HN.out, Int.toNat_natCast] <;> exact HJN.out) (by omega), fun _ => by rw [HY0.out, show partsOf 7 = [0, 8] from rfl]; show _ = dFold [0, 8] y0; simp only [dFold, List.foldl]; rw [E1.out]⟩

    replace h : Hid (kk ≠ 7) := Lib.hid h
    have hk7 := h
    clear h
    by_cases h : kk = 5
    · skip
      have HKE := Lib.hid h
      rw [h] at J0 HY0 ⊢
      clear h HK ra
      have C := Lib.hid (rget4 _ X _ J0.out.rd)
      have r := p32_in J0.out.rd.ok
      go_wp2_with fail
      refine C.out.mono ?_
      rintro e wq0 ⟨rfl, dq, kq⟩
      have j := J0.out.call dq kq
      have cc0 := j.mq.cell 5
      have ff0 := j.mq.free 5
      simp only [Mg.cells, List.getElem?_cons_zero, List.getElem?_cons_succ] at cc0
      have ck0 : wq0.cell? ⟨M, 0, none⟩ = some (.int .u8 5) := by rw [← j.kd]; exact j.mq.cell 0
      have N := J0.out.p1 dq kq
      obtain ⟨y1, hy⟩ : ∃ z, z = dPart 1 y0.1 y0.2 := ⟨_, rfl⟩
      rw [← hy] at N
      have E1 := Lib.hid hy
      have F1 : Hid (({ m0 with sq := (p32 y0.2).1 } : Mg).vt = Vt.zero ∧ ({ m0 with sq := (p32 y0.2).1 } : Mg).vs = ⟨none, 0, 0⟩ ∧ ({ m0 with sq := (p32 y0.2).1 } : Mg).sm = ⟨none, 0, 0⟩ ∧ ({ m0 with sq := (p32 y0.2).1 } : Mg).dt = ⟨none, 0, 0⟩) := Lib.hid F0.out
      generalize ({ m0 with sq := (p32 y0.2).1 } : Mg) = m1 at N F1
      have J1 := Lib.hid N
      clear N hy dq kq j C F0 J0
      have C := Lib.hid (rest5 _ X M _ _ J1.out.mx J1.out.kd)
      go_wp2_with fail
      refine C.out.mono ?_
      rintro e wq1 ⟨rfl, hx⟩
      have N := Lib.hid (J1.out.r5 hx)
      clear C hx J1 F1
      go_wp2_with fail
      (try go_meet)
      refine ⟨{ m1 with ro := (p64 y1.2).1 }, Mc.nil, dPart 3 y1.1 y1.2, ?_⟩
      rw [HKE.out]
      exact Lib.hid ⟨N.out, fun _ => by rw [HY0.out, show partsOf 5 = [1, 3] from rfl]; show _ = dFold [1, 3] y0; simp only [dFold, List.foldl]; rw [E1.out]⟩

    replace h : Hid (kk ≠ 5) := Lib.hid h
    have hk5 := h
    clear h
    by_cases h : kk = 11
    · skip
      have HKE := Lib.hid h
      rw [h] at J0 HY0 ⊢
      clear h HK ra
      have C := Lib.hid (rget4 _ X _ J0.out.rd)
      have r := p32_in J0.out.rd.ok
      go_wp2_with fail
      refine C.out.mono ?_
      rintro e wq0 ⟨rfl, dq, kq⟩
      have j := J0.out.call dq kq
      have cc0 := j.mq.cell 5
      have ff0 := j.mq.free 5
      simp only [Mg.cells, List.getElem?_cons_zero, List.getElem?_cons_succ] at cc0
      have ck0 : wq0.cell? ⟨M, 0, none⟩ = some (.int .u8 11) := by rw [← j.kd]; exact j.mq.cell 0
      have N := J0.out.p1 dq kq
      obtain ⟨y1, hy⟩ : ∃ z, z = dPart 1 y0.1 y0.2 := ⟨_, rfl⟩
      rw [← hy] at N
      have E1 := Lib.hid hy
      have F1 : Hid (({ m0 with sq := (p32 y0.2).1 } : Mg).vt = Vt.zero ∧ ({ m0 with sq := (p32 y0.2).1 } : Mg).vs = ⟨none, 0, 0⟩ ∧ ({ m0 with sq := (p32 y0.2).1 } : Mg).sm = ⟨none, 0, 0⟩ ∧ ({ m0 with sq := (p32 y0.2).1 } : Mg).dt = ⟨none, 0, 0⟩) := Lib.hid F0.out
      generalize ({ m0 with sq := (p32 y0.2).1 } : Mg) = m1 at N F1
      have J1 := Lib.hid N
      clear N hy dq kq j C F0 J0
      have C := Lib.hid (rest11 _ X M _ _ J1.out.mx J1.out.kd)
      go_wp2_with fail
      refine C.out.mono ?_
      rintro e wq1 ⟨rfl, hx⟩
      have N := Lib.hid (J1.out.r11 hx)
      clear C hx J1 F1
      go_wp2_with fail
      (try go_meet)
      refine ⟨{ m1 with pg := (p8 y1.2).1 }, Mc.nil, dPart 5 y1.1 y1.2, ?_⟩
      rw [HKE.out]
      exact Lib.hid ⟨N.out, fun _ => by rw [HY0.out, show partsOf 11 = [1, 5] from rfl]; show _ = dFold [1, 5] y0; simp only [dFold, List.foldl]; rw [E1.out]⟩

    replace h : Hid (kk ≠ 11) := Lib.hid h
    have hk11 := h
    clear h
    by_cases h : kk = 12
    · skip
      have HKE := Lib.hid h
      rw [h] at J0 HY0 ⊢
      clear h HK ra
      have C := Lib.hid (rget4 _ X _ J0.out.rd)
      have r := p32_in J0.out.rd.ok
      go_wp2_with fail
      refine C.out.mono ?_
      rintro e wq0 ⟨rfl, dq, kq⟩
      have j := J0.out.call dq kq
      have cc0 := j.mq.cell 5
      have ff0 := j.mq.free 5
      simp only [Mg.cells, List.getElem?_cons_zero, List.getElem?_cons_succ] at cc0
      have ck0 : wq0.cell? ⟨M, 0, none⟩ = some (.int .u8 12) := by rw [← j.kd]; exact j.mq.cell 0
      have N := J0.out.p1 dq kq
      obtain ⟨y1, hy⟩ : ∃ z, z = dPart 1 y0.1 y0.2 := ⟨_, rfl⟩
      rw [← hy] at N
      have E1 := Lib.hid hy
      have F1 : Hid (({ m0 with sq := (p32 y0.2).1 } : Mg).vt = Vt.zero ∧ ({ m0 with sq := (p32 y0.2).1 } : Mg).vs = ⟨none, 0, 0⟩ ∧ ({ m0 with sq := (p32 y0.2).1 } : Mg).sm = ⟨none, 0, 0⟩ ∧ ({ m0 with sq := (p32 y0.2).1 } : Mg).dt = ⟨none, 0, 0⟩) := Lib.hid F0.out
      generalize ({ m0 with sq := (p32 y0.2).1 } : Mg) = m1 at N F1
      have J1 := Lib.hid N
      clear N hy dq kq j C F0 J0
      have C := Lib.hid (rest12 _ X M _ _ J1.out.mx J1.out.kd F1.out.2.2.1)
      go_wp2_with fail
      refine C.out.mono ?_
      rintro e wq1 ⟨rfl, ao9, c9, hx⟩
      have N := Lib.hid (J1.out.r12 hx)
      clear C hx J1 F1
      go_wp2_with fail
      (try go_meet)
      refine ⟨{ m1 with sm := ⟨ao9, 8, c9⟩ }, { Mc.nil with sm := (pN p64 y1.2 8).1 }, dPart 9 y1.1 y1.2, ?_⟩
      rw [HKE.out]
      exact Lib.hid ⟨N.out, fun _ => by rw [HY0.out, show partsOf 12 = [1, 9] from rfl]; show _ = dFold [1, 9] y0; simp only [dFold, List.foldl]; rw [E1.out]⟩

    replace h : Hid (kk ≠ 12) := Lib.hid h
    have hk12 := h
    clear h
    by_cases h : kk = 13
    · skip
      have HKE := Lib.hid h
      rw [h] at J0 HY0 ⊢
      clear h HK ra
      have C := Lib.hid (rget4 _ X _ J0.out.rd)
      have r := p32_in J0.out.rd.ok
      go_wp2_with fail
      refine C.out.mono ?_
      rintro e wq0 ⟨rfl, dq, kq⟩
      have j := J0.out.call dq kq
      have cc0 := j.mq.cell 5
      have ff0 := j.mq.free 5
      simp only [Mg.cells, List.getElem?_cons_zero, List.getElem?_cons_succ] at cc0
      have ck0 : wq0.cell? ⟨M, 0, none⟩ = some (.int .u8 13) := by rw [← j.kd]; exact j.mq.cell 0
      have N := J0.out.p1 dq kq
      obtain ⟨y1, hy⟩ : ∃ z, z = dPart 1 y0.1 y0.2 := ⟨_, rfl⟩
      rw [← hy] at N
      have E1 := Lib.hid hy
      have F1 : Hid (({ m0 with sq := (p32 y0.2).1 } : Mg).vt = Vt.zero ∧ ({ m0 with sq := (p32 y0.2).1 } : Mg).vs = ⟨none, 0, 0⟩ ∧ ({ m0 with sq := (p32 y0.2).1 } : Mg).sm = ⟨none, 0, 0⟩ ∧ ({ m0 with sq := (p32 y0.2).1 } : Mg).dt = ⟨none, 0, 0⟩) := Lib.hid F0.out
      generalize ({ m0 with sq := (p32 y0.2).1 } : Mg) = m1 at N F1
      have J1 := Lib.hid N
      clear N hy dq kq j C F0 J0
      by_cases hlen : (p16 (p8 y1.2).2).1.toNat ≤ (p16 (p8 y1.2).2).2.l.length
      · skip
        have C := Lib.hid (rest13_fit _ X M _ _ J1.out.mx J1.out.kd F1.out.2.2.2 hlen)
        clear hlen
        go_wp2_with fail
        refine C.out.mono ?_
        rintro e wq1 ⟨v9, rfl, hx, ho, hn⟩
        have N := Lib.hid (J1.out.r13 hx ho hn)
        clear C hx ho hn J1 F1
        go_wp2_with fail
        (try go_meet)
        refine ⟨{ m1 with pg := (p8 y1.2).1, dt := v9 }, { Mc.nil with dt := (dDt (p8 y1.2).2).1 }, dPart 10 (dPart 5 y1.1 y1.2).1 (dPart 5 y1.1 y1.2).2, ?_⟩
        rw [HKE.out]
        exact Lib.hid ⟨N.out, fun _ => by rw [HY0.out, show partsOf 13 = [1, 5, 10] from rfl]; show _ = dFold [1, 5, 10] y0; simp only [dFold, List.foldl]; rw [E1.out]⟩

      · skip
        have C := Lib.hid (rest13_long _ X M _ _ J1.out.mx J1.out.kd F1.out.2.2.2 (by omega))
        clear hlen
        go_wp2_with fail
        refine C.out.mono ?_
        rintro e wq1 ⟨v9, rfl, hx, ho, hn⟩
        have N := Lib.hid (J1.out.r13 hx ho hn)
        clear C hx ho hn J1 F1
        go_wp2_with fail
        (try go_meet)
        refine ⟨{ m1 with pg := (p8 y1.2).1, dt := v9 }, { Mc.nil with dt := (dDt (p8 y1.2).2).1 }, dPart 10 (dPart 5 y1.1 y1.2).1 (dPart 5 y1.1 y1.2).2, ?_⟩
        rw [HKE.out]
        exact Lib.hid ⟨N.out, fun _ => by rw [HY0.out, show partsOf 13 = [1, 5, 10] from rfl]; show _ = dFold [1, 5, 10] y0; simp only [dFold, List.foldl]; rw [E1.out]⟩

    replace h : Hid (kk ≠ 13) := Lib.hid h
    have hk13 := h
    clear h
    have b1 : (kk == 1) = false := by simpa using hk1.out
    have b2 : (kk == 2) = false := by simpa using hk2.out
    have b3 : (kk == 3) = false := by simpa using hk3.out
    have b4 : (kk == 4) = false := by simpa using hk4.out
    have b5 : (kk == 5) = false := by simpa using hk5.out
    have b6 : (kk == 6) = false := by simpa using hk6.out
    have b7 : (kk == 7) = false := by simpa using hk7.out
    have b8 : (kk == 8) = false := by simpa using hk8.out
    have b9 : (kk == 9) = false := by simpa using hk9.out
    have b10 : (kk == 10) = false := by simpa using hk10.out
    have b11 : (kk == 11) = false := by simpa using hk11.out
    have b12 : (kk == 12) = false := by simpa using hk12.out
    have b13 : (kk == 13) = false := by simpa using hk13.out
    have b14 : (kk == 14) = false := by simpa using hk14.out
    clear HK
    have C := Lib.hid (rget4 _ X _ J0.out.rd)
    have r := p32_in J0.out.rd.ok
    go_wp2_with fail
    refine C.out.mono ?_
    rintro e wq0 ⟨rfl, dq, kq⟩
    have j := J0.out.call dq kq
    have cc0 := j.mq.cell 5
    have ff0 := j.mq.free 5
    simp only [Mg.cells, List.getElem?_cons_zero, List.getElem?_cons_succ] at cc0
    have ck0 : wq0.cell? ⟨M, 0, none⟩ = some (.int .u8 kk) := by rw [← j.kd]; exact j.mq.cell 0
    have N := J0.out.p1 dq kq
    obtain ⟨y1, hy⟩ : ∃ z, z = dPart 1 y0.1 y0.2 := ⟨_, rfl⟩
    rw [← hy] at N
    have E1 := Lib.hid hy
    have F1 : Hid (({ m0 with sq := (p32 y0.2).1 } : Mg).vt = Vt.zero ∧ ({ m0 with sq := (p32 y0.2).1 } : Mg).vs = ⟨none, 0, 0⟩ ∧ ({ m0 with sq := (p32 y0.2).1 } : Mg).sm = ⟨none, 0, 0⟩ ∧ ({ m0 with sq := (p32 y0.2).1 } : Mg).dt = ⟨none, 0, 0⟩) := Lib.hid F0.out
    generalize ({ m0 with sq := (p32 y0.2).1 } : Mg) = m1 at N F1
    have J1 := Lib.hid N
    clear N hy dq kq j C F0 J0
    have C := Lib.hid (rest0 _ X M _ _ J1.out.mx (by rw [J1.out.kd]; exact hk5.out) (by rw [J1.out.kd]; exact hk11.out) (by rw [J1.out.kd]; exact hk12.out) (by rw [J1.out.kd]; exact hk13.out))
    go_wp2_with fail
    refine C.out.mono ?_
    rintro e wq1 ⟨rfl, hx⟩
    have N := Lib.hid (J1.out.r0 hx)
    clear C hx J1 F1
    go_wp2_with fail
    (try go_meet)
    refine ⟨m1, Mc.nil, y1, ?_⟩
    exact Lib.hid ⟨N.out, fun h => by
      have := hk1.out
      have := hk2.out
      have := hk3.out
      have := hk4.out
      have := hk5.out
      have := hk6.out
      have := hk7.out
      have := hk8.out
      have := hk9.out
      have := hk10.out
      have := hk11.out
      have := hk12.out
      have := hk13.out
      have := hk14.out
      omega⟩
  case rest =>
    obtain ⟨m, cc, y, HJ⟩ := hcut
    have HMO := Lib.hid (HJ.out.1.ok.mg HJ.out.1.mq.rel)
    have CE := Lib.hid (encD _ m cc HJ.out.1.mq.dat HMO.out)
    have HKA : Hid ((1 ≤ (p8 ⟨l, 0⟩).1 ∧ (p8 ⟨l, 0⟩).1 ≤ 14) → 1 ≤ kk ∧ kk ≤ 14) := Lib.hid (by rw [← HA.out, ← HKK.out]; exact fun h => h)
    clear J0 F0 HY0 HK ra
    go_upto_region 37 with fail
    refine wp_region_lit ?_
    refine wpList_load_row rfl 37 (.tmp 5) rfl M rfl 37 _ (0, 0) _ HJ.out.1.mq.box Tryz.underlying37 rfl size37 ?_
    go_wp2_with fail
    refine Calls.mono CE.out ?_
    rintro e8 w8 ⟨ao8, z8, rfl, ⟨hB8, hn8⟩, hb8⟩
    have HJ8 := Lib.hid (And.intro (HJ.out.1.below hb8) HJ.out.2)
    have hBl : Bytes w8 ao l := bytes_below HH.out.2.2.2.2.2.2.1 HJ8.out.1.bel (Nat.le_refl _)
    have sl := str_bytes (c := cap) hBl (fun e => (HH.out.2.2.2.2.2.2.2.1 e).1)
    rw [HLN.out] at sl
    have q8 := HJ8.out.1.rd.short
    clear HJ CE hb8 hBl
    by_cases hf : y.2.f = 0
    · rw [Ds.short0 hf] at q8
      have HF := Lib.hid hf
      clear hf
      cases hi : isM m cc with
      | false =>
        have HI := Lib.hid hi
        have e1 : errM m cc = 30 := by unfold errM; rw [hi]; rfl
        have e2 : bytesM m cc = [] := by unfold bytesM; rw [hi]; rfl
        rw [e1, e2]
        clear hi e1 e2 hB8 hn8 sl
        go_upto_region 39 with fail
        obtain ⟨wz, hwz⟩ : ∃ wz, wz = w8.setCells w.heap.size 0 (hm 0 0 0 0).cells := ⟨_, rfl⟩
        have hth := there_row (n := 25) HJ8.out.1.res rfl
        have hkk := kept_setCells (w := w8) (g := w.heap.size) (o := 0) (vs := (hm 0 0 0 0).cells)
        rw [← hwz] at hkk
        have HBEL := Lib.hid (show Below w.heap.size w wz from HJ8.out.1.bel.trans (hkk.below (B := w.heap.size) HJ8.out.1.bel.size (fun k e => by omega)))
        have HBLK := Lib.hid (show wz.heap[w.heap.size]? = some (.cells (hm 0 0 0 0).cells.toArray 37 (0, 0)) by rw [hwz, setCells_block _ 37 _ _ _ _ HJ8.out.1.res, over_zero])
        have HTH := Lib.hid hth
        have HWZ := Lib.hid hwz
        clear hwz hth hkk
        refine wp_region_lit ?_
        refine wv (.agg (hm 0 0 0 0).cells.toArray) w8 (by simp only [hm, Mg.cells, Rq.zero, Vt.zero]; go_simp) ?_
        refine wpList_store_mid rfl 37 (.tmp 2) (.tmp 139) rfl w.heap.size 0 (hm 0 0 0 0).cells.toArray rfl rfl HTH.out size37 (all_oneCell_toArray (Mg.one _)) ?_
        dsimp only
        rw [← HWZ.out]
        clear HWZ HTH
        go_wp2_with fail
        (try simp only [Exit.inBlock, Exit.then])
        refine bodyPost_ret (v := .tuple #[.agg (hm 0 0 0 0).cells.toArray, .bool false]) ?_ rfl ⟨hm 0 0 0 0, cc, false, rfl, .inr ⟨rfl, rfl, fun hk => .inr ⟨w8, m, cc, HJ8.out.1.mq.dat, by rw [← HJ8.out.2 (HKA.out hk)]; exact HJ8.out.1.mq.rel, .inl HI.out⟩⟩, HBEL.out⟩
        rw [results_cell_tmp rfl]
        have hlv := run_loadVar_row (P := Tryz.prog) wz w.heap.size 37 37 _ (0, 0) _ HBLK.out Tryz.underlying37 rfl size37
        show ((asAddr (.pointer (some ⟨w.heap.size, 0, none⟩))).run Tryz.prog wz).andThen (fun a w₁ => ((loadVar 37 a).run Tryz.prog w₁).andThen fun v w₂ => .ok (Value.tuple #[v, Value.bool false]) w₂) = _
        simp only [asAddr, Sem.run_pure, Result.andThen_ok, hlv]
      | true =>
        have HI := Lib.hid hi
        have e1 : errM m cc = 0 := by unfold errM; rw [hi]; rfl
        have e2 : bytesM m cc = encM m cc := by unfold bytesM; rw [hi]; rfl
        rw [e1]
        rw [e2] at hB8 hn8 ⊢
        have hby8 : ∀ x ∈ encM m cc, isByte x := allB_enc HJ8.out.1.mq.dat HMO.out hi
        have sx := str_bytes (c := z8) hB8 hn8
        have se := str_beq hby8 HH.out.2.2.2.2.2.1
        clear hi e1 e2 hB8 hn8
        generalize (encM m cc).length = n8 at *
        by_cases hl : encM m cc = l
        · rw [decide_eq_true hl] at se
          have HL := Lib.hid hl
          clear hl hby8
          generalize strOfNums l = ta at *
          generalize strOfNums (encM m cc) = tb at *
          go_upto_region 40 with fail
          obtain ⟨wz, hwz⟩ : ∃ wz, wz = w8.setCells w.heap.size 0 m.cells := ⟨_, rfl⟩
          have hth := there_row (n := 25) HJ8.out.1.res rfl
          have hkk := kept_setCells (w := w8) (g := w.heap.size) (o := 0) (vs := m.cells)
          rw [← hwz] at hkk
          have HBEL := Lib.hid (show Below w.heap.size w wz from HJ8.out.1.bel.trans (hkk.below (B := w.heap.size) HJ8.out.1.bel.size (fun k e => by omega)))
          have HBLK := Lib.hid (show wz.heap[w.heap.size]? = some (.cells m.cells.toArray 37 (0, 0)) by rw [hwz, setCells_block _ 37 _ _ _ _ HJ8.out.1.res, over_zero])
          have HFA := Lib.hid (HJ8.out.1.mq.dat.new (T := fun k => k = w.heap.size) hkk HJ8.out.1.mq.new (fun b e => by have := HJ8.out.1.l1; have := HJ8.out.1.l2; omega))
          have HTH := Lib.hid hth
          have HWZ := Lib.hid hwz
          clear hwz hth hkk
          refine wp_region_lit ?_
          refine wpList_load_row rfl 37 (.tmp 5) rfl M rfl 37 _ (0, 0) _ HJ8.out.1.mq.box Tryz.underlying37 rfl size37 ?_
          refine wpList_store_mid rfl 37 (.tmp 2) (.tmp 140) rfl w.heap.size 0 m.cells.toArray rfl rfl HTH.out size37 (all_oneCell_toArray (Mg.one _)) ?_
          dsimp only
          rw [← HWZ.out]
          clear HWZ HTH
          go_wp2_with fail
          (try simp only [Exit.inBlock, Exit.then])
          refine bodyPost_ret (v := .tuple #[.agg m.cells.toArray, .bool true]) ?_ rfl ⟨m, cc, true, rfl, .inl ⟨rfl, HFA.out, HMO.out, HI.out, HL.out⟩, HBEL.out⟩
          rw [results_cell_tmp rfl]
          have hlv := run_loadVar_row (P := Tryz.prog) wz w.heap.size 37 37 _ (0, 0) _ HBLK.out Tryz.underlying37 rfl size37
          show ((asAddr (.pointer (some ⟨w.heap.size, 0, none⟩))).run Tryz.prog wz).andThen (fun a w₁ => ((loadVar 37 a).run Tryz.prog w₁).andThen fun v w₂ => .ok (Value.tuple #[v, Value.bool true]) w₂) = _
          simp only [asAddr, Sem.run_pure, Result.andThen_ok, hlv]
        · rw [decide_eq_false hl] at se
          have HL := Lib.hid hl
          clear hl hby8
          generalize strOfNums l = ta at *
          generalize strOfNums (encM m cc) = tb at *
          go_upto_region 39 with fail
          obtain ⟨wz, hwz⟩ : ∃ wz, wz = w8.setCells w.heap.size 0 (hm 0 0 0 0).cells := ⟨_, rfl⟩
          have hth := there_row (n := 25) HJ8.out.1.res rfl
          have hkk := kept_setCells (w := w8) (g := w.heap.size) (o := 0) (vs := (hm 0 0 0 0).cells)
          rw [← hwz] at hkk
          have HBEL := Lib.hid (show Below w.heap.size w wz from HJ8.out.1.bel.trans (hkk.below (B := w.heap.size) HJ8.out.1.bel.size (fun k e => by omega)))
          have HBLK := Lib.hid (show wz.heap[w.heap.size]? = some (.cells (hm 0 0 0 0).cells.toArray 37 (0, 0)) by rw [hwz, setCells_block _ 37 _ _ _ _ HJ8.out.1.res, over_zero])
          have HTH := Lib.hid hth
          have HWZ := Lib.hid hwz
          clear hwz hth hkk
          refine wp_region_lit ?_
          refine wv (.agg (hm 0 0 0 0).cells.toArray) w8 (by simp only [hm, Mg.cells, Rq.zero, Vt.zero]; go_simp) ?_
          refine wpList_store_mid rfl 37 (.tmp 2) (.tmp 139) rfl w.heap.size 0 (hm 0 0 0 0).cells.toArray rfl rfl HTH.out size37 (all_oneCell_toArray (Mg.one _)) ?_
          dsimp only
          rw [← HWZ.out]
          clear HWZ HTH
          go_wp2_with fail
          (try simp only [Exit.inBlock, Exit.then])
          refine bodyPost_ret (v := .tuple #[.agg (hm 0 0 0 0).cells.toArray, .bool false]) ?_ rfl ⟨hm 0 0 0 0, cc, false, rfl, .inr ⟨rfl, rfl, fun hk => .inr ⟨w8, m, cc, HJ8.out.1.mq.dat, by rw [← HJ8.out.2 (HKA.out hk)]; exact HJ8.out.1.mq.rel, .inr HL.out⟩⟩, HBEL.out⟩
          rw [results_cell_tmp rfl]
          have hlv := run_loadVar_row (P := Tryz.prog) wz w.heap.size 37 37 _ (0, 0) _ HBLK.out Tryz.underlying37 rfl size37
          show ((asAddr (.pointer (some ⟨w.heap.size, 0, none⟩))).run Tryz.prog wz).andThen (fun a w₁ => ((loadVar 37 a).run Tryz.prog w₁).andThen fun v w₂ => .ok (Value.tuple #[v, Value.bool false]) w₂) = _
          simp only [asAddr, Sem.run_pure, Result.andThen_ok, hlv]
    · rw [Ds.short1 hf] at q8
      have HF := Lib.hid hf
      clear hf hB8 hn8 sl
      generalize errM m cc = er at *
      generalize (bytesM m cc).length = n8 at *
      go_upto_region 39 with fail
      obtain ⟨wz, hwz⟩ : ∃ wz, wz = w8.setCells w.heap.size 0 (hm 0 0 0 0).cells := ⟨_, rfl⟩
      have hth := there_row (n := 25) HJ8.out.1.res rfl
      have hkk := kept_setCells (w := w8) (g := w.heap.size) (o := 0) (vs := (hm 0 0 0 0).cells)
      rw [← hwz] at hkk
      have HBEL := Lib.hid (show Below w.heap.size w wz from HJ8.out.1.bel.trans (hkk.below (B := w.heap.size) HJ8.out.1.bel.size (fun k e => by omega)))
      have HBLK := Lib.hid (show wz.heap[w.heap.size]? = some (.cells (hm 0 0 0 0).cells.toArray 37 (0, 0)) by rw [hwz, setCells_block _ 37 _ _ _ _ HJ8.out.1.res, over_zero])
      have HTH := Lib.hid hth
      have HWZ := Lib.hid hwz
      clear hwz hth hkk
      refine wp_region_lit ?_
      refine wv (.agg (hm 0 0 0 0).cells.toArray) w8 (by simp only [hm, Mg.cells, Rq.zero, Vt.zero]; go_simp) ?_
      refine wpList_store_mid rfl 37 (.tmp 2) (.tmp 139) rfl w.heap.size 0 (hm 0 0 0 0).cells.toArray rfl rfl HTH.out size37 (all_oneCell_toArray (Mg.one _)) ?_
      dsimp only
      rw [← HWZ.out]
      clear HWZ HTH
      go_wp2_with fail
      (try simp only [Exit.inBlock, Exit.then])
      refine bodyPost_ret (v := .tuple #[.agg (hm 0 0 0 0).cells.toArray, .bool false]) ?_ rfl ⟨hm 0 0 0 0, cc, false, rfl, .inr ⟨rfl, rfl, fun hk => .inl (by rw [← HJ8.out.2 (HKA.out hk)]; exact HF.out)⟩, HBEL.out⟩
      rw [results_cell_tmp rfl]
      have hlv := run_loadVar_row (P := Tryz.prog) wz w.heap.size 37 37 _ (0, 0) _ HBLK.out Tryz.underlying37 rfl size37
      show ((asAddr (.pointer (some ⟨w.heap.size, 0, none⟩))).run Tryz.prog wz).andThen (fun a w₁ => ((loadVar 37 a).run Tryz.prog w₁).andThen fun v w₂ => .ok (Value.tuple #[v, Value.bool false]) w₂) = _
      simp only [asAddr, Sem.run_pure, Result.andThen_ok, hlv]
end Go.Proofs.YtbpfkeeikhhlnaaGreatDoor
