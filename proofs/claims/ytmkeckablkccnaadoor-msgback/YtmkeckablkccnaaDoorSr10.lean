/- Decode, of whatever bytes. -/
import Derived.Test.YtmkeckablkccnaaDoorSr9
namespace Go.Proofs.YtmkeckablkccnaaDoor
open Go.RowKit
set_option maxRecDepth 100000

def zeroQ (k f t e : Int) : Mq := ⟨{ k := k, f := f, t := t, e := e, vw := 0, sq := 0, rq := Rq.zero, ro := 0, ct := 0, pg := 0, rs := 0 }, ⟨0, 0, 0, 0, ⟨[], [], []⟩⟩, [], [], []⟩
def pHd (s : Sr) : Mq × Sr :=
  let a := p8 s; let b := p8 a.2; let c := p8 b.2; let d := p8 c.2
  (zeroQ a.1 b.1 c.1 d.1, d.2)
def pFold (ps : List Int) (y : Mq × Sr) : Mq × Sr := ps.foldl (fun y p => pPart p y.1 y.2) y
/-- all of it: the head, then the parts of its kind -/
def pAll (l : List Int) : Mq × Sr := pFold (partsOf (p8 ⟨l, 0⟩).1) (pHd ⟨l, 0⟩)
theorem pFold_next {ps : List Int} {j : Nat} {p : Int} (y : Mq × Sr) (h : ps[j]? = some p) : pFold (ps.take (j + 1)) y = pPart p (pFold (ps.take j) y).1 (pFold (ps.take j) y).2 := by
  unfold pFold
  rw [List.take_add_one, h, List.foldl_append]
  rfl
theorem pFold_ok (ps : List Int) : ∀ y : Mq × Sr, MqOk y.1 → SrOk y.2 → MqOk (pFold ps y).1 ∧ SrOk (pFold ps y).2 := by
  induction ps with
  | nil => intro y h1 h2; exact ⟨h1, h2⟩
  | cons p r ih =>
    intro y h1 h2
    obtain ⟨a, b⟩ := pPart_ok p h1 h2
    exact ih (pPart p y.1 y.2) a b
theorem pHd_ok {s : Sr} (h : SrOk s) : MqOk (pHd s).1 ∧ SrOk (pHd s).2 :=
  ⟨⟨⟨fun x hx => (by cases hx), fun x hx => (by cases hx)⟩, fun v hv => (by cases hv)⟩, gN_ok 1 _ (gN_ok 1 _ (gN_ok 1 _ (gN_ok 1 _ h)))⟩
/-- a message in memory is what was read -/
structure RelQ (m : Mg) (c : Mc) (x : Mq) : Prop where
  wd : m.toWd = x.w
  vt : toVp (m.vt, c.vt) = x.vt
  vs : c.vs.map toVp = x.vs
  sm : c.sm = x.sm
  dt : c.dt = x.dt
theorem MqAt.rel {w : World} {M : Nat} {m : Mg} {c : Mc} {x : Mq} (h : MqAt w M m c x) : RelQ m c x := ⟨h.wd, h.vt, h.vs, h.sm, h.dt⟩
/-- what Decode tells: a message, or what is amiss -/
def DecD (w' : World) (l : List Int) (m : Mg) (c : Mc) (err : Int) : Prop :=
  (err = 0 ∧ (pAll l).2.f = 0 ∧ (pAll l).2.l = [] ∧ isM m c = true ∧ MgAt w' m c ∧ McOk c ∧ RelQ m c (pAll l).1) ∨
  (err ≠ 0 ∧ m = hm 0 0 0 0 ∧ ((pAll l).2.f ≠ 0 ∨ (pAll l).2.l ≠ [] ∨ ∃ w2 m' c', MgAt w2 m' c' ∧ RelQ m' c' (pAll l).1 ∧ isM m' c' = false))
/-- what stands while the parts are read -/
structure DecJ (w : World) (S R M g0 : Nat) (wr : World) (m : Mg) (c : Mc) (y : Mq × Sr) : Prop where
  mq : MqAt wr M m c y.1
  sat : Sat wr S R y.2
  g0 : wr.heap[g0]? = some (.cells Vz.toArray 37 (0, 0))
  bel : Below w.heap.size w wr
theorem DecJ.on {w : World} {S R M g0 : Nat} {wr wx : World} {m : Mg} {c : Mc} {y : Mq × Sr} (h : DecJ w S R M g0 wr m c y) (hb : Below wr.heap.size wr wx) : DecJ w S R M g0 wx m c y :=
  ⟨h.mq.below hb, h.sat.on hb, (hb.block _ (lt_of_block h.g0)).trans h.g0, h.bel.trans (hb.mono h.bel.size)⟩
theorem parts_len (k : Int) : (partsOf k).length ≤ 3 := by
  by_cases h : 1 ≤ k ∧ k ≤ 14
  · have hc : k = 1 ∨ k = 2 ∨ k = 3 ∨ k = 4 ∨ k = 5 ∨ k = 6 ∨ k = 7 ∨ k = 8 ∨ k = 9 ∨ k = 10 ∨ k = 11 ∨ k = 12 ∨ k = 13 ∨ k = 14 := by omega
    rcases hc with rfl | rfl | rfl | rfl | rfl | rfl | rfl | rfl | rfl | rfl | rfl | rfl | rfl | rfl
    all_goals decide
  · have e : partsOf k = [] := by
      unfold partsOf
      simp only [show ¬ k = 1 from by omega, show ¬ k = 2 from by omega, show ¬ k = 3 from by omega, show ¬ k = 4 from by omega, show ¬ k = 5 from by omega, show ¬ k = 6 from by omega, show ¬ k = 7 from by omega, show ¬ k = 8 from by omega, show ¬ k = 9 from by omega, show ¬ k = 10 from by omega, show ¬ k = 11 from by omega, show ¬ k = 12 from by omega, show ¬ k = 13 from by omega, show ¬ k = 14 from by omega, if_false]
    rw [e]; simp
theorem err_load {w' : World} {S : Nat} {f : Int} (h : w'.cell? ⟨S, 1, none⟩ = some (.int .i64 f)) : (Instr.loadAt 40 (.pointer (some ⟨S, 1, none⟩))).run Tryd.prog w' = .ok (.int .i64 f) w' := by go_simp
theorem hm_cells : (hm 0 0 0 0).cells = Vz := rfl
theorem zero_at (w : World) (k f t e : Int) : MgAt w (hm k f t e) Mc.nil := nil_at w _ ⟨rfl, rfl, rfl⟩ rfl rfl rfl
theorem zero_new (H : Nat) (k f t e : Int) : NewM H (hm k f t e) Mc.nil := ⟨⟨fun ad e => (by cases e), fun ad e => (by cases e), fun ad e => (by cases e)⟩, ⟨fun ad e => (by cases e), fun x hx => (by cases hx)⟩, fun ad e => (by cases e), fun ad e => (by cases e)⟩

set_option maxHeartbeats 16000000 in
theorem decode_any (w : World) (ao : Option Addr) (cap : Nat) (l : List Int) (hb : Bytes w ao l) (hnone : ao = none → l = [] ∧ cap = 0) (hl : l.length ≤ 8000) (hby : ∀ x ∈ l, isByte x) (ht : Tab w) :
    Calls Tryd.prog 11 #[.slice ao l.length cap] w fun e w' => ∃ m c err, e = .returned (.tuple #[.agg m.cells.toArray, .int .i64 err]) ∧ DecD w' l m c err ∧ Below w.heap.size w w' := by
  obtain ⟨W, hW⟩ : ∃ W, W = w.alloc (.cells Vz.toArray 37) := ⟨_, rfl⟩
  have hbl : Below w.heap.size w W := by rw [hW]; exact (Below.refl _ _).alloc (Nat.le_refl _) _
  have hsz : W.heap.size = w.heap.size + 1 := by rw [hW]; simp
  have hg0 : W.heap[w.heap.size]? = some (.cells Vz.toArray 37 (0, 0)) := by rw [hW]; exact heap_alloc_new _ _
  have CO := Lib.hid (open_b W ao cap l (bytes_below hb hbl (Nat.le_refl _)) hnone (Nat.le_trans hl (by decide)) hby)
  have HT := Lib.hid (fun w' (h : Below w.heap.size w w') => Tab.on ht h)
  have HOK := Lib.hid (pFold_ok (partsOf (p8 ⟨l, 0⟩).1) _ (pHd_ok (s := ⟨l, 0⟩) hby).1 (pHd_ok (s := ⟨l, 0⟩) hby).2)
  have HBL := Lib.hid hbl
  have HSZ := Lib.hid hsz
  have HG0 := Lib.hid hg0
  have HW := Lib.hid hW
  have HLL := Lib.hid hl
  clear hb hnone hby hbl hg0 hW hsz ht
  generalize hln : l.length = ln at *
  have HLN := Lib.hid hln
  clear hln
  simp only [Vz] at HW
  go_enter Tryd.func11, Tryd.ntmps11
  go_upto_region 1 with fail
  rw [← HW.out]
  clear HW
  go_wp2_with fail
  refine Calls.mono CO.out ?_
  rintro e1 w1 ⟨R, rfl, hR, hrd, hb1⟩
  obtain ⟨w2, hw2⟩ : ∃ w2, w2 = w1.alloc (.cells #[.pointer (some ⟨R, 0, none⟩), .int .i64 0] 82) := ⟨_, rfl⟩
  have hb2 : Below w1.heap.size w1 w2 := by rw [hw2]; exact (Below.refl _ _).alloc (Nat.le_refl _) _
  have hsat : Sat w2 w1.heap.size R ⟨l, 0⟩ := ⟨by rw [hw2]; exact heap_alloc_new _ _, hrd.below hb2, hrd.lt, by have := HLN.out; have := HLL.out; simp only; omega⟩
  have HS0 := Lib.hid hsat
  have B2 := Lib.hid (Below.up (W := W) hb1 hb2)
  have HRW := Lib.hid hR
  have HSW := Lib.hid (show W.heap.size ≤ w1.heap.size from hb1.size)
  have HW2 := Lib.hid hw2
  have HK0 := Lib.hid (Kept.refl (SR w1.heap.size R) w2)
  generalize hS : w1.heap.size = S at *
  clear hb2 hsat hrd hb1 hw2 hR CO
  go_wp2_with fail
  rw [← HW2.out]
  (try rw [hS])
  clear HW2 hS
  obtain ⟨a, ha⟩ : ∃ a, a = p8 ⟨l, 0⟩ := ⟨_, rfl⟩
  obtain ⟨b, hb⟩ : ∃ b, b = p8 a.2 := ⟨_, rfl⟩
  obtain ⟨c, hc⟩ : ∃ c, c = p8 b.2 := ⟨_, rfl⟩
  obtain ⟨d, hd⟩ : ∃ d, d = p8 c.2 := ⟨_, rfl⟩
  obtain ⟨Y, hY⟩ : ∃ Y, Y = pAll l := ⟨_, rfl⟩
  have hYa : Y = pFold (partsOf a.1) (zeroQ a.1 b.1 c.1 d.1, d.2) := by rw [hY, hd, hc, hb, ha]; rfl
  have hYok : MqOk Y.1 := by rw [hY]; exact HOK.out.1
  have Ea := Lib.hid ha
  have Eb := Lib.hid hb
  have Ec := Lib.hid hc
  have Ed := Lib.hid hd
  have EY := Lib.hid hY
  have EYa := Lib.hid hYa
  have HYK := Lib.hid hYok
  clear ha hb hc hd hY hYa hYok HOK
  have C := s8 _ S R _ HS0.out
  rw [← Ea.out] at C
  have CH := Lib.hid C
  clear C
  refine Calls.mono CH.out ?_
  rintro e w3 ⟨rfl, h, k⟩
  have HS1 := Lib.hid h
  have HK1 := Lib.hid (HK0.out.trans k (fun _ _ h => h))
  clear h k HS0 HK0 CH
  have C := s8 _ S R _ HS1.out
  rw [← Eb.out] at C
  have CH := Lib.hid C
  clear C
  go_wp2_with fail
  refine Calls.mono CH.out ?_
  rintro e w4 ⟨rfl, h, k⟩
  have HS2 := Lib.hid h
  have HK2 := Lib.hid (HK1.out.trans k (fun _ _ h => h))
  clear h k HS1 HK1 CH
  have C := s8 _ S R _ HS2.out
  rw [← Ec.out] at C
  have CH := Lib.hid C
  clear C
  go_wp2_with fail
  refine Calls.mono CH.out ?_
  rintro e w5 ⟨rfl, h, k⟩
  have HS3 := Lib.hid h
  have HK3 := Lib.hid (HK2.out.trans k (fun _ _ h => h))
  clear h k HS2 HK2 CH
  have C := s8 _ S R _ HS3.out
  rw [← Ed.out] at C
  have CH := Lib.hid C
  clear C
  go_wp2_with fail
  refine Calls.mono CH.out ?_
  rintro e w6 ⟨rfl, h, k⟩
  have HS4 := Lib.hid h
  have HK4 := Lib.hid (HK3.out.trans k (fun _ _ h => h))
  clear h k HS3 HK3 CH
  dsimp only
  refine ‹∀ (a : Act) (w : World), wpList Tryd.prog _ _ _ a w → _› _ _ ?_
  obtain ⟨U, hU⟩ : ∃ U, U = (w6.alloc (.cells Vz.toArray 37)).setCells w6.heap.size 0 (hm a.1 b.1 c.1 d.1).cells := ⟨_, rfl⟩
  obtain ⟨hUM, hUb, hth⟩ := msg_new w6 _ hU
  have BV : Below w.heap.size w w6 := by
    have h5 : Below W.heap.size W w6 := B2.out.trans (HK4.out.below (B := W.heap.size) B2.out.size (fun k e => by rcases e with e | e; rw [e]; exact HSW.out; rw [e]; exact HRW.out))
    exact HBL.out.trans (h5.mono HBL.out.size)
  have hG4 : w6.heap[w.heap.size]? = some (.cells Vz.toArray 37 (0, 0)) := by
    rw [HK4.out.block _ (Nat.lt_of_lt_of_le (lt_of_block HG0.out) B2.out.size) (fun e => by have h1 := HSZ.out; rcases e with e | e; have := HSW.out; omega; have := HRW.out; omega), B2.out.block _ (lt_of_block HG0.out)]
    exact HG0.out
  have HLS := Lib.hid (show S < w6.heap.size from HS4.out.lt.1)
  have HLR := Lib.hid (show R < w6.heap.size from HS4.out.lt.2)
  have HJ0 : Hid (DecJ w S R w6.heap.size w.heap.size U (hm a.1 b.1 c.1 d.1) Mc.nil (zeroQ a.1 b.1 c.1 d.1, d.2)) := Lib.hid ⟨⟨hUM, zero_at _ _ _ _ _, zero_new _ _ _ _ _, rfl, rfl, rfl, rfl, rfl⟩, HS4.out.on hUb, (hUb.block _ (lt_of_block hG4)).trans hG4, BV.trans (hUb.mono BV.size)⟩
  have HTH := Lib.hid hth
  have HU := Lib.hid hU
  have HMB := Lib.hid (show w.heap.size < w6.heap.size from lt_of_block hG4)
  have HRB := Lib.hid (show w.heap.size < R by have := HRW.out; have := HSZ.out; omega)
  have HSB := Lib.hid (show w.heap.size < S by have := HSW.out; have := HSZ.out; omega)
  clear hUM hUb hth BV hG4 hU HS4 HK4
  obtain ⟨M, hM⟩ : ∃ M, M = w6.heap.size := ⟨_, rfl⟩
  have HME := Lib.hid hM
  refine wpl_val (v := .agg (hm a.1 b.1 c.1 d.1).cells.toArray) (w1 := w6) rfl (by simp only [hm, Mg.cells, Rq.zero, Vt.zero]; go_simp) _ rfl ?_
  refine wpl_val (v := .pointer (some ⟨w6.heap.size, 0, none⟩)) (w1 := w6.alloc (.cells Vz.toArray 37)) rfl (by simp only [Vz]; go_simp) _ rfl ?_
  refine wpList_store_mid rfl 37 (.tmp 5) (.tmp 24) rfl w6.heap.size 0 (hm a.1 b.1 c.1 d.1).cells.toArray rfl rfl HTH.out size37 (all_oneCell_toArray (Mg.one _)) ?_
  dsimp only
  rw [← HU.out, ← hM]
  rw [← hM] at HLS HLR HJ0 HMB
  clear HTH HU hM
  have q0 : U.cell? ⟨M, 0, none⟩ = some (.int .u8 a.1) := HJ0.out.mq.cell 0
  generalize (hm a.1 b.1 c.1 d.1).cells.toArray = D0
  go_wp2_with fail
  clear q0
  refine Calls.mono (parts_new a.1 U) ?_
  rintro e6 wp ⟨ao2, rfl, hby2, hnb2, hbp⟩
  obtain ⟨x0, hx0⟩ : ∃ x0, x0 = (zeroQ a.1 b.1 c.1 d.1, d.2) := ⟨_, rfl⟩
  rw [← hx0] at HJ0 EYa
  have HPL := Lib.hid (parts_len a.1)
  have HPR := Lib.hid (partsOf_le a.1)
  have HJP := Lib.hid (HJ0.out.on hbp)
  have HBY := Lib.hid hby2
  have HNB := Lib.hid hnb2
  have HU1 := Lib.hid (show M < U.heap.size from lt_of_block HJ0.out.mq.box)
  generalize hps : partsOf a.1 = ps at *
  generalize hnp : ps.length = np at *
  have HNP := Lib.hid hnp
  have hnp3 : np ≤ 3 := HPL.out
  clear hby2 hnb2 hbp HJ0 hps hnp hx0 HPL
  go_wp2_with fail
  go_loopw [7, 29] (fun _ vi wr => ∃ (j : Nat) (m : Mg) (c : Mc), j ≤ np ∧ vi = .int .i64 j ∧ Hid (DecJ w S R M w.heap.size wr m c (pFold (ps.take j) x0)) ∧ Hid (Bytes wr ao2 ps)) (fun _ i _ => np - (intOf i).toNat)
  case atStart => exact ⟨0, _, _, Nat.zero_le _, rfl, HJP, HBY⟩
  case round =>
    obtain ⟨j, m, cc, hj, rfl, HJ, HBW⟩ := hrel
    clear HJP HBY
    by_cases hlt : j < np
    · obtain ⟨p, hp⟩ : ∃ p, ps[j]? = some p := ⟨_, List.getElem?_eq_getElem (by rw [HNP.out]; exact hlt)⟩
      obtain ⟨ad, rfl, hcell⟩ := HBW.out j (by rw [HNP.out]; exact hlt)
      have hpd : ps.getD j 0 = p := by rw [List.getD_eq_getElem?_getD, hp]; rfl
      rw [hpd] at hcell
      have F := read_any p (HPR.out p (List.mem_of_getElem? hp)) wr S R M _ m cc _ HJ.out.sat HJ.out.mq HLS.out HLR.out
      rw [← pFold_next x0 hp] at F
      have FH := Lib.hid F
      have HB7 := Lib.hid (fun w7 (h3 : Kept (SRM S R M) wr w7) => bytes_kept HBW.out h3 (fun ad' e _ hb => by
        have h8 := HNB.out ad' e
        have h9 := HU1.out
        have hs := HLS.out
        have hr := HLR.out
        rcases hb with (hb | hb) | hb
        · omega
        · omega
        · omega))
      clear hpd F hp
      go_wp2_with fail
      refine Calls.mono FH.out ?_
      rintro e7 w7 ⟨rfl, m', c', h1, h2, h3⟩
      have HN : Hid (DecJ w S R M w.heap.size w7 m' c' (pFold (ps.take (j + 1)) x0)) := by
        have hms := HMB.out
        have hrs := HRB.out
        have hss := HSB.out
        refine Lib.hid ⟨h1, h2, ?_, ?_⟩
        · rw [h3.block _ (lt_of_block HJ.out.g0) (fun e => by rcases e with (e | e) | e; omega; omega; omega)]
          exact HJ.out.g0
        · exact HJ.out.bel.trans (h3.below (B := w.heap.size) HJ.out.bel.size (fun k e => by rcases e with (e | e) | e; omega; omega; omega))
      have HBN := Lib.hid (HB7.out w7 h3)
      clear h1 h2 h3 HB7 FH
      go_wp2_with fail
      go_round
      case measure => simp [intOf]; omega
      case rel => exact ⟨j + 1, m', c', by omega, by go_num, HN, HBN⟩
    · obtain rfl : j = np := by omega
      have hjy : pFold (ps.take j) x0 = Y := by rw [EYa.out, List.take_of_length_le (by rw [HNP.out]; exact Nat.le_refl _)]
      rw [hjy] at HJ
      have hsf := HJ.out.sat.cell1
      have TG0 := Lib.hid HJ.out.g0
      have TB := Lib.hid HJ.out.bel
      clear hjy
      by_cases hf : Y.2.f = 0
      · rw [hf] at hsf
        have HF := Lib.hid hf
        clear hf
        have CI := Lib.hid (is_all wr m cc HJ.out.mq.dat (HJ.out.mq.ok HYK.out) (HT.out wr HJ.out.bel))
        go_upto_region 12 with fail
        refine wp_region_lit ?_
        refine wpList_load_row rfl 37 (.tmp 5) rfl M rfl 37 _ (0, 0) _ HJ.out.mq.box Tryd.underlying37 rfl size37 ?_
        go_wp2_with fail
        refine Calls.mono CI.out ?_
        rintro e8 w8 ⟨rfl, hb8⟩
        have TG8 := Lib.hid ((hb8.block _ (lt_of_block TG0.out)).trans TG0.out)
        have TB8 := Lib.hid (TB.out.trans (hb8.mono TB.out.size))
        have HS8 := Lib.hid (HJ.out.sat.on hb8)
        have HM8 := Lib.hid (HJ.out.mq.below hb8)
        have HREL := Lib.hid HJ.out.mq.rel
        have HMOK := Lib.hid (HJ.out.mq.ok HYK.out)
        clear hb8 CI HJ TG0 TB hsf
        have TG0 := TG8
        have TB := TB8
        clear TG8 TB8
        cases hi : isM m cc
        · have HI := Lib.hid hi
          clear hi
          go_upto_region 13 with fail
          obtain ⟨wz, hwz⟩ : ∃ wz, wz = w8.setCells w.heap.size 0 (hm 0 0 0 0).cells := ⟨_, rfl⟩
          have hth := there_row (n := 25) TG0.out rfl
          have hkk := kept_setCells (w := w8) (g := w.heap.size) (o := 0) (vs := (hm 0 0 0 0).cells)
          rw [← hwz] at hkk
          have HBEL := Lib.hid (show Below w.heap.size w wz from TB.out.trans (hkk.below (B := w.heap.size) TB.out.size (fun k e => by omega)))
          have HBLK := Lib.hid (show wz.heap[w.heap.size]? = some (.cells (hm 0 0 0 0).cells.toArray 37 (0, 0)) by rw [hwz, setCells_block _ 37 _ _ _ _ TG0.out, over_zero])
          have HKK := Lib.hid hkk
          have HTH := Lib.hid hth
          have HWZ := Lib.hid hwz
          clear hwz hth hkk
          refine wp_region_lit ?_
          refine wpl_val (v := .agg (hm 0 0 0 0).cells.toArray) (w1 := w8) rfl (by simp only [hm, Mg.cells, Rq.zero, Vt.zero]; go_simp) _ rfl ?_
          refine wpList_store_mid rfl 37 (.tmp 2) (.tmp 52) rfl w.heap.size 0 (hm 0 0 0 0).cells.toArray rfl rfl HTH.out size37 (all_oneCell_toArray (Mg.one _)) ?_
          dsimp only
          rw [← HWZ.out]
          clear HWZ HTH
          go_wp2_with fail
          (try simp only [Exit.inBlock, Exit.then])
          refine bodyPost_ret (v := .tuple #[.agg (hm 0 0 0 0).cells.toArray, .int .i64 30]) ?_ rfl ⟨(hm 0 0 0 0), cc, 30, rfl, .inr ⟨by decide, rfl, .inr (.inr ⟨w8, m, cc, HM8.out.dat, by rw [← EY.out]; exact HREL.out, HI.out⟩)⟩, HBEL.out⟩
          rw [results_cell_tmp rfl]
          have hlv := run_loadVar_row (P := Tryd.prog) wz w.heap.size 37 37 _ (0, 0) _ HBLK.out Tryd.underlying37 rfl size37
          show ((asAddr (.pointer (some ⟨w.heap.size, 0, none⟩))).run Tryd.prog wz).andThen (fun a w₁ => ((loadVar 37 a).run Tryd.prog w₁).andThen fun v w₂ => .ok (Value.tuple #[v, Value.int .i64 30]) w₂) = _
          simp only [asAddr, Sem.run_pure, Result.andThen_ok, hlv]
        · have HI := Lib.hid hi
          clear hi
          have hs0 := HS8.out.cell0
          go_wp2_with fail
          refine Calls.mono (left_any w8 R _ HS8.out.rd.toRd) ?_
          rintro e9 w9 ⟨rfl, rfl⟩
          clear hs0
          by_cases hz : Y.2.l = []
          · have hz0 : Y.2.l.length = 0 := by rw [hz]; rfl
            have HZ := Lib.hid hz
            clear hz
            rw [hz0]
            clear hz0
            go_upto_region 16 with fail
            obtain ⟨wz, hwz⟩ : ∃ wz, wz = w8.setCells w.heap.size 0 m.cells := ⟨_, rfl⟩
            have hth := there_row (n := 25) TG0.out rfl
            have hkk := kept_setCells (w := w8) (g := w.heap.size) (o := 0) (vs := m.cells)
            rw [← hwz] at hkk
            have HBEL := Lib.hid (show Below w.heap.size w wz from TB.out.trans (hkk.below (B := w.heap.size) TB.out.size (fun k e => by omega)))
            have HBLK := Lib.hid (show wz.heap[w.heap.size]? = some (.cells m.cells.toArray 37 (0, 0)) by rw [hwz, setCells_block _ 37 _ _ _ _ TG0.out, over_zero])
            have HKK := Lib.hid hkk
            have HTH := Lib.hid hth
            have HWZ := Lib.hid hwz
            have HFA := Lib.hid (HM8.out.dat.new (T := fun k => k = w.heap.size) HKK.out HM8.out.new (fun b e => by have := HMB.out; omega))
            clear hwz hth hkk
            refine wp_region_lit ?_
            refine wpList_load_row rfl 37 (.tmp 5) rfl M rfl 37 _ (0, 0) _ HM8.out.box Tryd.underlying37 rfl size37 ?_
            refine wpList_store_mid rfl 37 (.tmp 2) (.tmp 61) rfl w.heap.size 0 m.cells.toArray rfl rfl HTH.out size37 (all_oneCell_toArray (Mg.one _)) ?_
            dsimp only
            rw [← HWZ.out]
            clear HWZ HTH
            go_wp2_with fail
            (try simp only [Exit.inBlock, Exit.then])
            refine bodyPost_ret (v := .tuple #[.agg m.cells.toArray, .int .i64 0]) ?_ rfl ⟨m, cc, 0, rfl, .inl ⟨rfl, by rw [← EY.out]; exact HF.out, by rw [← EY.out]; exact HZ.out, HI.out, HFA.out, HMOK.out, by rw [← EY.out]; exact HREL.out⟩, HBEL.out⟩
            rw [results_cell_tmp rfl]
            have hlv := run_loadVar_row (P := Tryd.prog) wz w.heap.size 37 37 _ (0, 0) _ HBLK.out Tryd.underlying37 rfl size37
            show ((asAddr (.pointer (some ⟨w.heap.size, 0, none⟩))).run Tryd.prog wz).andThen (fun a w₁ => ((loadVar 37 a).run Tryd.prog w₁).andThen fun v w₂ => .ok (Value.tuple #[v, Value.int .i64 0]) w₂) = _
            simp only [asAddr, Sem.run_pure, Result.andThen_ok, hlv]
          · have hpos : 0 < Y.2.l.length := List.length_pos_iff.2 hz
            have HZ := Lib.hid hz
            clear hz
            generalize Y.2.l.length = nl at *
            go_upto_region 15 with fail
            obtain ⟨wz, hwz⟩ : ∃ wz, wz = w8.setCells w.heap.size 0 (hm 0 0 0 0).cells := ⟨_, rfl⟩
            have hth := there_row (n := 25) TG0.out rfl
            have hkk := kept_setCells (w := w8) (g := w.heap.size) (o := 0) (vs := (hm 0 0 0 0).cells)
            rw [← hwz] at hkk
            have HBEL := Lib.hid (show Below w.heap.size w wz from TB.out.trans (hkk.below (B := w.heap.size) TB.out.size (fun k e => by omega)))
            have HBLK := Lib.hid (show wz.heap[w.heap.size]? = some (.cells (hm 0 0 0 0).cells.toArray 37 (0, 0)) by rw [hwz, setCells_block _ 37 _ _ _ _ TG0.out, over_zero])
            have HKK := Lib.hid hkk
            have HTH := Lib.hid hth
            have HWZ := Lib.hid hwz
            clear hwz hth hkk
            refine wp_region_lit ?_
            refine wpl_val (v := .agg (hm 0 0 0 0).cells.toArray) (w1 := w8) rfl (by simp only [hm, Mg.cells, Rq.zero, Vt.zero]; go_simp) _ rfl ?_
            refine wpList_store_mid rfl 37 (.tmp 2) (.tmp 60) rfl w.heap.size 0 (hm 0 0 0 0).cells.toArray rfl rfl HTH.out size37 (all_oneCell_toArray (Mg.one _)) ?_
            dsimp only
            rw [← HWZ.out]
            clear HWZ HTH
            go_wp2_with fail
            (try simp only [Exit.inBlock, Exit.then])
            refine bodyPost_ret (v := .tuple #[.agg (hm 0 0 0 0).cells.toArray, .int .i64 21]) ?_ rfl ⟨(hm 0 0 0 0), cc, 21, rfl, .inr ⟨by decide, rfl, .inr (.inl (by rw [← EY.out]; exact HZ.out))⟩, HBEL.out⟩
            rw [results_cell_tmp rfl]
            have hlv := run_loadVar_row (P := Tryd.prog) wz w.heap.size 37 37 _ (0, 0) _ HBLK.out Tryd.underlying37 rfl size37
            show ((asAddr (.pointer (some ⟨w.heap.size, 0, none⟩))).run Tryd.prog wz).andThen (fun a w₁ => ((loadVar 37 a).run Tryd.prog w₁).andThen fun v w₂ => .ok (Value.tuple #[v, Value.int .i64 21]) w₂) = _
            simp only [asAddr, Sem.run_pure, Result.andThen_ok, hlv]
      · have hf2 : (Y.2.f == 0) = false := by simp [hf]
        have HF := Lib.hid hf
        clear hf
        go_upto_region 11 with fail
        refine wp_region_held_drew (S := fun w' => w'.cell? ⟨S, 1, none⟩ = some (.int .i64 Y.2.f)) (by kernel_rfl) (show wr.drew.cell? ⟨S, 1, none⟩ = some (.int .i64 Y.2.f) from hsf) (fun hS => ?_)
        clear hsf
        refine takeA (i := 0) (v := .agg (hm 0 0 0 0).cells.toArray) ({ tmps := #[.slice ao ln cap, undef, .pointer (some ⟨w.heap.size, 0, none⟩), .int .i64 0, .pointer (some ⟨S, 0, none⟩), .pointer (some ⟨M, 0, none⟩), undef, u7, .slice ao ln cap, .int .i64 ↑ln, .bool (decide (8000 < (ln : Int))), undef, .slice ao ln cap, .pointer (some ⟨R, 0, none⟩), .agg #[.pointer (some ⟨R, 0, none⟩), .int .i64 0], .pointer (some ⟨S, 0, none⟩), .pointer (some ⟨S, 0, none⟩), .int .u8 a.1, .pointer (some ⟨S, 0, none⟩), .int .u8 b.1, .pointer (some ⟨S, 0, none⟩), .int .u8 c.1, .pointer (some ⟨S, 0, none⟩), .int .u8 d.1, .agg D0, .pointer (some ⟨M, 0, none⟩), .int .u8 a.1, .slice ao2 j j, .int .i64 ↑j, .int .i64 ↑j, .bool false, u31, u32, u33, u34, u35, u36, .bool (Y.2.f != 0), .pointer (some ⟨S, 0, none⟩), .pointer (some ⟨S, 0, none⟩), .pointer (some ⟨S, 1, none⟩), .int .i64 Y.2.f, .bool (Y.2.f != 0), .agg (hm 0 0 0 0).cells.toArray, undef, undef, undef, undef, undef, undef, undef, undef, undef, undef, undef, undef, undef, undef, undef, undef, undef, undef], defers := [] }) rfl (by kernel_rfl) (by kernel_rfl) (by kernel_rfl) (fun _ _ _ h => h) (.inl ⟨rfl, fun w' _ => by simp only [hm, Mg.cells, Rq.zero, Vt.zero]; go_simp⟩) hS rfl ?_
        refine takeA (i := 1) (v := .pointer (some ⟨S, 0, none⟩)) ({ tmps := #[.slice ao ln cap, undef, .pointer (some ⟨w.heap.size, 0, none⟩), .int .i64 0, .pointer (some ⟨S, 0, none⟩), .pointer (some ⟨M, 0, none⟩), undef, u7, .slice ao ln cap, .int .i64 ↑ln, .bool (decide (8000 < (ln : Int))), undef, .slice ao ln cap, .pointer (some ⟨R, 0, none⟩), .agg #[.pointer (some ⟨R, 0, none⟩), .int .i64 0], .pointer (some ⟨S, 0, none⟩), .pointer (some ⟨S, 0, none⟩), .int .u8 a.1, .pointer (some ⟨S, 0, none⟩), .int .u8 b.1, .pointer (some ⟨S, 0, none⟩), .int .u8 c.1, .pointer (some ⟨S, 0, none⟩), .int .u8 d.1, .agg D0, .pointer (some ⟨M, 0, none⟩), .int .u8 a.1, .slice ao2 j j, .int .i64 ↑j, .int .i64 ↑j, .bool false, u31, u32, u33, u34, u35, u36, .bool (Y.2.f != 0), .pointer (some ⟨S, 0, none⟩), .pointer (some ⟨S, 0, none⟩), .pointer (some ⟨S, 1, none⟩), .int .i64 Y.2.f, .bool (Y.2.f != 0), .agg (hm 0 0 0 0).cells.toArray, .pointer (some ⟨S, 0, none⟩), undef, undef, undef, undef, undef, undef, undef, undef, undef, undef, undef, undef, undef, undef, undef, undef, undef], defers := [] }) rfl (by kernel_rfl) (by kernel_rfl) (by kernel_rfl) (fun _ _ _ h => h) (.inl ⟨rfl, fun _ _ => rfl⟩) hS rfl ?_
        refine takeA (i := 2) (v := .pointer (some ⟨S, 0, none⟩)) ({ tmps := #[.slice ao ln cap, undef, .pointer (some ⟨w.heap.size, 0, none⟩), .int .i64 0, .pointer (some ⟨S, 0, none⟩), .pointer (some ⟨M, 0, none⟩), undef, u7, .slice ao ln cap, .int .i64 ↑ln, .bool (decide (8000 < (ln : Int))), undef, .slice ao ln cap, .pointer (some ⟨R, 0, none⟩), .agg #[.pointer (some ⟨R, 0, none⟩), .int .i64 0], .pointer (some ⟨S, 0, none⟩), .pointer (some ⟨S, 0, none⟩), .int .u8 a.1, .pointer (some ⟨S, 0, none⟩), .int .u8 b.1, .pointer (some ⟨S, 0, none⟩), .int .u8 c.1, .pointer (some ⟨S, 0, none⟩), .int .u8 d.1, .agg D0, .pointer (some ⟨M, 0, none⟩), .int .u8 a.1, .slice ao2 j j, .int .i64 ↑j, .int .i64 ↑j, .bool false, u31, u32, u33, u34, u35, u36, .bool (Y.2.f != 0), .pointer (some ⟨S, 0, none⟩), .pointer (some ⟨S, 0, none⟩), .pointer (some ⟨S, 1, none⟩), .int .i64 Y.2.f, .bool (Y.2.f != 0), .agg (hm 0 0 0 0).cells.toArray, .pointer (some ⟨S, 0, none⟩), .pointer (some ⟨S, 0, none⟩), undef, undef, undef, undef, undef, undef, undef, undef, undef, undef, undef, undef, undef, undef, undef, undef], defers := [] }) rfl (by kernel_rfl) (by kernel_rfl) (by kernel_rfl) (fun _ _ _ h => h) (.inl ⟨rfl, fun w' _ => by go_simp⟩) hS rfl ?_
        refine takeA (i := 3) (v := .pointer (some ⟨S, 1, none⟩)) ({ tmps := #[.slice ao ln cap, undef, .pointer (some ⟨w.heap.size, 0, none⟩), .int .i64 0, .pointer (some ⟨S, 0, none⟩), .pointer (some ⟨M, 0, none⟩), undef, u7, .slice ao ln cap, .int .i64 ↑ln, .bool (decide (8000 < (ln : Int))), undef, .slice ao ln cap, .pointer (some ⟨R, 0, none⟩), .agg #[.pointer (some ⟨R, 0, none⟩), .int .i64 0], .pointer (some ⟨S, 0, none⟩), .pointer (some ⟨S, 0, none⟩), .int .u8 a.1, .pointer (some ⟨S, 0, none⟩), .int .u8 b.1, .pointer (some ⟨S, 0, none⟩), .int .u8 c.1, .pointer (some ⟨S, 0, none⟩), .int .u8 d.1, .agg D0, .pointer (some ⟨M, 0, none⟩), .int .u8 a.1, .slice ao2 j j, .int .i64 ↑j, .int .i64 ↑j, .bool false, u31, u32, u33, u34, u35, u36, .bool (Y.2.f != 0), .pointer (some ⟨S, 0, none⟩), .pointer (some ⟨S, 0, none⟩), .pointer (some ⟨S, 1, none⟩), .int .i64 Y.2.f, .bool (Y.2.f != 0), .agg (hm 0 0 0 0).cells.toArray, .pointer (some ⟨S, 0, none⟩), .pointer (some ⟨S, 0, none⟩), .pointer (some ⟨S, 1, none⟩), undef, undef, undef, undef, undef, undef, undef, undef, undef, undef, undef, undef, undef, undef, undef], defers := [] }) rfl (by kernel_rfl) (by kernel_rfl) (by kernel_rfl) (fun _ _ _ h => h) (.inl ⟨rfl, fun w' _ => by go_simp⟩) hS rfl ?_
        refine takeA (i := 4) (v := .int .i64 Y.2.f) ({ tmps := #[.slice ao ln cap, undef, .pointer (some ⟨w.heap.size, 0, none⟩), .int .i64 0, .pointer (some ⟨S, 0, none⟩), .pointer (some ⟨M, 0, none⟩), undef, u7, .slice ao ln cap, .int .i64 ↑ln, .bool (decide (8000 < (ln : Int))), undef, .slice ao ln cap, .pointer (some ⟨R, 0, none⟩), .agg #[.pointer (some ⟨R, 0, none⟩), .int .i64 0], .pointer (some ⟨S, 0, none⟩), .pointer (some ⟨S, 0, none⟩), .int .u8 a.1, .pointer (some ⟨S, 0, none⟩), .int .u8 b.1, .pointer (some ⟨S, 0, none⟩), .int .u8 c.1, .pointer (some ⟨S, 0, none⟩), .int .u8 d.1, .agg D0, .pointer (some ⟨M, 0, none⟩), .int .u8 a.1, .slice ao2 j j, .int .i64 ↑j, .int .i64 ↑j, .bool false, u31, u32, u33, u34, u35, u36, .bool (Y.2.f != 0), .pointer (some ⟨S, 0, none⟩), .pointer (some ⟨S, 0, none⟩), .pointer (some ⟨S, 1, none⟩), .int .i64 Y.2.f, .bool (Y.2.f != 0), .agg (hm 0 0 0 0).cells.toArray, .pointer (some ⟨S, 0, none⟩), .pointer (some ⟨S, 0, none⟩), .pointer (some ⟨S, 1, none⟩), .int .i64 Y.2.f, undef, undef, undef, undef, undef, undef, undef, undef, undef, undef, undef, undef, undef, undef], defers := [] }) rfl (by kernel_rfl) (by kernel_rfl) (by kernel_rfl) (fun _ _ _ h => h) (yi_load 40 (.tmp 46) _ rfl rfl rfl (fun w' h => err_load h)) hS rfl ?_
        have TGD := Lib.hid (show wr.drew.heap[w.heap.size]? = some (.cells Vz.toArray 37 (0, 0)) from TG0.out)
        have TBD := Lib.hid (TB.out.drew)
        clear TG0 TB
        have TG0 := TGD
        have TB := TBD
        clear TGD TBD
        obtain ⟨wz, hwz⟩ : ∃ wz, wz = wr.drew.setCells w.heap.size 0 (hm 0 0 0 0).cells := ⟨_, rfl⟩
        have hth := there_row (n := 25) TG0.out rfl
        have hkk := kept_setCells (w := wr.drew) (g := w.heap.size) (o := 0) (vs := (hm 0 0 0 0).cells)
        rw [← hwz] at hkk
        have HBEL := Lib.hid (show Below w.heap.size w wz from TB.out.trans (hkk.below (B := w.heap.size) TB.out.size (fun k e => by omega)))
        have HBLK := Lib.hid (show wz.heap[w.heap.size]? = some (.cells (hm 0 0 0 0).cells.toArray 37 (0, 0)) by rw [hwz, setCells_block _ 37 _ _ _ _ TG0.out, over_zero])
        have HKK := Lib.hid hkk
        have hrun := run_storeAt_mid (P := Tryd.prog) wr.drew w.heap.size 0 37 (hm 0 0 0 0).cells.toArray hth size37 (all_oneCell_toArray (Mg.one _))
        simp only at hrun
        rw [← hwz] at hrun
        refine wpAnyH_ready (rs := [5]) (by kernel_rfl) (by simp) ?_
        refine AllReadyH.cons rfl (fun K hK => ?_) AllReadyH.nil
        rw [if_pos (by rfl)]
        refine wp_st hrun rfl rfl rfl rfl ?_
        have HSS := Lib.hid (show wz.cell? ⟨S, 1, none⟩ = some (.int .i64 Y.2.f) from by rw [World.cell?_of_block (w := wr.drew) (hkk.block S (cell_block (a := ⟨S, 1, none⟩) hS) (by have := HSB.out; omega))]; exact hS)
        refine hK.out ({ tmps := #[.slice ao ln cap, undef, .pointer (some ⟨w.heap.size, 0, none⟩), .int .i64 0, .pointer (some ⟨S, 0, none⟩), .pointer (some ⟨M, 0, none⟩), undef, u7, .slice ao ln cap, .int .i64 ↑ln, .bool (decide (8000 < (ln : Int))), undef, .slice ao ln cap, .pointer (some ⟨R, 0, none⟩), .agg #[.pointer (some ⟨R, 0, none⟩), .int .i64 0], .pointer (some ⟨S, 0, none⟩), .pointer (some ⟨S, 0, none⟩), .int .u8 a.1, .pointer (some ⟨S, 0, none⟩), .int .u8 b.1, .pointer (some ⟨S, 0, none⟩), .int .u8 c.1, .pointer (some ⟨S, 0, none⟩), .int .u8 d.1, .agg D0, .pointer (some ⟨M, 0, none⟩), .int .u8 a.1, .slice ao2 j j, .int .i64 ↑j, .int .i64 ↑j, .bool false, u31, u32, u33, u34, u35, u36, .bool (Y.2.f != 0), .pointer (some ⟨S, 0, none⟩), .pointer (some ⟨S, 0, none⟩), .pointer (some ⟨S, 1, none⟩), .int .i64 Y.2.f, .bool (Y.2.f != 0), .agg (hm 0 0 0 0).cells.toArray, .pointer (some ⟨S, 0, none⟩), .pointer (some ⟨S, 0, none⟩), .pointer (some ⟨S, 1, none⟩), .int .i64 Y.2.f, undef, undef, undef, undef, undef, undef, undef, undef, undef, undef, undef, undef, undef, undef], defers := [] }) wz HSS.out (fun hS => ?_)
        clear hK K hrun hth hkk hwz
        refine takeA (i := 6) (v := .int .i64 Y.2.f) ({ tmps := #[.slice ao ln cap, undef, .pointer (some ⟨w.heap.size, 0, none⟩), .int .i64 Y.2.f, .pointer (some ⟨S, 0, none⟩), .pointer (some ⟨M, 0, none⟩), undef, u7, .slice ao ln cap, .int .i64 ↑ln, .bool (decide (8000 < (ln : Int))), undef, .slice ao ln cap, .pointer (some ⟨R, 0, none⟩), .agg #[.pointer (some ⟨R, 0, none⟩), .int .i64 0], .pointer (some ⟨S, 0, none⟩), .pointer (some ⟨S, 0, none⟩), .int .u8 a.1, .pointer (some ⟨S, 0, none⟩), .int .u8 b.1, .pointer (some ⟨S, 0, none⟩), .int .u8 c.1, .pointer (some ⟨S, 0, none⟩), .int .u8 d.1, .agg D0, .pointer (some ⟨M, 0, none⟩), .int .u8 a.1, .slice ao2 j j, .int .i64 ↑j, .int .i64 ↑j, .bool false, u31, u32, u33, u34, u35, u36, .bool (Y.2.f != 0), .pointer (some ⟨S, 0, none⟩), .pointer (some ⟨S, 0, none⟩), .pointer (some ⟨S, 1, none⟩), .int .i64 Y.2.f, .bool (Y.2.f != 0), .agg (hm 0 0 0 0).cells.toArray, .pointer (some ⟨S, 0, none⟩), .pointer (some ⟨S, 0, none⟩), .pointer (some ⟨S, 1, none⟩), .int .i64 Y.2.f, undef, undef, undef, undef, undef, undef, undef, undef, undef, undef, undef, undef, undef, undef], defers := [] }) rfl (by kernel_rfl) (by kernel_rfl) (by kernel_rfl) (fun _ _ _ h => h) (.inl ⟨rfl, fun _ _ => rfl⟩) hS rfl ?_
        refine wpAnyH_done (by kernel_rfl) ?_ _
        clear hS
        go_wp2_with fail
        (try simp only [Exit.inBlock, Exit.then])
        refine bodyPost_ret (v := .tuple #[.agg (hm 0 0 0 0).cells.toArray, .int .i64 Y.2.f]) ?_ rfl ⟨(hm 0 0 0 0), cc, Y.2.f, rfl, .inr ⟨HF.out, rfl, .inl (by rw [← EY.out]; exact HF.out)⟩, HBEL.out⟩
        rw [results_cell_tmp rfl]
        have hlv := run_loadVar_row (P := Tryd.prog) wz w.heap.size 37 37 _ (0, 0) _ HBLK.out Tryd.underlying37 rfl size37
        show ((asAddr (.pointer (some ⟨w.heap.size, 0, none⟩))).run Tryd.prog wz).andThen (fun a w₁ => ((loadVar 37 a).run Tryd.prog w₁).andThen fun v w₂ => .ok (Value.tuple #[v, Value.int .i64 Y.2.f]) w₂) = _
        simp only [asAddr, Sem.run_pure, Result.andThen_ok, hlv]
end Go.Proofs.YtmkeckablkccnaaDoor
