/- Decode, of whatever bytes. What is read well off some bytes is read so with more behind them. What is read well is what stood there. What was written is read. What was encoded is decoded: the bytes of a message are read as that message. -/
import Derived.Test.YtbpfkeeikhhlnaaGreatDoorC07
import Derived.Test.YtbpfkeeikhhlnaaGreatDoorR03
import Derived.Test.YtbpfkeeikhhlnaaGreatDoorR04
import Derived.Test.YtbpfkeeikhhlnaaGreatDoorR01
namespace Go.Proofs.YtbpfkeeikhhlnaaGreatDoor
open Go.RowKit
set_option maxRecDepth 100000

def zeroQ (k f t e : Int) : Mq := ⟨{ k := k, f := f, t := t, e := e, vw := 0, sq := 0, rq := Rq.zero, ro := 0, ct := 0, pg := 0, rs := 0 }, ⟨0, 0, 0, 0, ⟨[], [], []⟩⟩, [], [], []⟩
def pHd (s : Sr) : Mq × Sr :=
  let a := p8 s; let b := p8 a.2; let c := p8 b.2; let d := p8 c.2
  (zeroQ a.1 b.1 c.1 d.1, d.2)
def pFold (ps : List Int) (y : Mq × Sr) : Mq × Sr := ps.foldl (fun y p => pPart p y.1 y.2) y
/-- all of it: the head, then the parts of its kind -/
def pAll (l : List Int) : Mq × Sr := pFold (partsOf (p8 ⟨l, 0⟩).1) (pHd ⟨l, 0⟩)
theorem pFold_next {ps : List Int} {j : Nat} {p : Int} (y : Mq × Sr) (h : ps[j]? = some p) : pFold (ps.take (j + 1)) y = pPart p (pFold (ps.take j) y).1 (pFold (ps.take j) y).2 := by
  unfold pFold
  rw [List.take_add_one, h, List.foldl_append]
  rfl
theorem pFold_ok (ps : List Int) : ∀ y : Mq × Sr, MqOk y.1 → SrOk y.2 → MqOk (pFold ps y).1 ∧ SrOk (pFold ps y).2 := by
  induction ps with
  | nil => intro y h1 h2; exact ⟨h1, h2⟩
  | cons p r ih =>
    intro y h1 h2
    obtain ⟨a, b⟩ := pPart_ok p h1 h2
    exact ih (pPart p y.1 y.2) a b
theorem pHd_ok {s : Sr} (h : SrOk s) : MqOk (pHd s).1 ∧ SrOk (pHd s).2 :=
  ⟨⟨⟨fun x hx => (by cases hx), fun x hx => (by cases hx)⟩, fun v hv => (by cases hv)⟩, gN_ok 1 _ (gN_ok 1 _ (gN_ok 1 _ (gN_ok 1 _ h)))⟩
def FOk (s : Sr) : Prop := s.f = 0 ∨ s.f = 20 ∨ s.f = 21 ∨ s.f = 30
theorem gN_f {k : Nat} {num : List Int → Int} {s : Sr} (h : FOk s) : FOk (gN k num s).2 := by
  unfold gN
  split
  · split
    · exact .inl rfl
    · exact .inr (.inl rfl)
  · exact h
theorem pRq_f {s : Sr} (h : FOk s) : FOk (pRq s).2 := gN_f (gN_f (gN_f (gN_f (gN_f h))))
theorem pMk_f {s : Sr} (h : FOk s) : FOk (pMk s).2 := gN_f (gN_f h)
theorem pEn_f {s : Sr} (h : FOk s) : FOk (pEn s).2 := pRq_f (gN_f (gN_f h))
theorem pN_f {α : Type} {one : Sr → α × Sr} (h1 : ∀ s, FOk s → FOk (one s).2) {s : Sr} (h : FOk s) : ∀ j, FOk (pN one s j).2
  | 0 => h
  | j + 1 => h1 _ (pN_f h1 h j)
theorem pL_f {α : Type} {one : Sr → α × Sr} (h1 : ∀ s, FOk s → FOk (one s).2) {n most : Nat} {s : Sr} (h : FOk s) : FOk (pL one n most s).2 := by
  unfold pL
  split
  · split
    · exact pN_f h1 h n
    · exact .inr (.inr (.inr rfl))
  · exact h
theorem pVt_f {s : Sr} (h : FOk s) : FOk (pVt s).2 := pL_f (fun _ => pEn_f) (gN_f (pL_f (fun _ => pEn_f) (gN_f (pL_f (fun _ => pMk_f) (gN_f (gN_f (gN_f (gN_f (gN_f h)))))))))
theorem pDt_f {s : Sr} (h : FOk s) : FOk (pDt s).2 := by
  unfold pDt
  split
  · split
    · split
      · exact .inr (.inr (.inl rfl))
      · split
        · exact .inl rfl
        · exact .inr (.inl rfl)
    · exact .inr (.inl rfl)
  · exact h
theorem pPart_f {p : Int} {x : Mq} {s : Sr} (h : FOk s) : FOk (pPart p x s).2 := by
  unfold pPart
  split
  · exact gN_f h
  split
  · exact gN_f h
  split
  · exact pRq_f h
  split
  · exact gN_f h
  split
  · exact gN_f h
  split
  · exact gN_f h
  split
  · exact gN_f h
  split
  · exact pVt_f h
  split
  · exact pL_f (fun _ => pVt_f) (gN_f h)
  split
  · exact pL_f (fun _ => gN_f) h
  · exact pDt_f h
theorem pFold_f : ∀ (ps : List Int) {y : Mq × Sr}, FOk y.2 → FOk (pFold ps y).2
  | [], _, h => h
  | p :: ps, y, h => pFold_f ps (y := pPart p y.1 y.2) (pPart_f h)
theorem pAll_f (l : List Int) : FOk (pAll l).2 := pFold_f _ (gN_f (gN_f (gN_f (gN_f (s := ⟨l, 0⟩) (.inl rfl)))))
/-- what Decode tells: a message, or what is amiss -/
def DecD (w' : World) (l : List Int) (m : Mg) (c : Mc) (err : Int) : Prop :=
  (err = 0 ∧ (pAll l).2.f = 0 ∧ (pAll l).2.l = [] ∧ isM m c = true ∧ MgAt w' m c ∧ McOk c ∧ RelQ m c (pAll l).1) ∨
  (err ≠ 0 ∧ m = hm 0 0 0 0 ∧ ((pAll l).2.f ≠ 0 ∨ (pAll l).2.l ≠ [] ∨ ∃ w2 m' c', MgAt w2 m' c' ∧ RelQ m' c' (pAll l).1 ∧ isM m' c' = false) ∧ (err = 20 ∨ err = 21 ∨ err = 30))
theorem parts_len (k : Int) : (partsOf k).length ≤ 3 := by
  by_cases h : 1 ≤ k ∧ k ≤ 14
  · have hc : k = 1 ∨ k = 2 ∨ k = 3 ∨ k = 4 ∨ k = 5 ∨ k = 6 ∨ k = 7 ∨ k = 8 ∨ k = 9 ∨ k = 10 ∨ k = 11 ∨ k = 12 ∨ k = 13 ∨ k = 14 := by omega
    rcases hc with rfl | rfl | rfl | rfl | rfl | rfl | rfl | rfl | rfl | rfl | rfl | rfl | rfl | rfl
    all_goals decide
  · have e : partsOf k = [] := by
      unfold partsOf
      simp only [show ¬ k = 1 from by omega, show ¬ k = 2 from by omega, show ¬ k = 3 from by omega, show ¬ k = 4 from by omega, show ¬ k = 5 from by omega, show ¬ k = 6 from by omega, show ¬ k = 7 from by omega, show ¬ k = 8 from by omega, show ¬ k = 9 from by omega, show ¬ k = 10 from by omega, show ¬ k = 11 from by omega, show ¬ k = 12 from by omega, show ¬ k = 13 from by omega, show ¬ k = 14 from by omega, if_false]
    rw [e]; simp
theorem err_load {w' : World} {S : Nat} {f : Int} (h : w'.cell? ⟨S, 1, none⟩ = some (.int .i64 f)) : (Instr.loadAt 41 (.pointer (some ⟨S, 1, none⟩))).run Tryz.prog w' = .ok (.int .i64 f) w' := by go_simp
theorem zero_at (w : World) (k f t e : Int) : MgAt w (hm k f t e) Mc.nil := nil_at w _ ⟨rfl, rfl, rfl⟩ rfl rfl rfl
theorem zero_new (H : Nat) (k f t e : Int) : NewM H (hm k f t e) Mc.nil := ⟨⟨fun ad e => (by cases e), fun ad e => (by cases e), fun ad e => (by cases e)⟩, ⟨fun ad e => (by cases e), fun x hx => (by cases hx)⟩, fun ad e => (by cases e), fun ad e => (by cases e)⟩

set_option maxHeartbeats 16000000 in
theorem decode_any (w : World) (ao : Option Addr) (cap : Nat) (l : List Int) (hb : Bytes w ao l) (hnone : ao = none → l = [] ∧ cap = 0) (hl : l.length ≤ 8000) (hby : ∀ x ∈ l, isByte x) (ht : Tab w) :
    Calls Tryz.prog 20 #[.slice ao l.length cap] w fun e w' => ∃ m c err, e = .returned (.tuple #[.agg m.cells.toArray, .int .i64 err]) ∧ DecD w' l m c err ∧ Below w.heap.size w w' := by
  obtain ⟨W, hW⟩ : ∃ W, W = w.alloc (.cells Vz.toArray 37) := ⟨_, rfl⟩
  have hbl := bl1 hW
  have hsz : W.heap.size = w.heap.size + 1 := by rw [hW]; simp
  have hg0 : W.heap[w.heap.size]? = some (.cells Vz.toArray 37 (0, 0)) := by rw [hW]; exact heap_alloc_new _ _
  have CO := Lib.hid (open_b W ao cap l (bytes_below hb hbl (Nat.le_refl _)) hnone (Nat.le_trans hl (by decide)) hby)
  have HT := Lib.hid (fun w' (h : Below w.heap.size w w') => Tab.on ht h)
  have HOK := Lib.hid (pFold_ok (partsOf (p8 ⟨l, 0⟩).1) _ (pHd_ok (s := ⟨l, 0⟩) hby).1 (pHd_ok (s := ⟨l, 0⟩) hby).2)
  have HBL := Lib.hid hbl
  have HSZ := Lib.hid hsz
  have HG0 := Lib.hid hg0
  have HW := Lib.hid hW
  have HLL := Lib.hid hl
  clear hb hnone hby hbl hg0 hW hsz ht
  generalize hln : l.length = ln at *
  have HLN := Lib.hid hln
  clear hln
  simp only [Vz] at HW
  go_enter Tryz.func20, Tryz.ntmps20
  go_upto_region 1 with fail
  rw [← HW.out]
  clear HW
  go_wp2_with fail
  refine Calls.mono CO.out ?_
  rintro e1 w1 ⟨R, rfl, hR, hrd, hb1⟩
  obtain ⟨w2, hw2⟩ : ∃ w2, w2 = w1.alloc (.cells #[.pointer (some ⟨R, 0, none⟩), .int .i64 0] 94) := ⟨_, rfl⟩
  have hb2 : Below w1.heap.size w1 w2 := by rw [hw2]; exact (Below.refl _ _).alloc (Nat.le_refl _) _
  have hsat : Sat w2 w1.heap.size R ⟨l, 0⟩ := ⟨by rw [hw2]; exact heap_alloc_new _ _, hrd.below hb2, hrd.lt, by have := HLN.out; have := HLL.out; simp only; omega⟩
  have HS0 := Lib.hid hsat
  have B2 := Lib.hid (Below.up (W := W) hb1 hb2)
  have HRW := Lib.hid hR
  have HSW := Lib.hid (show W.heap.size ≤ w1.heap.size from hb1.size)
  have HW2 := Lib.hid hw2
  have HK0 := Lib.hid (Kept.refl (SR w1.heap.size R) w2)
  generalize hS : w1.heap.size = S at *
  clear hb2 hsat hrd hb1 hw2 hR CO
  go_wp2_with fail
  rw [← HW2.out]
  (try rw [hS])
  clear HW2 hS
  obtain ⟨a, ha⟩ : ∃ a, a = p8 ⟨l, 0⟩ := ⟨_, rfl⟩
  obtain ⟨b, hb⟩ : ∃ b, b = p8 a.2 := ⟨_, rfl⟩
  obtain ⟨c, hc⟩ : ∃ c, c = p8 b.2 := ⟨_, rfl⟩
  obtain ⟨d, hd⟩ : ∃ d, d = p8 c.2 := ⟨_, rfl⟩
  obtain ⟨Y, hY⟩ : ∃ Y, Y = pAll l := ⟨_, rfl⟩
  have hYa : Y = pFold (partsOf a.1) (zeroQ a.1 b.1 c.1 d.1, d.2) := by rw [hY, hd, hc, hb, ha]; rfl
  have hYok : MqOk Y.1 := by rw [hY]; exact HOK.out.1
  have Ea := Lib.hid ha
  have Eb := Lib.hid hb
  have Ec := Lib.hid hc
  have Ed := Lib.hid hd
  have EY := Lib.hid hY
  have EYa := Lib.hid hYa
  have HYK := Lib.hid hYok
  clear ha hb hc hd hY hYa hYok HOK
  have C := s8 _ S R _ HS0.out
  rw [← Ea.out] at C
  have CH := Lib.hid C
  clear C
  refine Calls.mono CH.out ?_
  rintro e w3 ⟨rfl, h, k⟩
  have HS1 := Lib.hid h
  have HK1 := Lib.hid (HK0.out.trans k (fun _ _ h => h))
  clear h k HS0 HK0 CH
  have C := s8 _ S R _ HS1.out
  rw [← Eb.out] at C
  have CH := Lib.hid C
  clear C
  go_wp2_with fail
  refine Calls.mono CH.out ?_
  rintro e w4 ⟨rfl, h, k⟩
  have HS2 := Lib.hid h
  have HK2 := Lib.hid (HK1.out.trans k (fun _ _ h => h))
  clear h k HS1 HK1 CH
  have C := s8 _ S R _ HS2.out
  rw [← Ec.out] at C
  have CH := Lib.hid C
  clear C
  go_wp2_with fail
  refine Calls.mono CH.out ?_
  rintro e w5 ⟨rfl, h, k⟩
  have HS3 := Lib.hid h
  have HK3 := Lib.hid (HK2.out.trans k (fun _ _ h => h))
  clear h k HS2 HK2 CH
  have C := s8 _ S R _ HS3.out
  rw [← Ed.out] at C
  have CH := Lib.hid C
  clear C
  go_wp2_with fail
  refine Calls.mono CH.out ?_
  rintro e w6 ⟨rfl, h, k⟩
  have HS4 := Lib.hid h
  have HK4 := Lib.hid (HK3.out.trans k (fun _ _ h => h))
  clear h k HS3 HK3 CH
  dsimp only
  refine ‹∀ (a : Act) (w : World), wpList Tryz.prog _ _ _ a w → _› _ _ ?_
  obtain ⟨U, hU⟩ : ∃ U, U = (w6.alloc (.cells Vz.toArray 37)).setCells w6.heap.size 0 (hm a.1 b.1 c.1 d.1).cells := ⟨_, rfl⟩
  obtain ⟨hUM, hUb, hth⟩ := msg_new w6 _ hU
  have BV : Below w.heap.size w w6 := by
    have h5 : Below W.heap.size W w6 := B2.out.trans (HK4.out.below (B := W.heap.size) B2.out.size (fun k e => by rcases e with e | e; rw [e]; exact HSW.out; rw [e]; exact HRW.out))
    exact HBL.out.trans (h5.mono HBL.out.size)
  have hG4 : w6.heap[w.heap.size]? = some (.cells Vz.toArray 37 (0, 0)) := by
    rw [HK4.out.block _ (Nat.lt_of_lt_of_le (lt_of_block HG0.out) B2.out.size) (fun e => by have h1 := HSZ.out; rcases e with e | e; have := HSW.out; omega; have := HRW.out; omega), B2.out.block _ (lt_of_block HG0.out)]
    exact HG0.out
  have HLS := Lib.hid (show S < w6.heap.size from HS4.out.lt.1)
  have HLR := Lib.hid (show R < w6.heap.size from HS4.out.lt.2)
  have HJ0 : Hid (DecJ w S R w6.heap.size w.heap.size U (hm a.1 b.1 c.1 d.1) Mc.nil (zeroQ a.1 b.1 c.1 d.1, d.2)) := Lib.hid ⟨⟨hUM, zero_at _ _ _ _ _, zero_new _ _ _ _ _, rfl, rfl, rfl, rfl, rfl⟩, HS4.out.on hUb, (hUb.block _ (lt_of_block hG4)).trans hG4, BV.trans (hUb.mono BV.size)⟩
  have HTH := Lib.hid hth
  have HU := Lib.hid hU
  have HMB := Lib.hid (show w.heap.size < w6.heap.size from lt_of_block hG4)
  have HRB := Lib.hid (show w.heap.size < R by have := HRW.out; have := HSZ.out; omega)
  have HSB := Lib.hid (show w.heap.size < S by have := HSW.out; have := HSZ.out; omega)
  clear hUM hUb hth BV hG4 hU HS4 HK4
  obtain ⟨M, hM⟩ : ∃ M, M = w6.heap.size := ⟨_, rfl⟩
  have HME := Lib.hid hM
  refine wpl_val (v := .agg (hm a.1 b.1 c.1 d.1).cells.toArray) (w1 := w6) rfl (by simp only [hm, Mg.cells, Rq.zero, Vt.zero]; go_simp) _ rfl ?_
  refine wpl_val (v := .pointer (some ⟨w6.heap.size, 0, none⟩)) (w1 := w6.alloc (.cells Vz.toArray 37)) rfl (by simp only [Vz]; go_simp) _ rfl ?_
  refine wpList_store_mid rfl 37 (.tmp 5) (.tmp 24) rfl w6.heap.size 0 (hm a.1 b.1 c.1 d.1).cells.toArray rfl rfl HTH.out size37 (all_oneCell_toArray (Mg.one _)) ?_
  dsimp only
  rw [← HU.out, ← hM]
  rw [← hM] at HLS HLR HJ0 HMB
  clear HTH HU hM
  have q0 : U.cell? ⟨M, 0, none⟩ = some (.int .u8 a.1) := HJ0.out.mq.cell 0
  generalize (hm a.1 b.1 c.1 d.1).cells.toArray = D0
  go_wp2_with fail
  clear q0
  refine Calls.mono (parts_new a.1 U) ?_
  rintro e6 wp ⟨ao2, rfl, hby2, hnb2, hbp⟩
  obtain ⟨x0, hx0⟩ : ∃ x0, x0 = (zeroQ a.1 b.1 c.1 d.1, d.2) := ⟨_, rfl⟩
  rw [← hx0] at HJ0 EYa
  have HPL := Lib.hid (parts_len a.1)
  have HPR := Lib.hid (partsOf_le a.1)
  have HJP := Lib.hid (HJ0.out.on hbp)
  have HBY := Lib.hid hby2
  have HNB := Lib.hid hnb2
  have HU1 := Lib.hid (show M < U.heap.size from lt_of_block HJ0.out.mq.box)
  generalize hps : partsOf a.1 = ps at *
  generalize hnp : ps.length = np at *
  have HNP := Lib.hid hnp
  have hnp3 : np ≤ 3 := HPL.out
  clear hby2 hnb2 hbp HJ0 hps hnp hx0 HPL
  go_wp2_with fail
  go_loopw [7, 29] (fun _ vi wr => ∃ (j : Nat) (m : Mg) (c : Mc), j ≤ np ∧ vi = .int .i64 j ∧ Hid (DecJ w S R M w.heap.size wr m c (pFold (ps.take j) x0)) ∧ Hid (Bytes wr ao2 ps)) (fun _ i _ => np - (intOf i).toNat)
  case atStart => exact ⟨0, _, _, Nat.zero_le _, rfl, HJP, HBY⟩
  case round =>
    obtain ⟨j, m, cc, hj, rfl, HJ, HBW⟩ := hrel
    clear HJP HBY
    by_cases hlt : j < np
    · obtain ⟨p, hp⟩ : ∃ p, ps[j]? = some p := ⟨_, List.getElem?_eq_getElem (by rw [HNP.out]; exact hlt)⟩
      obtain ⟨ad, rfl, hcell⟩ := HBW.out j (by rw [HNP.out]; exact hlt)
      have hpd : ps.getD j 0 = p := by rw [List.getD_eq_getElem?_getD, hp]; rfl
      rw [hpd] at hcell
      have F := read_any p (HPR.out p (List.mem_of_getElem? hp)) wr S R M _ m cc _ HJ.out.sat HJ.out.mq HLS.out HLR.out
      rw [← pFold_next x0 hp] at F
      have FH := Lib.hid F
      have HB7 := Lib.hid (fun w7 (h3 : Kept (SRM S R M) wr w7) => bytes_kept HBW.out h3 (fun ad' e _ hb => by
        have h8 := HNB.out ad' e
        have h9 := HU1.out
        have hs := HLS.out
        have hr := HLR.out
        rcases hb with (hb | hb) | hb
        · omega
        · omega
        · omega))
      clear hpd F hp
      go_wp2_with fail
      refine Calls.mono FH.out ?_
      rintro e7 w7 ⟨rfl, m', c', h1, h2, h3⟩
      have HN : Hid (DecJ w S R M w.heap.size w7 m' c' (pFold (ps.take (j + 1)) x0)) := by
        have hms := HMB.out
        have hrs := HRB.out
        have hss := HSB.out
        refine Lib.hid ⟨h1, h2, ?_, ?_⟩
        · rw [h3.block _ (lt_of_block HJ.out.g0) (fun e => by rcases e with (e | e) | e; omega; omega; omega)]
          exact HJ.out.g0
        · exact HJ.out.bel.trans (h3.below (B := w.heap.size) HJ.out.bel.size (fun k e => by rcases e with (e | e) | e; omega; omega; omega))
      have HBN := Lib.hid (HB7.out w7 h3)
      clear h1 h2 h3 HB7 FH
      go_wp2_with fail
      go_round
      case measure => simp [intOf]; omega
      case rel => exact ⟨j + 1, m', c', by omega, by go_num, HN, HBN⟩
    · obtain rfl : j = np := by omega
      have hjy : pFold (ps.take j) x0 = Y := by rw [EYa.out, List.take_of_length_le (by rw [HNP.out]; exact Nat.le_refl _)]
      rw [hjy] at HJ
      have hsf := HJ.out.sat.cell1
      have TG0 := Lib.hid HJ.out.g0
      have TB := Lib.hid HJ.out.bel
      clear hjy
      by_cases hf : Y.2.f = 0
      · rw [hf] at hsf
        have HF := Lib.hid hf
        clear hf
        have CI := Lib.hid (is_all wr m cc HJ.out.mq.dat (HJ.out.mq.ok HYK.out) (HT.out wr HJ.out.bel))
        go_upto_region 12 with fail
        refine wp_region_lit ?_
        refine wpList_load_row rfl 37 (.tmp 5) rfl M rfl 37 _ (0, 0) _ HJ.out.mq.box Tryz.underlying37 rfl size37 ?_
        go_wp2_with fail
        refine Calls.mono CI.out ?_
        rintro e8 w8 ⟨rfl, hb8⟩
        have TG8 := Lib.hid ((hb8.block _ (lt_of_block TG0.out)).trans TG0.out)
        have TB8 := Lib.hid (TB.out.trans (hb8.mono TB.out.size))
        have HS8 := Lib.hid (HJ.out.sat.on hb8)
        have HM8 := Lib.hid (HJ.out.mq.below hb8)
        have HREL := Lib.hid HJ.out.mq.rel
        have HMOK := Lib.hid (HJ.out.mq.ok HYK.out)
        clear hb8 CI HJ TG0 TB hsf
        have TG0 := TG8
        have TB := TB8
        clear TG8 TB8
        cases hi : isM m cc
        · have HI := Lib.hid hi
          clear hi
          go_upto_region 13 with fail
          obtain ⟨wz, hwz⟩ : ∃ wz, wz = w8.setCells w.heap.size 0 (hm 0 0 0 0).cells := ⟨_, rfl⟩
          have hth := there_row (n := 25) TG0.out rfl
          have hkk := kept_setCells (w := w8) (g := w.heap.size) (o := 0) (vs := (hm 0 0 0 0).cells)
          rw [← hwz] at hkk
          have HBEL := Lib.hid (show Below w.heap.size w wz from TB.out.trans (hkk.below (B := w.heap.size) TB.out.size (fun k e => by omega)))
          have HBLK := Lib.hid (show wz.heap[w.heap.size]? = some (.cells (hm 0 0 0 0).cells.toArray 37 (0, 0)) by rw [hwz, setCells_block _ 37 _ _ _ _ TG0.out, over_zero])
          have HKK := Lib.hid hkk
          have HTH := Lib.hid hth
          have HWZ := Lib.hid hwz
          clear hwz hth hkk
          refine wp_region_lit ?_
          refine wpl_val (v := .agg (hm 0 0 0 0).cells.toArray) (w1 := w8) rfl (by simp only [hm, Mg.cells, Rq.zero, Vt.zero]; go_simp) _ rfl ?_
          refine wpList_store_mid rfl 37 (.tmp 2) (.tmp 52) rfl w.heap.size 0 (hm 0 0 0 0).cells.toArray rfl rfl HTH.out size37 (all_oneCell_toArray (Mg.one _)) ?_
          dsimp only
          rw [← HWZ.out]
          clear HWZ HTH
          go_wp2_with fail
          (try simp only [Exit.inBlock, Exit.then])
          refine bodyPost_ret (v := .tuple #[.agg (hm 0 0 0 0).cells.toArray, .int .i64 30]) ?_ rfl ⟨(hm 0 0 0 0), cc, 30, rfl, .inr ⟨by decide, rfl, .inr (.inr ⟨w8, m, cc, HM8.out.dat, by rw [← EY.out]; exact HREL.out, HI.out⟩), .inr (.inr rfl)⟩, HBEL.out⟩
          rw [results_cell_tmp rfl]
          have hlv := run_loadVar_row (P := Tryz.prog) wz w.heap.size 37 37 _ (0, 0) _ HBLK.out Tryz.underlying37 rfl size37
          show ((asAddr (.pointer (some ⟨w.heap.size, 0, none⟩))).run Tryz.prog wz).andThen (fun a w₁ => ((loadVar 37 a).run Tryz.prog w₁).andThen fun v w₂ => .ok (Value.tuple #[v, Value.int .i64 30]) w₂) = _
          simp only [asAddr, Sem.run_pure, Result.andThen_ok, hlv]
        · have HI := Lib.hid hi
          clear hi
          have hs0 := HS8.out.cell0
          go_wp2_with fail
          refine Calls.mono (left_any w8 R _ HS8.out.rd.toRd) ?_
          rintro e9 w9 ⟨rfl, rfl⟩
          clear hs0
          by_cases hz : Y.2.l = []
          · have hz0 : Y.2.l.length = 0 := by rw [hz]; rfl
            have HZ := Lib.hid hz
            clear hz
            rw [hz0]
            clear hz0
            go_upto_region 16 with fail
            obtain ⟨wz, hwz⟩ : ∃ wz, wz = w8.setCells w.heap.size 0 m.cells := ⟨_, rfl⟩
            have hth := there_row (n := 25) TG0.out rfl
            have hkk := kept_setCells (w := w8) (g := w.heap.size) (o := 0) (vs := m.cells)
            rw [← hwz] at hkk
            have HBEL := Lib.hid (show Below w.heap.size w wz from TB.out.trans (hkk.below (B := w.heap.size) TB.out.size (fun k e => by omega)))
            have HBLK := Lib.hid (show wz.heap[w.heap.size]? = some (.cells m.cells.toArray 37 (0, 0)) by rw [hwz, setCells_block _ 37 _ _ _ _ TG0.out, over_zero])
            have HKK := Lib.hid hkk
            have HTH := Lib.hid hth
            have HWZ := Lib.hid hwz
            have HFA := Lib.hid (HM8.out.dat.new (T := fun k => k = w.heap.size) HKK.out HM8.out.new (fun b e => by have := HMB.out; omega))
            clear hwz hth hkk
            refine wp_region_lit ?_
            refine wpList_load_row rfl 37 (.tmp 5) rfl M rfl 37 _ (0, 0) _ HM8.out.box Tryz.underlying37 rfl size37 ?_
            refine wpList_store_mid rfl 37 (.tmp 2) (.tmp 61) rfl w.heap.size 0 m.cells.toArray rfl rfl HTH.out size37 (all_oneCell_toArray (Mg.one _)) ?_
            dsimp only
            rw [← HWZ.out]
            clear HWZ HTH
            go_wp2_with fail
            (try simp only [Exit.inBlock, Exit.then])
            refine bodyPost_ret (v := .tuple #[.agg m.cells.toArray, .int .i64 0]) ?_ rfl ⟨m, cc, 0, rfl, .inl ⟨rfl, by rw [← EY.out]; exact HF.out, by rw [← EY.out]; exact HZ.out, HI.out, HFA.out, HMOK.out, by rw [← EY.out]; exact HREL.out⟩, HBEL.out⟩
            rw [results_cell_tmp rfl]
            have hlv := run_loadVar_row (P := Tryz.prog) wz w.heap.size 37 37 _ (0, 0) _ HBLK.out Tryz.underlying37 rfl size37
            show ((asAddr (.pointer (some ⟨w.heap.size, 0, none⟩))).run Tryz.prog wz).andThen (fun a w₁ => ((loadVar 37 a).run Tryz.prog w₁).andThen fun v w₂ => .ok (Value.tuple #[v, Value.int .i64 0]) w₂) = _
            simp only [asAddr, Sem.run_pure, Result.andThen_ok, hlv]
          · have hpos : 0 < Y.2.l.length := List.length_pos_iff.2 hz
            have HZ := Lib.hid hz
            clear hz
            generalize Y.2.l.length = nl at *
            go_upto_region 15 with fail
            obtain ⟨wz, hwz⟩ : ∃ wz, wz = w8.setCells w.heap.size 0 (hm 0 0 0 0).cells := ⟨_, rfl⟩
            have hth := there_row (n := 25) TG0.out rfl
            have hkk := kept_setCells (w := w8) (g := w.heap.size) (o := 0) (vs := (hm 0 0 0 0).cells)
            rw [← hwz] at hkk
            have HBEL := Lib.hid (show Below w.heap.size w wz from TB.out.trans (hkk.below (B := w.heap.size) TB.out.size (fun k e => by omega)))
            have HBLK := Lib.hid (show wz.heap[w.heap.size]? = some (.cells (hm 0 0 0 0).cells.toArray 37 (0, 0)) by rw [hwz, setCells_block _ 37 _ _ _ _ TG0.out, over_zero])
            have HKK := Lib.hid hkk
            have HTH := Lib.hid hth
            have HWZ := Lib.hid hwz
            clear hwz hth hkk
            refine wp_region_lit ?_
            refine wpl_val (v := .agg (hm 0 0 0 0).cells.toArray) (w1 := w8) rfl (by simp only [hm, Mg.cells, Rq.zero, Vt.zero]; go_simp) _ rfl ?_
            refine wpList_store_mid rfl 37 (.tmp 2) (.tmp 60) rfl w.heap.size 0 (hm 0 0 0 0).cells.toArray rfl rfl HTH.out size37 (all_oneCell_toArray (Mg.one _)) ?_
            dsimp only
            rw [← HWZ.out]
            clear HWZ HTH
            go_wp2_with fail
            (try simp only [Exit.inBlock, Exit.then])
            refine bodyPost_ret (v := .tuple #[.agg (hm 0 0 0 0).cells.toArray, .int .i64 21]) ?_ rfl ⟨(hm 0 0 0 0), cc, 21, rfl, .inr ⟨by decide, rfl, .inr (.inl (by rw [← EY.out]; exact HZ.out)), .inr (.inl rfl)⟩, HBEL.out⟩
            rw [results_cell_tmp rfl]
            have hlv := run_loadVar_row (P := Tryz.prog) wz w.heap.size 37 37 _ (0, 0) _ HBLK.out Tryz.underlying37 rfl size37
            show ((asAddr (.pointer (some ⟨w.heap.size, 0, none⟩))).run Tryz.prog wz).andThen (fun a w₁ => ((loadVar 37 a).run Tryz.prog w₁).andThen fun v w₂ => .ok (Value.tuple #[v, Value.int .i64 21]) w₂) = _
            simp only [asAddr, Sem.run_pure, Result.andThen_ok, hlv]
      · have hf2 : (Y.2.f == 0) = false := by simp [hf]
        have HF := Lib.hid hf
        clear hf
        go_upto_region 11 with fail
        refine wp_region_held_drew (S := fun w' => w'.cell? ⟨S, 1, none⟩ = some (.int .i64 Y.2.f)) (by kernel_rfl) (show wr.drew.cell? ⟨S, 1, none⟩ = some (.int .i64 Y.2.f) from hsf) (fun hS => ?_)
        clear hsf
        refine tk 0 (.agg (hm 0 0 0 0).cells.toArray) rfl (.inl ⟨rfl, fun w' _ => by simp only [hm, Mg.cells, Rq.zero, Vt.zero]; go_simp⟩) hS ?_
        refine tm 1 (.pointer (some ⟨S, 0, none⟩)) rfl hS ?_
        refine tg 2 (.pointer (some ⟨S, 0, none⟩)) rfl hS ?_
        refine tg 3 (.pointer (some ⟨S, 1, none⟩)) rfl hS ?_
        refine tk 4 (.int .i64 Y.2.f) rfl (yi_load 41 (.tmp 46) _ rfl rfl rfl (fun w' h => err_load h)) hS ?_
        have TGD := Lib.hid (show wr.drew.heap[w.heap.size]? = some (.cells Vz.toArray 37 (0, 0)) from TG0.out)
        have TBD := Lib.hid (TB.out.drew)
        clear TG0 TB
        have TG0 := TGD
        have TB := TBD
        clear TGD TBD
        obtain ⟨wz, hwz⟩ : ∃ wz, wz = wr.drew.setCells w.heap.size 0 (hm 0 0 0 0).cells := ⟨_, rfl⟩
        have hth := there_row (n := 25) TG0.out rfl
        have hkk := kept_setCells (w := wr.drew) (g := w.heap.size) (o := 0) (vs := (hm 0 0 0 0).cells)
        rw [← hwz] at hkk
        have HBEL := Lib.hid (show Below w.heap.size w wz from TB.out.trans (hkk.below (B := w.heap.size) TB.out.size (fun k e => by omega)))
        have HBLK := Lib.hid (show wz.heap[w.heap.size]? = some (.cells (hm 0 0 0 0).cells.toArray 37 (0, 0)) by rw [hwz, setCells_block _ 37 _ _ _ _ TG0.out, over_zero])
        have HKK := Lib.hid hkk
        have hrun := run_storeAt_mid (P := Tryz.prog) wr.drew w.heap.size 0 37 (hm 0 0 0 0).cells.toArray hth size37 (all_oneCell_toArray (Mg.one _))
        simp only at hrun
        rw [← hwz] at hrun
        refine rdy1 5 rfl (fun K hK => ?_)
        rw [if_pos (by rfl)]
        refine wp_st hrun rfl rfl rfl rfl ?_
        have HSS := Lib.hid (show wz.cell? ⟨S, 1, none⟩ = some (.int .i64 Y.2.f) from by rw [World.cell?_of_block (w := wr.drew) (hkk.block S (cell_block (a := ⟨S, 1, none⟩) hS) (by have := HSB.out; omega))]; exact hS)
        refine hK.out _ wz HSS.out (fun hS => ?_)
        clear hK K hrun hth hkk hwz
        refine tm 6 (.int .i64 Y.2.f) rfl hS ?_
        refine wpAnyH_done (by kernel_rfl) ?_ _
        clear hS
        go_wp2_with fail
        (try simp only [Exit.inBlock, Exit.then])
        refine bodyPost_ret (v := .tuple #[.agg (hm 0 0 0 0).cells.toArray, .int .i64 Y.2.f]) ?_ rfl ⟨(hm 0 0 0 0), cc, Y.2.f, rfl, .inr ⟨HF.out, rfl, .inl (by rw [← EY.out]; exact HF.out), by have hq := pAll_f l; rw [← EY.out] at hq; exact hq.resolve_left HF.out⟩, HBEL.out⟩
        rw [results_cell_tmp rfl]
        have hlv := run_loadVar_row (P := Tryz.prog) wz w.heap.size 37 37 _ (0, 0) _ HBLK.out Tryz.underlying37 rfl size37
        show ((asAddr (.pointer (some ⟨w.heap.size, 0, none⟩))).run Tryz.prog wz).andThen (fun a w₁ => ((loadVar 37 a).run Tryz.prog w₁).andThen fun v w₂ => .ok (Value.tuple #[v, Value.int .i64 Y.2.f]) w₂) = _
        simp only [asAddr, Sem.run_pure, Result.andThen_ok, hlv]

theorem pVt_eq {t : Sr} {a b c d n n2 n3 : Int × Sr} {x : List Mk × Sr} {y z : List En × Sr} (ha : a = p8 t) (hb : b = p8 a.2) (hc : c = p32 b.2) (hd : d = p32 c.2) (hn : n = p8 d.2) (hx : x = pL pMk n.1.toNat 40 n.2) (hn2 : n2 = p8 x.2) (hy : y = pL pEn n2.1.toNat 40 n2.2) (hn3 : n3 = p8 y.2) (hz : z = pL pEn n3.1.toNat 40 n3.2) : pVt t = (⟨a.1, b.1, c.1, d.1, ⟨x.1, y.1, z.1⟩⟩, z.2) := by
  rw [hz, hn3, hy, hn2, hx, hn, hd, hc, hb, ha]; rfl

/-- what p reads well is e of it, and what is left -/
structure Enc {α : Type} (p : Sr → α × Sr) (e : α → List Int) : Prop where
  back : ∀ s, (p s).2.f = 0 → s.f = 0
  was : ∀ s, SrOk s → (p s).2.f = 0 → s.l = e (p s).1 ++ (p s).2.l
  ok : ∀ s, SrOk s → SrOk (p s).2
theorem enc_gN (k : Nat) (num : List Int → Int) (e : Int → List Int) (h : ∀ l : List Int, k ≤ l.length → (∀ x ∈ l, isByte x) → l = e (num l) ++ l.drop k) : Enc (gN k num) e := by
  refine ⟨fun s hf => ?_, fun s hs hf => ?_, fun s hs => gN_ok k num hs⟩
  · unfold gN at hf
    split at hf
    · next h0 => exact h0
    · exact hf
  · unfold gN at hf ⊢
    by_cases h0 : s.f = 0
    · rw [if_pos h0] at hf ⊢
      by_cases hk : k ≤ s.l.length
      · rw [if_pos hk]; exact h s.l hk hs
      · rw [if_neg hk] at hf; simp at hf
    · rw [if_neg h0] at hf; exact absurd hf h0
theorem enc8 : Enc p8 (fun x => [x]) := enc_gN 1 _ _ (fun l hl hb => by
  match l, hl with
  | a :: r, _ => simp)
theorem enc16 : Enc p16 b2 := enc_gN 2 _ _ (fun l hl hb => by
  match l, hl with
  | a :: b :: r, _ =>
    have h1 := hb a (by simp)
    have h2 := hb b (by simp)
    unfold isByte at h1 h2
    simp only [rd16, b2, List.getD_cons_zero, List.getD_cons_succ, List.drop_succ_cons, List.drop_zero, List.cons_append, List.nil_append, List.cons.injEq, and_true]
    refine ⟨by omega, by omega⟩)
theorem enc32 : Enc p32 b4 := enc_gN 4 _ _ (fun l hl hb => by
  match l, hl with
  | a :: b :: c :: d :: r, _ =>
    have h1 := hb a (by simp)
    have h2 := hb b (by simp)
    have h3 := hb c (by simp)
    have h4 := hb d (by simp)
    unfold isByte at h1 h2 h3 h4
    simp only [rd32, b4, List.getD_cons_zero, List.getD_cons_succ, List.drop_succ_cons, List.drop_zero, List.cons_append, List.nil_append, List.cons.injEq, and_true]
    refine ⟨by omega, by omega, by omega, by omega⟩)
theorem Enc.then {α β γ : Type} {p : Sr → α × Sr} {q : Sr → β × Sr} {e : α → List Int} {e' : β → List Int} (hp : Enc p e) (hq : Enc q e') (f : α → β → γ) (g : γ → List Int) (hg : ∀ a b, g (f a b) = e a ++ e' b) : Enc (fun s => (f (p s).1 (q (p s).2).1, (q (p s).2).2)) g := by
  refine ⟨fun s h => hp.back s (hq.back _ h), fun s hs h => ?_, fun s hs => hq.ok _ (hp.ok s hs)⟩
  have h1 := hq.back _ h
  rw [hg, List.append_assoc, ← hq.was _ (hp.ok s hs) h]
  exact hp.was s hs h1
theorem enc64 : Enc p64 be8 := enc_gN 8 _ _ (fun l hl hb => by
  match l, hl with
  | a :: b :: c :: d :: a' :: b' :: c' :: d' :: r, _ =>
    have h1 := hb a (by simp)
    have h2 := hb b (by simp)
    have h3 := hb c (by simp)
    have h4 := hb d (by simp)
    have h5 := hb a' (by simp)
    have h6 := hb b' (by simp)
    have h7 := hb c' (by simp)
    have h8 := hb d' (by simp)
    unfold isByte at h1 h2 h3 h4 h5 h6 h7 h8
    simp only [rd64, packI, be8, List.getD_cons_zero, List.getD_cons_succ, List.drop_succ_cons, List.drop_zero, List.cons_append, List.nil_append, List.cons.injEq, and_true]
    refine ⟨by omega, by omega, by omega, by omega, by omega, by omega, by omega, by omega⟩)
theorem encRq : Enc pRq Rq.bytes :=
  enc8.then (enc32.then (enc8.then (enc8.then enc16 (fun y v => (y, v)) (fun x => [x.1] ++ b2 x.2) (fun _ _ => rfl)) (fun k x => (k, x)) (fun x => [x.1] ++ ([x.2.1] ++ b2 x.2.2)) (fun _ _ => rfl)) (fun t x => (t, x)) (fun x => b4 x.1 ++ ([x.2.1] ++ ([x.2.2.1] ++ b2 x.2.2.2))) (fun _ _ => rfl)) (fun c x => (⟨c, x.1, x.2.1, x.2.2.1, x.2.2.2⟩ : Rq)) Rq.bytes (fun _ _ => rfl)
theorem encMk : Enc pMk mkB := enc32.then enc64 (fun a b => (⟨a, b⟩ : Mk)) mkB (fun _ _ => rfl)
theorem encEn : Enc pEn enB := enc32.then (enc32.then encRq (fun a b => (a, b)) (fun x => b4 x.1 ++ x.2.bytes) (fun _ _ => rfl)) (fun a x => (⟨a, x.1, x.2⟩ : En)) enB (fun _ _ => rfl)
theorem encN {α : Type} {one : Sr → α × Sr} {e : α → List Int} (h : Enc one e) (n : Nat) : Enc (fun s => pN one s n) (fun l => l.flatMap e) := by
  induction n with
  | zero => exact ⟨fun s h => h, fun s hs h => by simp [pN], fun s hs => hs⟩
  | succ n ih =>
    refine ⟨fun s hf => ih.back s (h.back _ hf), fun s hs hf => ?_, fun s hs => h.ok _ (ih.ok s hs)⟩
    have h1 := ih.was s hs (h.back _ hf)
    have h2 := h.was _ (ih.ok s hs) hf
    simp only [pN, List.flatMap_append, List.flatMap_cons, List.flatMap_nil, List.append_nil, List.append_assoc]
    rw [← h2]; exact h1
/-- as many as the byte ahead says, most at most -/
theorem encL {α : Type} {one : Sr → α × Sr} {e : α → List Int} (h : Enc one e) (most : Nat) : Enc (fun s => pL one (p8 s).1.toNat most (p8 s).2) (fun l => [(l.length : Int)] ++ l.flatMap e) := by
  have key : ∀ s, SrOk s → (pL one (p8 s).1.toNat most (p8 s).2).2.f = 0 → (p8 s).2.f = 0 ∧ pL one (p8 s).1.toNat most (p8 s).2 = pN one (p8 s).2 (p8 s).1.toNat := by
    intro s hs hf
    unfold pL at hf ⊢
    by_cases h0 : (p8 s).2.f = 0
    · rw [if_pos h0] at hf ⊢
      by_cases hm : (p8 s).1.toNat ≤ most
      · rw [if_pos hm]; exact ⟨h0, rfl⟩
      · rw [if_neg hm] at hf; simp at hf
    · rw [if_neg h0] at hf; exact absurd hf h0
  refine ⟨fun s hf => ?_, fun s hs hf => ?_, fun s hs => ?_⟩
  · unfold pL at hf
    by_cases h0 : (p8 s).2.f = 0
    · exact enc8.back s h0
    · rw [if_neg h0] at hf; exact absurd hf h0
  · obtain ⟨h0, e1⟩ := key s hs hf
    rw [e1] at hf ⊢
    have h1 := enc8.was s hs h0
    have h2 := (encN h (p8 s).1.toNat).was _ (enc8.ok s hs) hf
    rw [pN_len, List.append_assoc, ← h2]
    have h3 := p8_in hs
    rw [show ((p8 s).1.toNat : Int) = (p8 s).1 from by omega]
    exact h1
  · unfold pL
    split
    · split
      · exact (encN h _).ok _ (enc8.ok s hs)
      · exact enc8.ok s hs
    · exact enc8.ok s hs
/-- the bytes of a vote that was read -/
def vpY (v : Vp) : List Int := [v.f] ++ ([v.e] ++ (b4 v.vw ++ (b4 v.lo ++ (marksY v.c.ms ++ (entsB v.c.p ++ entsB v.c.q)))))
theorem encVt : Enc pVt vpY :=
  enc8.then (enc8.then (enc32.then (enc32.then ((encL encMk 40).then ((encL encEn 40).then (encL encEn 40) (fun y z => (y, z)) (fun x => entsB x.1 ++ entsB x.2) (fun _ _ => rfl)) (fun x y => (⟨x, y.1, y.2⟩ : Vc)) (fun c => marksY c.ms ++ (entsB c.p ++ entsB c.q)) (fun _ _ => rfl)) (fun l c => (l, c)) (fun x => b4 x.1 ++ (marksY x.2.ms ++ (entsB x.2.p ++ entsB x.2.q))) (fun _ _ => rfl)) (fun v x => (v, x)) (fun x => b4 x.1 ++ (b4 x.2.1 ++ (marksY x.2.2.ms ++ (entsB x.2.2.p ++ entsB x.2.2.q)))) (fun _ _ => rfl)) (fun e x => (e, x)) (fun x => [x.1] ++ (b4 x.2.1 ++ (b4 x.2.2.1 ++ (marksY x.2.2.2.ms ++ (entsB x.2.2.2.p ++ entsB x.2.2.2.q))))) (fun _ _ => rfl)) (fun f x => (⟨f, x.1, x.2.1, x.2.2.1, x.2.2.2⟩ : Vp)) vpY (fun _ _ => rfl)
/-- the document's list is the program's, where that ends well -/
theorem dL_pN {α : Type} {one : Sr → α × Sr} {e : α → List Int} (h : Enc one e) (s : Sr) : ∀ n, (pN one s n).2.f = 0 → dL one s n = pN one s n
  | 0, _ => rfl
  | n + 1, hf => by
    have h1 : (pN one s n).2.f = 0 := h.back _ hf
    have ih := dL_pN h s n h1
    rw [dL_next (by rw [ih]; exact h1), ih]
    rfl
theorem dL_pL {α : Type} {one : Sr → α × Sr} {e : α → List Int} (h : Enc one e) (s : Sr) (n most : Nat) (hf : (pL one n most s).2.f = 0) : dL one s n = pL one n most s := by
  unfold pL at hf ⊢
  by_cases h0 : s.f = 0
  · rw [if_pos h0] at hf ⊢
    by_cases hm : n ≤ most
    · rw [if_pos hm] at hf ⊢; exact dL_pN h s n hf
    · rw [if_neg hm] at hf; simp at hf
  · rw [if_neg h0] at hf; exact absurd hf h0
theorem dVt_pVt (s : Sr) (hf : (pVt s).2.f = 0) : dVt s = pVt s := by
  have h3 := dL_pL encEn _ _ 40 hf
  have f3 := (encL encEn 40).back _ hf
  have h2 := dL_pL encEn _ _ 40 f3
  have f2 := (encL encEn 40).back _ f3
  have h1 := dL_pL encMk _ _ 40 f2
  unfold dVt pVt
  simp only [h1, h2, h3]

/-- these bytes are read as v, and nothing more is taken -/
def Rds {α : Type} (p : Sr → α × Sr) (bs : List Int) (v : α) : Prop := ∀ r, p ⟨bs ++ r, 0⟩ = (v, ⟨r, 0⟩)
theorem rds8 (x : Int) : Rds p8 [x] x := fun r => by simp [p8, gN]
theorem rds16 (x : Int) (h : 0 ≤ x ∧ x ≤ 65535) : Rds p16 (b2 x) x := fun r => by
  have e : x / 256 % 256 * 256 + x % 256 = x := by omega
  simp [p16, gN, b2, rd16, e]
theorem rds32 (x : Int) (h : 0 ≤ x ∧ x ≤ 4294967295) : Rds p32 (b4 x) x := fun r => by
  have e : (x / 16777216 % 256 * 256 + x / 65536 % 256) * 65536 + (x / 256 % 256 * 256 + x % 256) = x := by omega
  simp [p32, gN, b4, rd32, e]
theorem rds64 (x : Int) (h : 0 ≤ x ∧ x ≤ 18446744073709551615) : Rds p64 (be8 x) x := fun r => by
  have e : packI (x / 72057594037927936 % 256) (x / 281474976710656 % 256) (x / 1099511627776 % 256 * 256 + x / 4294967296 % 256) ((x / 16777216 % 256 * 256 + x / 65536 % 256) * 65536 + (x / 256 % 256 * 256 + x % 256)) = x := by unfold packI; omega
  simp [p64, gN, be8, rd64, e]
theorem rdsRq (q : Rq) (h : q.ok) : Rds pRq q.bytes q := fun r => by
  obtain ⟨h1, h2, h3, h4, h5⟩ := h
  have e1 := rds8 q.c (b4 q.t ++ ([q.k] ++ ([q.y] ++ (b2 q.v ++ r))))
  have e2 := rds32 q.t h2 ([q.k] ++ ([q.y] ++ (b2 q.v ++ r)))
  have e3 := rds8 q.k ([q.y] ++ (b2 q.v ++ r))
  have e4 := rds8 q.y (b2 q.v ++ r)
  have e5 := rds16 q.v h5 r
  unfold pRq Rq.bytes
  simp only [List.append_assoc, e1, e2, e3, e4, e5]
theorem rdsMk (x : Mk) (h : x.ok) : Rds pMk (mkB x) x := fun r => by
  have e1 := rds32 x.s h.1 (be8 x.r ++ r)
  have e2 := rds64 x.r h.2 r
  unfold pMk mkB
  simp only [List.append_assoc, e1, e2]
theorem rdsEn (x : En) (h : x.ok) : Rds pEn (enB x) x := fun r => by
  have e1 := rds32 x.s h.1 (b4 x.v ++ (x.rq.bytes ++ r))
  have e2 := rds32 x.v h.2.1 (x.rq.bytes ++ r)
  have e3 := rdsRq x.rq h.2.2 r
  unfold pEn enB
  simp only [List.append_assoc, e1, e2, e3]
theorem rdsN {α : Type} {one : Sr → α × Sr} {enc : α → List Int} (l : List α) (h : ∀ x ∈ l, Rds one (enc x) x) (r : List Int) (j : Nat) (hj : j ≤ l.length) : pN one ⟨l.flatMap enc ++ r, 0⟩ j = (l.take j, ⟨(l.drop j).flatMap enc ++ r, 0⟩) := by
  induction j with
  | zero => simp [pN]
  | succ j ih =>
    have hlt : j < l.length := by omega
    have e := h l[j] (List.getElem_mem hlt) ((l.drop (j + 1)).flatMap enc ++ r)
    have hd : l.drop j = l[j] :: l.drop (j + 1) := List.drop_eq_getElem_cons hlt
    have e2 : one (pN one ⟨l.flatMap enc ++ r, 0⟩ j).2 = (l[j], ⟨(l.drop (j + 1)).flatMap enc ++ r, 0⟩) := by
      rw [ih (by omega)]
      show one ⟨(l.drop j).flatMap enc ++ r, 0⟩ = _
      rw [hd, List.flatMap_cons, List.append_assoc]
      exact e
    show ((pN one ⟨l.flatMap enc ++ r, 0⟩ j).1 ++ [(one (pN one ⟨l.flatMap enc ++ r, 0⟩ j).2).1], (one (pN one ⟨l.flatMap enc ++ r, 0⟩ j).2).2) = _
    have e3 : l.take (j + 1) = l.take j ++ [l[j]] := by rw [List.take_add_one, List.getElem?_eq_getElem hlt]; rfl
    rw [e2, ih (by omega), e3]
theorem rdsL {α : Type} {one : Sr → α × Sr} {enc : α → List Int} (l : List α) (most : Nat) (h : ∀ x ∈ l, Rds one (enc x) x) (hl : l.length ≤ most) : Rds (pL one l.length most) (l.flatMap enc) l := fun r => by
  have e := rdsN l h r l.length (Nat.le_refl _)
  simp only [pL, if_true, hl]
  rw [e]
  simp
theorem rdsVt (v : Vt) (c : Vc) (hv : v.ok) (hc : c.ok) (hf : c.few) : Rds pVt (voteY v c) (toVp (v, c)) := fun r => by
  obtain ⟨f1, f2, f3⟩ := hf
  obtain ⟨_, _, v3, v4⟩ := hv
  obtain ⟨c1, c2, c3⟩ := hc
  have e1 := rds8 v.f ([v.e] ++ (b4 v.vw ++ (b4 v.lo ++ (marksY c.ms ++ (entsB c.p ++ (entsB c.q ++ r))))))
  have e2 := rds8 v.e (b4 v.vw ++ (b4 v.lo ++ (marksY c.ms ++ (entsB c.p ++ (entsB c.q ++ r)))))
  have e3 := rds32 v.vw v3 (b4 v.lo ++ (marksY c.ms ++ (entsB c.p ++ (entsB c.q ++ r))))
  have e4 := rds32 v.lo v4 (marksY c.ms ++ (entsB c.p ++ (entsB c.q ++ r)))
  have e5 := rds8 (c.ms.length : Int) (c.ms.flatMap mkB ++ (entsB c.p ++ (entsB c.q ++ r)))
  have e6 := rdsL (one := pMk) (enc := mkB) c.ms 40 (fun x hx => rdsMk x (c1 x hx)) f1 (entsB c.p ++ (entsB c.q ++ r))
  have e7 := rds8 (c.p.length : Int) (c.p.flatMap enB ++ (entsB c.q ++ r))
  have e8 := rdsL (one := pEn) (enc := enB) c.p 40 (fun x hx => rdsEn x (c2 x hx)) f2 (entsB c.q ++ r)
  have e9 := rds8 (c.q.length : Int) (c.q.flatMap enB ++ r)
  have e10 := rdsL (one := pEn) (enc := enB) c.q 40 (fun x hx => rdsEn x (c3 x hx)) f3 r
  have d5 : p8 ⟨marksY c.ms ++ (entsB c.p ++ (entsB c.q ++ r)), 0⟩ = ((c.ms.length : Int), ⟨c.ms.flatMap mkB ++ (entsB c.p ++ (entsB c.q ++ r)), 0⟩) := by
    rw [← e5]; simp [marksY]
  have d7 : p8 ⟨entsB c.p ++ (entsB c.q ++ r), 0⟩ = ((c.p.length : Int), ⟨c.p.flatMap enB ++ (entsB c.q ++ r), 0⟩) := by
    rw [← e7]; simp [entsB]
  have d9 : p8 ⟨entsB c.q ++ r, 0⟩ = ((c.q.length : Int), ⟨c.q.flatMap enB ++ r, 0⟩) := by
    rw [← e9]; simp [entsB]
  have d1 : p8 ⟨voteY v c ++ r, 0⟩ = (v.f, ⟨[v.e] ++ (b4 v.vw ++ (b4 v.lo ++ (marksY c.ms ++ (entsB c.p ++ (entsB c.q ++ r))))), 0⟩) := by
    rw [← e1]; simp [voteY]
  exact pVt_eq d1.symm e2.symm e3.symm e4.symm d5.symm e6.symm d7.symm e8.symm d9.symm e10.symm
theorem rdsDt (l : List Int) (h : l.length ≤ 64) : Rds pDt (lenBytes l) l := fun r => by
  have e : rd16 (lenBytes l ++ r) = (l.length : Int) := by
    simp only [rd16, lenBytes, List.cons_append, List.nil_append, List.getD_cons_zero, List.getD_cons_succ]
    omega
  have hl : (lenBytes l ++ r).length = l.length + 2 + r.length := by simp [lenBytes]; omega
  unfold pDt
  simp only [if_true, e, hl, show 2 ≤ l.length + 2 + r.length from by omega, show ¬ (64 < (l.length : Int)) from by omega, if_false, Int.toNat_natCast, show 2 + l.length ≤ l.length + 2 + r.length from by omega]
  have d1 : ((lenBytes l ++ r).drop 2).take l.length = l := by simp [lenBytes]
  have d2 : (lenBytes l ++ r).drop (2 + l.length) = r := by
    rw [← List.drop_drop]
    simp [lenBytes]
  rw [d1, d2]

def toMq (m : Mg) (c : Mc) : Mq := ⟨m.toWd, toVp (m.vt, c.vt), c.vs.map toVp, c.sm, c.dt⟩
/-- a part of q goes into x -/
def qStep (q x : Mq) (p : Int) : Mq :=
  if p = 0 then { x with w := { x.w with vw := q.w.vw } } else if p = 1 then { x with w := { x.w with sq := q.w.sq } } else if p = 2 then { x with w := { x.w with rq := q.w.rq } }
  else if p = 3 then { x with w := { x.w with ro := q.w.ro } } else if p = 4 then { x with w := { x.w with ct := q.w.ct } } else if p = 5 then { x with w := { x.w with pg := q.w.pg } }
  else if p = 6 then { x with w := { x.w with rs := q.w.rs } } else if p = 7 then { x with vt := q.vt } else if p = 8 then { x with vs := q.vs } else if p = 9 then { x with sm := q.sm } else { x with dt := q.dt }
/-- the lists of a part are no longer than they may be -/
def Short (c : Mc) (p : Int) : Prop := (p = 7 → c.vt.few) ∧ (p = 8 → c.vs.length ≤ 4 ∧ ∀ x ∈ c.vs, x.2.few) ∧ (p = 9 → c.sm.length = 8) ∧ (p = 10 → c.dt.length ≤ 64)

theorem rdsVs (l : List (Vt × Vc)) (h : ∀ x ∈ l, x.1.ok ∧ x.2.ok) (hl : l.length ≤ 4) (hf : ∀ x ∈ l, x.2.few) (r : List Int) : pL pVt l.length 4 ⟨(l.flatMap fun x => voteY x.1 x.2) ++ r, 0⟩ = (l.map toVp, ⟨r, 0⟩) := by
  have key : ∀ j, j ≤ l.length → pN pVt ⟨(l.flatMap fun x => voteY x.1 x.2) ++ r, 0⟩ j = ((l.take j).map toVp, ⟨((l.drop j).flatMap fun x => voteY x.1 x.2) ++ r, 0⟩) := by
    intro j hj
    induction j with
    | zero => rfl
    | succ j ih =>
      have hlt : j < l.length := by omega
      have hm := List.getElem_mem hlt
      have e := rdsVt l[j].1 l[j].2 (h _ hm).1 (h _ hm).2 (hf _ hm) (((l.drop (j + 1)).flatMap fun x => voteY x.1 x.2) ++ r)
      have hd : l.drop j = l[j] :: l.drop (j + 1) := List.drop_eq_getElem_cons hlt
      have e2 : pVt (pN pVt ⟨(l.flatMap fun x => voteY x.1 x.2) ++ r, 0⟩ j).2 = (toVp l[j], ⟨((l.drop (j + 1)).flatMap fun x => voteY x.1 x.2) ++ r, 0⟩) := by
        rw [ih (by omega)]
        show pVt ⟨((l.drop j).flatMap fun x => voteY x.1 x.2) ++ r, 0⟩ = _
        rw [hd, List.flatMap_cons, List.append_assoc]
        exact e
      show ((pN pVt ⟨(l.flatMap fun x => voteY x.1 x.2) ++ r, 0⟩ j).1 ++ [(pVt (pN pVt ⟨(l.flatMap fun x => voteY x.1 x.2) ++ r, 0⟩ j).2).1], (pVt (pN pVt ⟨(l.flatMap fun x => voteY x.1 x.2) ++ r, 0⟩ j).2).2) = _
      have e3 : (l.take (j + 1)).map toVp = (l.take j).map toVp ++ [toVp l[j]] := by rw [List.take_add_one, List.getElem?_eq_getElem hlt, List.map_append]; rfl
      rw [e2, ih (by omega), e3]
  have e := key l.length (Nat.le_refl _)
  unfold pL
  rw [if_pos rfl, if_pos hl, e, List.take_length, List.drop_length]
  rfl

theorem rdsPart (m : Mg) (c : Mc) (hok : MgOk m c) (p : Int) (hp : 0 ≤ p ∧ p ≤ 10) (hs : Short c p) (x : Mq) : Rds (pPart p x) (partY m c p) (qStep (toMq m c) x p) := by
  obtain ⟨s7, s8, s9, s10⟩ := hs
  have hc : p = 0 ∨ p = 1 ∨ p = 2 ∨ p = 3 ∨ p = 4 ∨ p = 5 ∨ p = 6 ∨ p = 7 ∨ p = 8 ∨ p = 9 ∨ p = 10 := by omega
  rcases hc with rfl | rfl | rfl | rfl | rfl | rfl | rfl | rfl | rfl | rfl | rfl
  · intro r
    have e := rds32 m.vw hok.vw r
    show (({ x with w := { x.w with vw := (p32 ⟨b4 m.vw ++ r, 0⟩).1 } } : Mq), (p32 ⟨b4 m.vw ++ r, 0⟩).2) = _
    rw [e]; rfl
  · intro r
    have e := rds32 m.sq hok.sq r
    show (({ x with w := { x.w with sq := (p32 ⟨b4 m.sq ++ r, 0⟩).1 } } : Mq), (p32 ⟨b4 m.sq ++ r, 0⟩).2) = _
    rw [e]; rfl
  · intro r
    have e := rdsRq m.rq hok.rq r
    show (({ x with w := { x.w with rq := (pRq ⟨m.rq.bytes ++ r, 0⟩).1 } } : Mq), (pRq ⟨m.rq.bytes ++ r, 0⟩).2) = _
    rw [e]; rfl
  · intro r
    have e := rds64 m.ro hok.ro r
    show (({ x with w := { x.w with ro := (p64 ⟨be8 m.ro ++ r, 0⟩).1 } } : Mq), (p64 ⟨be8 m.ro ++ r, 0⟩).2) = _
    rw [e]; rfl
  · intro r
    have e := rds8 m.ct r
    show (({ x with w := { x.w with ct := (p8 ⟨[m.ct] ++ r, 0⟩).1 } } : Mq), (p8 ⟨[m.ct] ++ r, 0⟩).2) = _
    rw [e]; rfl
  · intro r
    have e := rds8 m.pg r
    show (({ x with w := { x.w with pg := (p8 ⟨[m.pg] ++ r, 0⟩).1 } } : Mq), (p8 ⟨[m.pg] ++ r, 0⟩).2) = _
    rw [e]; rfl
  · intro r
    have e := rds32 m.rs hok.rs r
    show (({ x with w := { x.w with rs := (p32 ⟨b4 m.rs ++ r, 0⟩).1 } } : Mq), (p32 ⟨b4 m.rs ++ r, 0⟩).2) = _
    rw [e]; rfl
  · intro r
    have e := rdsVt m.vt c.vt hok.vt.1 hok.vt.2 (s7 rfl) r
    show (({ x with vt := (pVt ⟨voteY m.vt c.vt ++ r, 0⟩).1 } : Mq), (pVt ⟨voteY m.vt c.vt ++ r, 0⟩).2) = _
    rw [e]; rfl
  · intro r
    obtain ⟨h4, hf⟩ := s8 rfl
    have e1 := rds8 (c.vs.length : Int) ((c.vs.flatMap fun x => voteY x.1 x.2) ++ r)
    have e2 := rdsVs c.vs hok.vs h4 hf r
    have ea : (votesY c.vs ++ r) = [(c.vs.length : Int)] ++ ((c.vs.flatMap fun x => voteY x.1 x.2) ++ r) := by simp [votesY]
    show (({ x with vs := (pL pVt (p8 ⟨votesY c.vs ++ r, 0⟩).1.toNat 4 (p8 ⟨votesY c.vs ++ r, 0⟩).2).1 } : Mq), (pL pVt (p8 ⟨votesY c.vs ++ r, 0⟩).1.toNat 4 (p8 ⟨votesY c.vs ++ r, 0⟩).2).2) = _
    rw [ea, e1]
    show (({ x with vs := (pL pVt ((c.vs.length : Int)).toNat 4 ⟨(c.vs.flatMap fun x => voteY x.1 x.2) ++ r, 0⟩).1 } : Mq), (pL pVt ((c.vs.length : Int)).toNat 4 ⟨(c.vs.flatMap fun x => voteY x.1 x.2) ++ r, 0⟩).2) = _
    rw [Int.toNat_natCast, e2]; rfl
  · intro r
    have h8 := s9 rfl
    have e := rdsL (one := p64) (enc := be8) c.sm 8 (fun x hx => rds64 x (hok.sm x hx)) (by omega) r
    rw [h8] at e
    show (({ x with sm := (pL p64 8 8 ⟨c.sm.flatMap be8 ++ r, 0⟩).1 } : Mq), (pL p64 8 8 ⟨c.sm.flatMap be8 ++ r, 0⟩).2) = _
    rw [e]; rfl
  · intro r
    have e := rdsDt c.dt (s10 rfl) r
    show (({ x with dt := (pDt ⟨lenBytes c.dt ++ r, 0⟩).1 } : Mq), (pDt ⟨lenBytes c.dt ++ r, 0⟩).2) = _
    rw [e]; rfl

theorem rdsFold (m : Mg) (c : Mc) (hok : MgOk m c) (ps : List Int) (hp : ∀ p ∈ ps, (0 ≤ p ∧ p ≤ 10) ∧ Short c p) : ∀ (x : Mq) (r : List Int), pFold ps (x, ⟨ps.flatMap (partY m c) ++ r, 0⟩) = (ps.foldl (qStep (toMq m c)) x, ⟨r, 0⟩) := by
  induction ps with
  | nil => intro x r; rfl
  | cons p ps ih =>
    intro x r
    have e := rdsPart m c hok p (hp p (by simp)).1 (hp p (by simp)).2 x (ps.flatMap (partY m c) ++ r)
    show pFold ps (pPart p x ⟨(partY m c p ++ ps.flatMap (partY m c)) ++ r, 0⟩) = _
    rw [List.append_assoc, e]
    exact ih (fun q hq => hp q (by simp [hq])) _ r
theorem rdsAll (m : Mg) (c : Mc) (hok : MgOk m c) (hs : ∀ p ∈ partsOf m.k, Short c p) (r : List Int) : pAll (encM m c ++ r) = ((partsOf m.k).foldl (qStep (toMq m c)) (zeroQ m.k m.f m.t m.e), ⟨r, 0⟩) := by
  have e := rdsFold m c hok (partsOf m.k) (fun p hp => ⟨partsOf_le _ p hp, hs p hp⟩) (zeroQ m.k m.f m.t m.e) r
  have ee : encM m c ++ r = [m.k] ++ ([m.f] ++ ([m.t] ++ ([m.e] ++ ((partsOf m.k).flatMap (partY m c) ++ r)))) := by simp [encM, encUp]
  have e1 := rds8 m.k ([m.f] ++ ([m.t] ++ ([m.e] ++ ((partsOf m.k).flatMap (partY m c) ++ r))))
  have e2 := rds8 m.f ([m.t] ++ ([m.e] ++ ((partsOf m.k).flatMap (partY m c) ++ r)))
  have e3 := rds8 m.t ([m.e] ++ ((partsOf m.k).flatMap (partY m c) ++ r))
  have e4 := rds8 m.e ((partsOf m.k).flatMap (partY m c) ++ r)
  have eh : pHd ⟨[m.k] ++ ([m.f] ++ ([m.t] ++ ([m.e] ++ ((partsOf m.k).flatMap (partY m c) ++ r)))), 0⟩ = (zeroQ m.k m.f m.t m.e, ⟨(partsOf m.k).flatMap (partY m c) ++ r, 0⟩) := by
    unfold pHd
    simp only [e1, e2, e3, e4]
  unfold pAll
  rw [ee, eh, e1]
  exact e
theorem toMq_step (m x : Mg) (c cx : Mc) (p : Int) (hp : 0 ≤ p ∧ p ≤ 10) : toMq (m.step x p) (c.step cx p) = qStep (toMq m c) (toMq x cx) p := by
  have hc : p = 0 ∨ p = 1 ∨ p = 2 ∨ p = 3 ∨ p = 4 ∨ p = 5 ∨ p = 6 ∨ p = 7 ∨ p = 8 ∨ p = 9 ∨ p = 10 := by omega
  rcases hc with rfl | rfl | rfl | rfl | rfl | rfl | rfl | rfl | rfl | rfl | rfl <;> rfl
theorem toMq_fold (m : Mg) (c : Mc) (ps : List Int) (hp : ∀ p ∈ ps, 0 ≤ p ∧ p ≤ 10) : ∀ (x : Mg) (cx : Mc), toMq (ps.foldl m.step x) (ps.foldl c.step cx) = ps.foldl (qStep (toMq m c)) (toMq x cx) := by
  induction ps with
  | nil => intro x cx; rfl
  | cons p ps ih =>
    intro x cx
    simp only [List.foldl_cons]
    rw [ih (fun q hq => hp q (by simp [hq])), toMq_step m x c cx p (hp p (by simp))]
theorem sameV_iff (a b : Vt) (ca cb : Vc) : sameV a ca b cb = true ↔ toVp (a, ca) = toVp (b, cb) := by
  obtain ⟨m1, p1, q1⟩ := ca
  obtain ⟨m2, p2, q2⟩ := cb
  simp [sameV, toVp]
theorem sameVs_iff : ∀ xs ys : List (Vt × Vc), sameVs xs ys = true ↔ xs.map toVp = ys.map toVp
  | [], [] => by simp [sameVs]
  | [], y :: ys => by simp [sameVs]
  | x :: xs, [] => by simp [sameVs]
  | x :: xs, y :: ys => by
    have ih := sameVs_iff xs ys
    have hv := sameV_iff x.1 y.1 x.2 y.2
    unfold sameVs at ih ⊢
    simp only [List.length_cons, List.zip_cons_cons, List.all_cons, List.map_cons, List.cons.injEq, Bool.and_eq_true, decide_eq_true_eq, Nat.add_right_cancel_iff] at ih ⊢
    constructor
    · rintro ⟨h1, h2, h3⟩
      exact ⟨hv.1 h2, ih.1 ⟨h1, h3⟩⟩
    · rintro ⟨h1, h2⟩
      obtain ⟨h3, h4⟩ := ih.2 h2
      exact ⟨h3, hv.2 h1, h4⟩
theorem sameM_iff (a b : Mg) (ca cb : Mc) : sameM a ca b cb = true ↔ toMq a ca = toMq b cb := by
  unfold sameM toMq
  simp only [Bool.and_eq_true, decide_eq_true_eq, sameV_iff, sameVs_iff, Mq.mk.injEq]
/-- the bytes of a message are read as it, whatever is behind them -/
theorem rdsM (m : Mg) (c : Mc) (hok : MgOk m c) (hs : ∀ p ∈ partsOf m.k, Short c p) (hi : isM m c = true) (r : List Int) : pAll (encM m c ++ r) = (toMq m c, ⟨r, 0⟩) := by
  rw [rdsAll m c hok hs r]
  have hsm : sameM m c (m.bare (partsOf m.k)) (c.bare (partsOf m.k)) = true := by
    unfold isM isB at hi
    simp only [Bool.and_eq_true] at hi
    exact hi.2.2.1
  rw [sameM_iff] at hsm
  have hf := toMq_fold m c (partsOf m.k) (partsOf_le _) m.head Mc.nil
  have hz : zeroQ m.k m.f m.t m.e = toMq m.head Mc.nil := rfl
  rw [hz, ← hf]
  exact congrArg (fun q : Mq => (q, (⟨r, 0⟩ : Sr))) hsm.symm
theorem isM_short {w : World} {m : Mg} {c : Mc} (hm : MgAt w m c) (h : isM m c = true) : ∀ p ∈ partsOf m.k, Short c p := fun _ hp =>
  ⟨fun e => isM_7 h (e ▸ hp), fun e => isM_8 h (e ▸ hp), fun e => isM_9 hm h (e ▸ hp), fun e => isM_10 hm h (e ▸ hp)⟩
end Go.Proofs.YtbpfkeeikhhlnaaGreatDoor
