/- The walk of KnowReplays. -/
import Derived.Test.YtigpfaecbmnklaaDoorRep1
import Derived.Deep.CutBlock
namespace Go.Proofs.YtigpfaecbmnklaaDoor
open Go.RowKit Go.Maps
set_option maxRecDepth 100000

def rS1 : Kn := ⟨[], [rq1], [toU (encM rR Mc.nil)], []⟩
theorem see_rR : seeK Kn.none rR Mc.nil = rS1 := by
  unfold seeK
  rw [rR_is]
  rfl
theorem rq1_ok : rq1.ok := by unfold Rq.ok rq1; simp

theorem KwAt.set {H : Nat} {w : World} {B : Nat} {S : Kn} {o : Nat → Option Nat} (h : KwAt H w B S o) {M i : Nat} {A : Array Value} {v : Value} (hM : w.heap[M]? = some (.cells A 37 (0, 0))) : KwAt H (w.setCell ⟨M, i, none⟩ v) B S o := by
  have hk : Kept (fun b => b = M) w (w.setCell ⟨M, i, none⟩ v) := (Kept.refl _ _).setCell _ _ (fun _ => rfl)
  have hBM : B ≠ M := fun e => by
    have := h.box
    rw [e, hM] at this
    simp at this
  have hn : ∀ {α : Type} {enc : α → Value} {K : TypeId} {oo : Option Nat} {xs : List α}, SetIs enc w K oo xs → ∀ b, oo = some b → ¬ b = M := fun hs b e hb => by
    obtain ⟨ls, _, _, h3⟩ := hs
    obtain ⟨es, clock, hb2, _⟩ := h3 b e
    rw [hb, hM] at hb2; cases hb2
  exact ⟨by rw [hk.block B (lt_of_block h.box) hBM]; exact h.box, h.k.kept hk (hn h.k), h.r.kept hk (hn h.r), h.m.kept hk (hn h.m), h.v.kept hk (hn h.v), h.hB, h.ne, h.sep⟩
theorem Kw.set {H : Nat} {w : World} {B : Nat} {S : Kn} (h : Kw H w B S) {M i : Nat} {A : Array Value} {v : Value} (hM : w.heap[M]? = some (.cells A 37 (0, 0))) : Kw H (w.setCell ⟨M, i, none⟩ v) B S := let ⟨o, h⟩ := h; ⟨o, h.set hM⟩
def rS2 (f t e s : Int) : Kn := ⟨[], [rq1, rq1], [toU (encM rR Mc.nil), toU (encM (rM f t e s) Mc.nil)], []⟩
theorem rM_is (f t e s : Int) (f0 : 0 ≤ f) (f1 : f < 4) (t0 : 0 ≤ t) (t1 : t < 4) (e0 : 1 ≤ e) (e1 : e ≤ 200) (s0 : 1 ≤ s) (s1 : s ≤ 100) : isM (rM f t e s) Mc.nil = true := gen3 f t e s 0 rq1 (by decide) f0 f1 t0 t1 e0 e1 s0 (by omega) (by omega)
theorem head_ne {m : Mg} (hk : m.k = 3) : toU (encM m Mc.nil) ≠ toU (encM rR Mc.nil) := fun h => by
  have h1 : (toU (encM m Mc.nil)).head? = (toU (encM rR Mc.nil)).head? := by rw [h]
  rw [head_enc, head_enc, hk] at h1
  revert h1; decide
theorem can_m1 (f t e s : Int) (hi : isM (rM f t e s) Mc.nil = true) : canB rS1 (rM f t e s) Mc.nil = 40 := by
  unfold canB
  rw [hi, memB_not (by simp only [rS1, List.mem_singleton]; exact head_ne rfl), show signB rS1 (rM f t e s) = false from by simp [signB, rS1, memB]]
  rfl
theorem can_m2 (f t e s : Int) (hi : isM (rM f t e s) Mc.nil = true) : canB (rS2 f t e s) (rM f t e s) Mc.nil = 0 := by
  unfold canB
  rw [hi, memB_yes (by simp [rS2])]
  rfl
theorem can_n2 (f t e s j : Int) (hi : isM (rN f t e s j) Mc.nil = true) (hne : toU (encM (rN f t e s j) Mc.nil) ≠ toU (encM (rM f t e s) Mc.nil)) : canB (rS2 f t e s) (rN f t e s j) Mc.nil = 40 := by
  unfold canB
  rw [hi, memB_not (by simp only [rS2, List.mem_cons, List.not_mem_nil, or_false, not_or]; exact ⟨head_ne (rN_k f t e s j), hne⟩), show signB (rS2 f t e s) (rN f t e s j) = false from by simp [signB, rS2, memB]]
  rfl
theorem see_m2 (f t e s : Int) (hi : isM (rM f t e s) Mc.nil = true) : seeK rS1 (rM f t e s) Mc.nil = rS2 f t e s := by
  unfold seeK
  rw [hi]
  rfl

theorem rNset0 (f t e s : Int) : ((rM f t e s).cells.toArray).setIfInBounds 5 (.int .u32 (s + 1)) = (rN f t e s 0).cells.toArray := rfl
theorem rNset1 (f t e s : Int) : ((rM f t e s).cells.toArray).setIfInBounds 4 (.int .u32 1) = (rN f t e s 1).cells.toArray := rfl
theorem rNset2 (f t e s : Int) : ((rM f t e s).cells.toArray).setIfInBounds 2 (.int .u8 ((t + 1) % 4)) = (rN f t e s 2).cells.toArray := rfl
theorem rNset3 (f t e s : Int) : (((((rM f t e s).cells.toArray.setIfInBounds 6 (.int .u8 0)).setIfInBounds 7 (.int .u32 0)).setIfInBounds 8 (.int .u8 0)).setIfInBounds 9 (.int .u8 0)).setIfInBounds 10 (.int .u16 0) = (rN f t e s 3).cells.toArray := by simp [rM, rN, rq1, hm, Mg.cells, Rq.zero, Vt.zero]
theorem rN_fe (f t e s j : Int) : (rN f t e s j).f = f ∧ (rN f t e s j).e = e ∧ (rN f t e s j).vs = ⟨none, 0, 0⟩ ∧ (rN f t e s j).rq.ok := by
  unfold rN
  split
  · exact ⟨rfl, rfl, rfl, rq1_ok⟩
  split
  · exact ⟨rfl, rfl, rfl, rq1_ok⟩
  split
  · exact ⟨rfl, rfl, rfl, rq1_ok⟩
  · exact ⟨rfl, rfl, rfl, zero_ok⟩

set_option maxHeartbeats 16000000 in
theorem replays_any (fr tt ep sq tn : Int) (fr0 : 0 ≤ fr) (_fr1 : fr ≤ 255) (tt0 : 0 ≤ tt) (_tt1 : tt ≤ 255) (ep0 : 0 ≤ ep) (_ep1 : ep ≤ 255) (sq0 : 0 ≤ sq) (_sq1 : sq ≤ 4294967295) (tn0 : 0 ≤ tn) (tn1 : tn ≤ 255) (w : World) (ht : Tab w) :
    Calls Tryd.prog 7 #[.int .u8 fr, .int .u8 tt, .int .u8 ep, .int .u32 sq, .int .u8 tn] w fun e w' => e = .returned (.bool true) ∧ Below w.heap.size w w' := by
  have CK := Lib.hid (known17 w ht)
  have HT := Lib.hid ht
  clear ht
  go_enter Tryd.func7, Tryd.ntmps7
  go_wp2_with fail
  refine Calls.mono CK.out ?_
  rintro e' w1 ⟨rfl, hb1⟩
  have B1 := Lib.hid hb1
  clear hb1 CK
  go_wp2_with fail
  refine Calls.mono (new18 _) ?_
  rintro e' w2 ⟨rfl, hw2⟩
  have hk2 : Kw w1.heap.size w2 w1.heap.size Kn.none := by rw [hw2]; exact kw_new w1 _ (Nat.le_refl _)
  have hb2 : Below w1.heap.size w1 w2 := by rw [hw2]; exact (Below.refl _ _).alloc (Nat.le_refl _) _
  have HK2 := Lib.hid hk2
  have HRB := Lib.hid (show w.heap.size ≤ w1.heap.size from B1.out.size)
  have B2 := Lib.hid (B1.out.trans (hb2.mono B1.out.size))
  clear hw2 hk2 hb2 B1
  generalize hBg : w1.heap.size = B at *
  go_wp2_with fail
  refine Calls.mono (put_gen 1 2 3 4 w2) ?_
  rintro e' w3 ⟨rfl, hb3⟩
  have HK3 := Lib.hid (HK2.out.on hb3)
  have B3 := Lib.hid (B2.out.trans (hb3.mono (Nat.le_trans HRB.out HK2.out.le)))
  clear hb3
  obtain ⟨w4, hw4⟩ : ∃ w4, w4 = w3.alloc (.cells rq1.cells.toArray 27) := ⟨_, rfl⟩
  have hb4 : Below w3.heap.size w3 w4 := by rw [hw4]; exact (Below.refl _ _).alloc (Nat.le_refl _) _
  have hq4 : w4.heap[w3.heap.size]? = some (.cells rq1.cells.toArray 27 (0, 0)) := by rw [hw4]; exact heap_alloc_new _ _
  have HK4 := Lib.hid (HK3.out.on hb4)
  have B4 := Lib.hid (B3.out.trans (hb4.mono (Nat.le_trans HRB.out HK3.out.le)))
  have HQ4 := Lib.hid hq4
  have HQB := Lib.hid (show w3.heap.size ≠ B from by have := HK3.out.lt; omega)
  simp only [Rq.cells, rq1] at hw4 ⊢
  have HW4 := Lib.hid hw4
  clear hb4 hq4 hw4
  go_upto_region 5 with fail
  rw [← HW4.out]
  clear HW4
  generalize hQg : w3.heap.size = Q at *
  have y0 : w4.cell? ⟨Q, 0, none⟩ = some (.int .u8 1) := by rw [cell_of_row _ _ _ _ _ _ HQ4.out]; rfl
  have y1 : w4.cell? ⟨Q, 1, none⟩ = some (.int .u32 2) := by rw [cell_of_row _ _ _ _ _ _ HQ4.out]; rfl
  have y2 : w4.cell? ⟨Q, 2, none⟩ = some (.int .u8 1) := by rw [cell_of_row _ _ _ _ _ _ HQ4.out]; rfl
  have y3 : w4.cell? ⟨Q, 3, none⟩ = some (.int .u8 3) := by rw [cell_of_row _ _ _ _ _ _ HQ4.out]; rfl
  have y4 : w4.cell? ⟨Q, 4, none⟩ = some (.int .u16 4) := by rw [cell_of_row _ _ _ _ _ _ HQ4.out]; rfl
  have CS := see20 B w4 B Kn.none HK4.out rR Mc.nil (rR_at _) nil_ok (Tab.on HT.out B4.out) (show (1 : Int) ≠ 6 by decide) rfl rq1_ok (by simp [Kn.none]) (by simp [Kn.none])
  rw [see_rR] at CS
  simp only [rR, rq1, hm, Mg.cells, Vt.zero] at CS
  have HCS := Lib.hid CS
  clear CS
  go_wp2_with fail
  refine Calls.mono HCS.out ?_
  rintro e' w5 ⟨rfl, hk5, hs5⟩
  have HK5 := Lib.hid hk5
  have B5 := Lib.hid (B4.out.trans (hs5.bel.mono HRB.out))
  have HQ5 := Lib.hid (hs5.stay _ _ _ _ HQB.out HQ4.out)
  clear hk5 hs5 HCS y0 y1 y2 y3 y4
  go_upto_region 6 with fail
  have eR : (#[.int .u8 1, .int .u8 11, .int .u8 0, .int .u8 0, .int .u32 0, .int .u32 0, .int .u8 1, .int .u32 2, .int .u8 1, .int .u8 3, .int .u16 4, .int .u64 0, .int .u8 0, .int .u8 0, .int .u32 0, .int .u8 0, .int .u8 0, .int .u32 0, .int .u32 0, .slice none 0 0, .slice none 0 0, .slice none 0 0, .slice none 0 0, .slice none 0 0, .slice none 0 0] : Array Value) = rR.cells.toArray := rfl
  have eQ : (#[.int .u8 1, .int .u32 2, .int .u8 1, .int .u8 3, .int .u16 4] : Array Value) = rq1.cells.toArray := rfl
  rw [eR, eQ]
  generalize rR.cells.toArray = aR
  clear eR eQ
  obtain ⟨f, hf⟩ : ∃ x, x = fr % 4 := ⟨_, rfl⟩
  obtain ⟨t, ht⟩ : ∃ x, x = tt % 4 := ⟨_, rfl⟩
  obtain ⟨e2, he2⟩ : ∃ x, x = ep % 200 := ⟨_, rfl⟩
  obtain ⟨e, he⟩ : ∃ x, x = e2 + 1 := ⟨_, rfl⟩
  obtain ⟨s2, hs2⟩ : ∃ x, x = sq % 100 := ⟨_, rfl⟩
  obtain ⟨s, hs⟩ : ∃ x, x = s2 + 1 := ⟨_, rfl⟩
  have f0 : 0 ≤ f := by omega
  have f1 : f < 4 := by omega
  have t0 : 0 ≤ t := by omega
  have t1 : t < 4 := by omega
  have e0 : 1 ≤ e := by omega
  have e1 : e ≤ 200 := by omega
  have s0 : 1 ≤ s := by omega
  have s1 : s ≤ 100 := by omega
  have HF := Lib.hid (show fr.tmod 4 = f by rw [hf]; exact Int.tmod_eq_emod_of_nonneg fr0)
  have HTT := Lib.hid (show tt.tmod 4 = t by rw [ht]; exact Int.tmod_eq_emod_of_nonneg tt0)
  have HE2 := Lib.hid (show ep.tmod 200 = e2 by rw [he2]; exact Int.tmod_eq_emod_of_nonneg ep0)
  have HS2 := Lib.hid (show sq.tmod 100 = s2 by rw [hs2]; exact Int.tmod_eq_emod_of_nonneg sq0)
  have HE := Lib.hid (show IntKind.u8.wrap (e2 + 1) = e by rw [he]; simp [IntKind.wrap, IntKind.signed, IntKind.bits]; omega)
  have HSS := Lib.hid (show IntKind.u32.wrap (s2 + 1) = s by rw [hs]; simp [IntKind.wrap, IntKind.signed, IntKind.bits]; omega)
  have hiM := rM_is f t e s f0 f1 t0 t1 e0 e1 s0 s1
  clear hf ht he2 he hs2 hs
  obtain ⟨U1, hU1⟩ : ∃ U, U = (w5.alloc (.cells Vz.toArray 37)).setCells w5.heap.size 0 (rM f t e s).cells := ⟨_, rfl⟩
  obtain ⟨hx1, hu1, hth1⟩ := msg_new w5 _ hU1
  obtain ⟨qa, hqa⟩ : ∃ a, a = rq1.cells.toArray := ⟨_, rfl⟩
  obtain ⟨A1, hA1⟩ : ∃ a, a = (rM f t e s).cells.toArray := ⟨_, rfl⟩
  obtain ⟨M1, hM1⟩ : ∃ a, a = w5.heap.size := ⟨_, rfl⟩
  have LQ := Lib.hid (req_load HQ5.out)
  have HZ1 := Lib.hid (show A1.size = 25 by rw [hA1]; rfl)
  have HK6 := Lib.hid (HK5.out.on hu1)
  have B6 := Lib.hid (B5.out.trans (hu1.mono (Nat.le_trans HRB.out HK5.out.le)))
  have HMB := Lib.hid (show M1 ≠ B from by have := HK5.out.lt; omega)
  have HX1 := Lib.hid hx1
  have HTH1 := Lib.hid hth1
  have HU1 := Lib.hid hU1
  have hky : Ky.ok ⟨f, e⟩ := by unfold Ky.ok; simp only; omega
  have CM := Lib.hid (fun S w' (h : Kw B w' B S) (hb : Below w.heap.size w w') => can22 B w' B S h (rM f t e s) Mc.nil (rM_at _ _ _ _ _) nil_ok (Tab.on HT.out hb) (show (3 : Int) ≠ 6 by decide) rfl hky rq1_ok)
  have CSM := Lib.hid (fun w' (h : Kw B w' B rS1) (hb : Below w.heap.size w w') => see20 B w' B rS1 h (rM f t e s) Mc.nil (rM_at _ _ _ _ _) nil_ok (Tab.on HT.out hb) (show (3 : Int) ≠ 6 by decide) rfl rq1_ok (by simp [rS1]) (by simp [rS1]))
  rw [see_m2 f t e s hiM] at CSM
  have HQA := Lib.hid hqa
  have HA1 := Lib.hid hA1
  have HM1 := Lib.hid hM1
  rw [← hqa] at LQ ⊢
  rw [← hA1] at HX1 CM CSM
  rw [← hM1] at HX1 HTH1 HU1
  rw [show (rM f t e s).cells = A1.toList by rw [hA1]] at HU1
  clear hqa hA1 hM1 hx1 hu1 hth1 hU1
  refine wp_region_lit ?_
  refine wpl_val (v := .int .u8 fr) (w1 := w5) rfl (by go_simp) ({ tmps := #[.int .u8 fr, .int .u8 tt, .int .u8 ep, .int .u32 sq, .int .u8 tn, undef, undef, undef, undef, undef, .bool false, .pointer (some ⟨B, 0, none⟩), .pointer (some ⟨Q, 0, none⟩), undef, undef, .bool true, .bool false, .pointer (some ⟨B, 0, none⟩), .agg qa, .pointer (some ⟨B, 0, none⟩), .agg qa, .agg aR, .tuple #[], .int .u8 fr, undef, undef, undef, undef, undef, undef, undef, undef, undef, undef, undef, undef, undef, undef, undef, undef, undef, undef, undef, undef, undef, undef, undef, undef, undef, undef, undef, undef, undef, undef, undef, undef, undef, undef, undef, undef, undef, undef, undef, undef, undef, undef, undef, undef, undef, undef, undef, undef, undef, undef, undef, undef, undef, undef, undef, undef, undef], defers := [] }) rfl ?_
  refine wpl_val (v := .int .u8 f) (w1 := w5) rfl (by go_simp; exact HF.out) ({ tmps := #[.int .u8 fr, .int .u8 tt, .int .u8 ep, .int .u32 sq, .int .u8 tn, undef, undef, undef, undef, undef, .bool false, .pointer (some ⟨B, 0, none⟩), .pointer (some ⟨Q, 0, none⟩), undef, undef, .bool true, .bool false, .pointer (some ⟨B, 0, none⟩), .agg qa, .pointer (some ⟨B, 0, none⟩), .agg qa, .agg aR, .tuple #[], .int .u8 fr, .int .u8 f, undef, undef, undef, undef, undef, undef, undef, undef, undef, undef, undef, undef, undef, undef, undef, undef, undef, undef, undef, undef, undef, undef, undef, undef, undef, undef, undef, undef, undef, undef, undef, undef, undef, undef, undef, undef, undef, undef, undef, undef, undef, undef, undef, undef, undef, undef, undef, undef, undef, undef, undef, undef, undef, undef, undef, undef], defers := [] }) rfl ?_
  refine wpl_val (v := .int .u8 tt) (w1 := w5) rfl (by go_simp) ({ tmps := #[.int .u8 fr, .int .u8 tt, .int .u8 ep, .int .u32 sq, .int .u8 tn, undef, undef, undef, undef, undef, .bool false, .pointer (some ⟨B, 0, none⟩), .pointer (some ⟨Q, 0, none⟩), undef, undef, .bool true, .bool false, .pointer (some ⟨B, 0, none⟩), .agg qa, .pointer (some ⟨B, 0, none⟩), .agg qa, .agg aR, .tuple #[], .int .u8 fr, .int .u8 f, .int .u8 tt, undef, undef, undef, undef, undef, undef, undef, undef, undef, undef, undef, undef, undef, undef, undef, undef, undef, undef, undef, undef, undef, undef, undef, undef, undef, undef, undef, undef, undef, undef, undef, undef, undef, undef, undef, undef, undef, undef, undef, undef, undef, undef, undef, undef, undef, undef, undef, undef, undef, undef, undef, undef, undef, undef, undef], defers := [] }) rfl ?_
  refine wpl_val (v := .int .u8 t) (w1 := w5) rfl (by go_simp; exact HTT.out) ({ tmps := #[.int .u8 fr, .int .u8 tt, .int .u8 ep, .int .u32 sq, .int .u8 tn, undef, undef, undef, undef, undef, .bool false, .pointer (some ⟨B, 0, none⟩), .pointer (some ⟨Q, 0, none⟩), undef, undef, .bool true, .bool false, .pointer (some ⟨B, 0, none⟩), .agg qa, .pointer (some ⟨B, 0, none⟩), .agg qa, .agg aR, .tuple #[], .int .u8 fr, .int .u8 f, .int .u8 tt, .int .u8 t, undef, undef, undef, undef, undef, undef, undef, undef, undef, undef, undef, undef, undef, undef, undef, undef, undef, undef, undef, undef, undef, undef, undef, undef, undef, undef, undef, undef, undef, undef, undef, undef, undef, undef, undef, undef, undef, undef, undef, undef, undef, undef, undef, undef, undef, undef, undef, undef, undef, undef, undef, undef, undef, undef], defers := [] }) rfl ?_
  refine wpl_val (v := .int .u8 ep) (w1 := w5) rfl (by go_simp) ({ tmps := #[.int .u8 fr, .int .u8 tt, .int .u8 ep, .int .u32 sq, .int .u8 tn, undef, undef, undef, undef, undef, .bool false, .pointer (some ⟨B, 0, none⟩), .pointer (some ⟨Q, 0, none⟩), undef, undef, .bool true, .bool false, .pointer (some ⟨B, 0, none⟩), .agg qa, .pointer (some ⟨B, 0, none⟩), .agg qa, .agg aR, .tuple #[], .int .u8 fr, .int .u8 f, .int .u8 tt, .int .u8 t, .int .u8 ep, undef, undef, undef, undef, undef, undef, undef, undef, undef, undef, undef, undef, undef, undef, undef, undef, undef, undef, undef, undef, undef, undef, undef, undef, undef, undef, undef, undef, undef, undef, undef, undef, undef, undef, undef, undef, undef, undef, undef, undef, undef, undef, undef, undef, undef, undef, undef, undef, undef, undef, undef, undef, undef], defers := [] }) rfl ?_
  refine wpl_val (v := .int .u8 e2) (w1 := w5) rfl (by go_simp; exact HE2.out) ({ tmps := #[.int .u8 fr, .int .u8 tt, .int .u8 ep, .int .u32 sq, .int .u8 tn, undef, undef, undef, undef, undef, .bool false, .pointer (some ⟨B, 0, none⟩), .pointer (some ⟨Q, 0, none⟩), undef, undef, .bool true, .bool false, .pointer (some ⟨B, 0, none⟩), .agg qa, .pointer (some ⟨B, 0, none⟩), .agg qa, .agg aR, .tuple #[], .int .u8 fr, .int .u8 f, .int .u8 tt, .int .u8 t, .int .u8 ep, .int .u8 e2, undef, undef, undef, undef, undef, undef, undef, undef, undef, undef, undef, undef, undef, undef, undef, undef, undef, undef, undef, undef, undef, undef, undef, undef, undef, undef, undef, undef, undef, undef, undef, undef, undef, undef, undef, undef, undef, undef, undef, undef, undef, undef, undef, undef, undef, undef, undef, undef, undef, undef, undef, undef], defers := [] }) rfl ?_
  refine wpl_val (v := .int .u8 e) (w1 := w5) rfl (by go_simp; exact HE.out) ({ tmps := #[.int .u8 fr, .int .u8 tt, .int .u8 ep, .int .u32 sq, .int .u8 tn, undef, undef, undef, undef, undef, .bool false, .pointer (some ⟨B, 0, none⟩), .pointer (some ⟨Q, 0, none⟩), undef, undef, .bool true, .bool false, .pointer (some ⟨B, 0, none⟩), .agg qa, .pointer (some ⟨B, 0, none⟩), .agg qa, .agg aR, .tuple #[], .int .u8 fr, .int .u8 f, .int .u8 tt, .int .u8 t, .int .u8 ep, .int .u8 e2, .int .u8 e, undef, undef, undef, undef, undef, undef, undef, undef, undef, undef, undef, undef, undef, undef, undef, undef, undef, undef, undef, undef, undef, undef, undef, undef, undef, undef, undef, undef, undef, undef, undef, undef, undef, undef, undef, undef, undef, undef, undef, undef, undef, undef, undef, undef, undef, undef, undef, undef, undef, undef, undef], defers := [] }) rfl ?_
  refine wpl_val (v := .int .u32 sq) (w1 := w5) rfl (by go_simp) ({ tmps := #[.int .u8 fr, .int .u8 tt, .int .u8 ep, .int .u32 sq, .int .u8 tn, undef, undef, undef, undef, undef, .bool false, .pointer (some ⟨B, 0, none⟩), .pointer (some ⟨Q, 0, none⟩), undef, undef, .bool true, .bool false, .pointer (some ⟨B, 0, none⟩), .agg qa, .pointer (some ⟨B, 0, none⟩), .agg qa, .agg aR, .tuple #[], .int .u8 fr, .int .u8 f, .int .u8 tt, .int .u8 t, .int .u8 ep, .int .u8 e2, .int .u8 e, .int .u32 sq, undef, undef, undef, undef, undef, undef, undef, undef, undef, undef, undef, undef, undef, undef, undef, undef, undef, undef, undef, undef, undef, undef, undef, undef, undef, undef, undef, undef, undef, undef, undef, undef, undef, undef, undef, undef, undef, undef, undef, undef, undef, undef, undef, undef, undef, undef, undef, undef, undef, undef], defers := [] }) rfl ?_
  refine wpl_val (v := .int .u32 s2) (w1 := w5) rfl (by go_simp; exact HS2.out) ({ tmps := #[.int .u8 fr, .int .u8 tt, .int .u8 ep, .int .u32 sq, .int .u8 tn, undef, undef, undef, undef, undef, .bool false, .pointer (some ⟨B, 0, none⟩), .pointer (some ⟨Q, 0, none⟩), undef, undef, .bool true, .bool false, .pointer (some ⟨B, 0, none⟩), .agg qa, .pointer (some ⟨B, 0, none⟩), .agg qa, .agg aR, .tuple #[], .int .u8 fr, .int .u8 f, .int .u8 tt, .int .u8 t, .int .u8 ep, .int .u8 e2, .int .u8 e, .int .u32 sq, .int .u32 s2, undef, undef, undef, undef, undef, undef, undef, undef, undef, undef, undef, undef, undef, undef, undef, undef, undef, undef, undef, undef, undef, undef, undef, undef, undef, undef, undef, undef, undef, undef, undef, undef, undef, undef, undef, undef, undef, undef, undef, undef, undef, undef, undef, undef, undef, undef, undef, undef, undef], defers := [] }) rfl ?_
  refine wpl_val (v := .int .u32 s) (w1 := w5) rfl (by go_simp; exact HSS.out) ({ tmps := #[.int .u8 fr, .int .u8 tt, .int .u8 ep, .int .u32 sq, .int .u8 tn, undef, undef, undef, undef, undef, .bool false, .pointer (some ⟨B, 0, none⟩), .pointer (some ⟨Q, 0, none⟩), undef, undef, .bool true, .bool false, .pointer (some ⟨B, 0, none⟩), .agg qa, .pointer (some ⟨B, 0, none⟩), .agg qa, .agg aR, .tuple #[], .int .u8 fr, .int .u8 f, .int .u8 tt, .int .u8 t, .int .u8 ep, .int .u8 e2, .int .u8 e, .int .u32 sq, .int .u32 s2, .int .u32 s, undef, undef, undef, undef, undef, undef, undef, undef, undef, undef, undef, undef, undef, undef, undef, undef, undef, undef, undef, undef, undef, undef, undef, undef, undef, undef, undef, undef, undef, undef, undef, undef, undef, undef, undef, undef, undef, undef, undef, undef, undef, undef, undef, undef, undef, undef, undef, undef], defers := [] }) rfl ?_
  refine wpl_valg (v := .agg qa) (w1 := w5) rfl (exec_load 27 (.tmp 12) rfl rfl LQ.out) ({ tmps := #[.int .u8 fr, .int .u8 tt, .int .u8 ep, .int .u32 sq, .int .u8 tn, undef, undef, undef, undef, undef, .bool false, .pointer (some ⟨B, 0, none⟩), .pointer (some ⟨Q, 0, none⟩), undef, undef, .bool true, .bool false, .pointer (some ⟨B, 0, none⟩), .agg qa, .pointer (some ⟨B, 0, none⟩), .agg qa, .agg aR, .tuple #[], .int .u8 fr, .int .u8 f, .int .u8 tt, .int .u8 t, .int .u8 ep, .int .u8 e2, .int .u8 e, .int .u32 sq, .int .u32 s2, .int .u32 s, .agg qa, undef, undef, undef, undef, undef, undef, undef, undef, undef, undef, undef, undef, undef, undef, undef, undef, undef, undef, undef, undef, undef, undef, undef, undef, undef, undef, undef, undef, undef, undef, undef, undef, undef, undef, undef, undef, undef, undef, undef, undef, undef, undef, undef, undef, undef, undef, undef], defers := [] }) rfl ?_
  refine wpl_val (v := .agg A1) (w1 := w5) rfl (by rw [HA1.out, HQA.out]; simp only [rM, rq1, hm, Mg.cells, Rq.cells, Rq.zero, Vt.zero]; go_simp) ({ tmps := #[.int .u8 fr, .int .u8 tt, .int .u8 ep, .int .u32 sq, .int .u8 tn, undef, undef, undef, undef, undef, .bool false, .pointer (some ⟨B, 0, none⟩), .pointer (some ⟨Q, 0, none⟩), undef, undef, .bool true, .bool false, .pointer (some ⟨B, 0, none⟩), .agg qa, .pointer (some ⟨B, 0, none⟩), .agg qa, .agg aR, .tuple #[], .int .u8 fr, .int .u8 f, .int .u8 tt, .int .u8 t, .int .u8 ep, .int .u8 e2, .int .u8 e, .int .u32 sq, .int .u32 s2, .int .u32 s, .agg qa, .agg A1, undef, undef, undef, undef, undef, undef, undef, undef, undef, undef, undef, undef, undef, undef, undef, undef, undef, undef, undef, undef, undef, undef, undef, undef, undef, undef, undef, undef, undef, undef, undef, undef, undef, undef, undef, undef, undef, undef, undef, undef, undef, undef, undef, undef, undef, undef], defers := [] }) rfl ?_
  refine wpl_val (v := .pointer (some ⟨M1, 0, none⟩)) (w1 := w5.alloc (.cells Vz.toArray 37)) rfl (by rw [HM1.out]; simp only [Vz]; go_simp) ({ tmps := #[.int .u8 fr, .int .u8 tt, .int .u8 ep, .int .u32 sq, .int .u8 tn, undef, undef, undef, undef, undef, .bool false, .pointer (some ⟨B, 0, none⟩), .pointer (some ⟨Q, 0, none⟩), .pointer (some ⟨M1, 0, none⟩), undef, .bool true, .bool false, .pointer (some ⟨B, 0, none⟩), .agg qa, .pointer (some ⟨B, 0, none⟩), .agg qa, .agg aR, .tuple #[], .int .u8 fr, .int .u8 f, .int .u8 tt, .int .u8 t, .int .u8 ep, .int .u8 e2, .int .u8 e, .int .u32 sq, .int .u32 s2, .int .u32 s, .agg qa, .agg A1, undef, undef, undef, undef, undef, undef, undef, undef, undef, undef, undef, undef, undef, undef, undef, undef, undef, undef, undef, undef, undef, undef, undef, undef, undef, undef, undef, undef, undef, undef, undef, undef, undef, undef, undef, undef, undef, undef, undef, undef, undef, undef, undef, undef, undef, undef], defers := [] }) rfl ?_
  refine wpList_store_mid rfl 37 (.tmp 13) (.tmp 34) rfl M1 0 A1 rfl rfl (by rw [HZ1.out]; exact HTH1.out) (by rw [HZ1.out]; exact size37) (by rw [HA1.out]; exact all_oneCell_toArray (Mg.one _)) ?_
  dsimp only
  rw [← HU1.out]
  clear HTH1 HU1 LQ
  go_upto_region 7 with fail
  refine wp_region_lit ?_
  refine wpl_val (v := .pointer (some ⟨B, 0, none⟩)) (w1 := U1) rfl (by go_simp) _ rfl ?_
  refine wpList_load_row rfl 37 (.tmp 13) rfl M1 rfl 37 _ (0, 0) _ HX1.out Tryd.underlying37 rfl (by rw [HZ1.out]; exact size37) ?_
  go_wp2_with fail
  have C1 := CM.out rS1 U1 HK6.out B6.out
  rw [can_m1 f t e s hiM] at C1
  refine Calls.mono C1 ?_
  rintro e' w6 ⟨rfl, hb6⟩
  have HK7 := Lib.hid (HK6.out.on hb6)
  have B7 := Lib.hid (B6.out.trans (hb6.mono (Nat.le_trans HRB.out HK6.out.le)))
  have HX2 := Lib.hid ((hb6.block _ (lt_of_block HX1.out)).trans HX1.out)
  clear hb6 C1
  go_upto_region 9 with fail
  refine wp_region_lit ?_
  refine wpl_val (v := .pointer (some ⟨B, 0, none⟩)) (w1 := w6) rfl (by go_simp) _ rfl ?_
  refine wpList_load_row rfl 37 (.tmp 13) rfl M1 rfl 37 _ (0, 0) _ HX2.out Tryd.underlying37 rfl (by rw [HZ1.out]; exact size37) ?_
  go_wp2_with fail
  refine Calls.mono (CSM.out w6 HK7.out B7.out) ?_
  rintro e' w7 ⟨rfl, hk8, hs8⟩
  have HK8 := Lib.hid hk8
  have B8 := Lib.hid (B7.out.trans (hs8.bel.mono HRB.out))
  have HX3 := Lib.hid (hs8.stay _ _ _ _ HMB.out HX2.out)
  clear hk8 hs8
  obtain ⟨U2, hU2⟩ : ∃ U, U = (w7.alloc (.cells Vz.toArray 37)).setCells w7.heap.size 0 (rM f t e s).cells := ⟨_, rfl⟩
  obtain ⟨hx2, hu2, hth2⟩ := msg_new w7 _ hU2
  have HK9 := Lib.hid (HK8.out.on hu2)
  have B9 := Lib.hid (B8.out.trans (hu2.mono (Nat.le_trans HRB.out HK8.out.le)))
  have HX4 := Lib.hid ((hu2.block _ (lt_of_block HX3.out)).trans HX3.out)
  have HN4 := Lib.hid hx2
  have HM12 := Lib.hid (show M1 ≠ w7.heap.size from by have := lt_of_block HX3.out; omega)
  have HTH2 := Lib.hid hth2
  rw [show (rM f t e s).cells = A1.toList by rw [HA1.out]] at hU2
  have HU2 := Lib.hid hU2
  clear hx2 hu2 hth2 hU2
  go_upto_region 10 with fail
  refine wp_region_lit ?_
  refine wpList_load_row rfl 37 (.tmp 13) rfl M1 rfl 37 _ (0, 0) _ HX3.out Tryd.underlying37 rfl (by rw [HZ1.out]; exact size37) ?_
  refine wpl_val (v := .pointer (some ⟨w7.heap.size, 0, none⟩)) (w1 := w7.alloc (.cells Vz.toArray 37)) rfl (by simp only [Vz]; go_simp) _ rfl ?_
  refine wpList_store_mid rfl 37 (.tmp 14) (.tmp 42) rfl w7.heap.size 0 A1 rfl rfl (by rw [HZ1.out]; exact HTH2.out) (by rw [HZ1.out]; exact size37) (by rw [HA1.out]; exact all_oneCell_toArray (Mg.one _)) ?_
  dsimp only
  rw [← HU2.out]
  clear HTH2 HU2
  generalize hM2 : w7.heap.size = M2 at *
  obtain ⟨j, hj⟩ : ∃ j, j = tn % 4 := ⟨_, rfl⟩
  have j0 : 0 ≤ j := by omega
  have j3 : j ≤ 3 := by omega
  go_upto_block 0 with fail
  rw [← hj]
  have HWM := Lib.hid (show w.heap.size ≤ M2 from by rw [← hM2]; exact B8.out.size)
  clear hj
  go_cut [] from 15 (fun wx => Hid (wx.heap[M2]? = some (.cells (rN f t e s j).cells.toArray 37 (0, 0)) ∧ wx.heap[M1]? = some (.cells A1 37 (0, 0)) ∧ Kw B wx B (rS2 f t e s) ∧ Below w.heap.size w wx))
  case first =>
    have hcase : j = 0 ∨ j = 1 ∨ j = 2 ∨ j = 3 := by omega
    rcases hcase with rfl | rfl | rfl | rfl
    · have x5 : U2.cell? ⟨M2, 5, none⟩ = some (.int .u32 s) := by rw [cell_of_row _ _ _ _ _ _ HN4.out]; rfl
      have z5 : U2.frozen? ⟨M2, 5, none⟩ = false := frozen_of_row _ _ _ _ _ HN4.out
      go_wp2_with fail
      go_meet
      have g0 := box_set HN4.out 5 (.int .u32 (s + 1))
      have k0 := Kw.set (i := 5) (v := .int .u32 (s + 1)) HK9.out HN4.out
      have b0 := Below.setCell B9.out (p := ⟨M2, 5, none⟩) HWM.out (.int .u32 (s + 1))
      have o0 := (Below.heap_setCell _ ⟨M2, 5, none⟩ (.int .u32 (s + 1)) M1 HM12.out).trans HX4.out
      rw [rNset0] at g0
      exact Lib.hid ⟨g0, o0, k0, b0⟩
    · have x4 : U2.cell? ⟨M2, 4, none⟩ = some (.int .u32 0) := by rw [cell_of_row _ _ _ _ _ _ HN4.out]; rfl
      have z4 : U2.frozen? ⟨M2, 4, none⟩ = false := frozen_of_row _ _ _ _ _ HN4.out
      go_wp2_with fail
      go_meet
      have g0 := box_set HN4.out 4 (.int .u32 1)
      have k0 := Kw.set (i := 4) (v := .int .u32 1) HK9.out HN4.out
      have b0 := Below.setCell B9.out (p := ⟨M2, 4, none⟩) HWM.out (.int .u32 1)
      have o0 := (Below.heap_setCell _ ⟨M2, 4, none⟩ (.int .u32 1) M1 HM12.out).trans HX4.out
      rw [rNset1] at g0
      exact Lib.hid ⟨g0, o0, k0, b0⟩
    · have x2 : U2.cell? ⟨M2, 2, none⟩ = some (.int .u8 t) := by rw [cell_of_row _ _ _ _ _ _ HN4.out]; rfl
      have z2 : U2.frozen? ⟨M2, 2, none⟩ = false := frozen_of_row _ _ _ _ _ HN4.out
      go_wp2_with fail
      go_meet
      have g0 := box_set HN4.out 2 (.int .u8 ((t + 1) % 4))
      have k0 := Kw.set (i := 2) (v := .int .u8 ((t + 1) % 4)) HK9.out HN4.out
      have b0 := Below.setCell B9.out (p := ⟨M2, 2, none⟩) HWM.out (.int .u8 ((t + 1) % 4))
      have o0 := (Below.heap_setCell _ ⟨M2, 2, none⟩ (.int .u8 ((t + 1) % 4)) M1 HM12.out).trans HX4.out
      rw [rNset2] at g0
      exact Lib.hid ⟨g0, o0, k0, b0⟩
    · have x6 : U2.cell? ⟨M2, 6, none⟩ = some (.int .u8 1) := by rw [cell_of_row _ _ _ _ _ _ HN4.out]; rfl
      have z6 : U2.frozen? ⟨M2, 6, none⟩ = false := frozen_of_row _ _ _ _ _ HN4.out
      have x7 : U2.cell? ⟨M2, 7, none⟩ = some (.int .u32 2) := by rw [cell_of_row _ _ _ _ _ _ HN4.out]; rfl
      have z7 : U2.frozen? ⟨M2, 7, none⟩ = false := frozen_of_row _ _ _ _ _ HN4.out
      have x8 : U2.cell? ⟨M2, 8, none⟩ = some (.int .u8 1) := by rw [cell_of_row _ _ _ _ _ _ HN4.out]; rfl
      have z8 : U2.frozen? ⟨M2, 8, none⟩ = false := frozen_of_row _ _ _ _ _ HN4.out
      have x9 : U2.cell? ⟨M2, 9, none⟩ = some (.int .u8 3) := by rw [cell_of_row _ _ _ _ _ _ HN4.out]; rfl
      have z9 : U2.frozen? ⟨M2, 9, none⟩ = false := frozen_of_row _ _ _ _ _ HN4.out
      have x10 : U2.cell? ⟨M2, 10, none⟩ = some (.int .u16 4) := by rw [cell_of_row _ _ _ _ _ _ HN4.out]; rfl
      have z10 : U2.frozen? ⟨M2, 10, none⟩ = false := frozen_of_row _ _ _ _ _ HN4.out
      go_wp2_with fail
      go_meet
      have g0 := box_set HN4.out 6 (.int .u8 0)
      have k0 := Kw.set (i := 6) (v := .int .u8 0) HK9.out HN4.out
      have b0 := Below.setCell B9.out (p := ⟨M2, 6, none⟩) HWM.out (.int .u8 0)
      have o0 := (Below.heap_setCell _ ⟨M2, 6, none⟩ (.int .u8 0) M1 HM12.out).trans HX4.out
      have g1 := box_set g0 7 (.int .u32 0)
      have k1 := Kw.set (i := 7) (v := .int .u32 0) k0 g0
      have b1 := Below.setCell b0 (p := ⟨M2, 7, none⟩) HWM.out (.int .u32 0)
      have o1 := (Below.heap_setCell _ ⟨M2, 7, none⟩ (.int .u32 0) M1 HM12.out).trans o0
      have g2 := box_set g1 8 (.int .u8 0)
      have k2 := Kw.set (i := 8) (v := .int .u8 0) k1 g1
      have b2 := Below.setCell b1 (p := ⟨M2, 8, none⟩) HWM.out (.int .u8 0)
      have o2 := (Below.heap_setCell _ ⟨M2, 8, none⟩ (.int .u8 0) M1 HM12.out).trans o1
      have g3 := box_set g2 9 (.int .u8 0)
      have k3 := Kw.set (i := 9) (v := .int .u8 0) k2 g2
      have b3 := Below.setCell b2 (p := ⟨M2, 9, none⟩) HWM.out (.int .u8 0)
      have o3 := (Below.heap_setCell _ ⟨M2, 9, none⟩ (.int .u8 0) M1 HM12.out).trans o2
      have g4 := box_set g3 10 (.int .u16 0)
      have k4 := Kw.set (i := 10) (v := .int .u16 0) k3 g3
      have b4 := Below.setCell b3 (p := ⟨M2, 10, none⟩) HWM.out (.int .u16 0)
      have o4 := (Below.heap_setCell _ ⟨M2, 10, none⟩ (.int .u16 0) M1 HM12.out).trans o3
      rw [rNset3] at g4
      exact Lib.hid ⟨g4, o4, k4, b4⟩
  case rest =>
    have HNN := Lib.hid hcut.out.1
    have HMM := Lib.hid hcut.out.2.1
    have HKK := Lib.hid hcut.out.2.2.1
    have HBB := Lib.hid hcut.out.2.2.2
    clear hcut
    obtain ⟨n1, n2, n3, n4⟩ := rN_fe f t e s j
    have CN := Lib.hid (fun w' (h : Kw B w' B (rS2 f t e s)) (hb : Below w.heap.size w w') => can22 B w' B (rS2 f t e s) h (rN f t e s j) Mc.nil (rN_at _ _ _ _ _ _) nil_ok (Tab.on HT.out hb) (by rw [rN_k]; decide) n3 (by rw [n1, n2]; exact hky) n4)
    rw [can_n2 f t e s j (rN_is f t e s j f0 f1 t0 t1 e0 e1 s0 s1) (rN_ne f t e s j t0 t1 s0 s1)] at CN
    have CL := Lib.hid (fun w' (h : Kw B w' B (rS2 f t e s)) => len23 B w' B (rS2 f t e s) h (a := toU (encM rR Mc.nil)) (b := toU (encM (rM f t e s) Mc.nil)) rfl (fun h => head_ne (m := rM f t e s) rfl h.symm))
    obtain ⟨A2, hA2⟩ : ∃ a, a = (rN f t e s j).cells.toArray := ⟨_, rfl⟩
    have HZ2 := Lib.hid (show A2.size = 25 by rw [hA2]; rfl)
    rw [← hA2] at CN HNN
    clear n1 n2 n3 n4 hA2
    go_upto_region 19 with fail
    refine wp_region_lit ?_
    refine wpl_val (v := .pointer (some ⟨B, 0, none⟩)) (w1 := wc) rfl (by go_simp) _ rfl ?_
    refine wpList_load_row rfl 37 (.tmp 13) rfl M1 rfl 37 _ (0, 0) _ HMM.out Tryd.underlying37 rfl (by rw [HZ1.out]; exact size37) ?_
    go_wp2_with fail
    have C1 := CM.out (rS2 f t e s) wc HKK.out HBB.out
    rw [can_m2 f t e s hiM] at C1
    refine Calls.mono C1 ?_
    rintro e' v1 ⟨rfl, hb1⟩
    have HKa := Lib.hid (HKK.out.on hb1)
    have Ba := Lib.hid (HBB.out.trans (hb1.mono (Nat.le_trans HRB.out HKK.out.le)))
    have HNa := Lib.hid ((hb1.block _ (lt_of_block HNN.out)).trans HNN.out)
    have hLA : (Instr.loadAt 37 (.pointer (some ⟨M2, 0, none⟩))).run Tryd.prog v1 = .ok (.agg A2) v1 := by
      have := run_loadVar_row (P := Tryd.prog) v1 M2 37 37 _ (0, 0) _ HNa.out Tryd.underlying37 rfl (by rw [HZ2.out]; exact size37)
      simp only [Instr.loadAt, Instr.sureAddr, Sem.run_bind, Sem.run_pure, Result.andThen_ok, this]
    clear hb1 C1
    dsimp only
    refine ‹∀ (a : Act) (w : World), wpList Tryd.prog _ _ _ a w → _› _ _ ?_
    refine wpl_val (v := .bool true) (w1 := v1) rfl (by go_simp) _ rfl ?_
    refine wpl_val (v := .bool true) (w1 := v1) rfl (by go_simp) _ rfl ?_
    refine wpl_valg (v := .pointer (some ⟨B, 0, none⟩)) (w1 := v1) rfl (by go_simp) _ rfl ?_
    refine wpl_valg (v := .agg A2) (w1 := v1) rfl (exec_load 37 (.tmp 14) rfl rfl hLA) _ rfl ?_
    clear hLA
    go_wp2_with fail
    refine Calls.mono (CN.out v1 HKa.out Ba.out) ?_
    rintro e' v2 ⟨rfl, hb2⟩
    have HKb := Lib.hid (HKa.out.on hb2)
    have Bb := Lib.hid (Ba.out.trans (hb2.mono (Nat.le_trans HRB.out HKa.out.le)))
    clear hb2
    go_wp2_with fail
    refine Calls.mono (CL.out v2 HKb.out) ?_
    rintro e' v3 ⟨rfl, rfl⟩
    go_wp2_with fail
    go_ret
    exact ⟨rfl, Bb.out⟩
end Go.Proofs.YtigpfaecbmnklaaDoor
