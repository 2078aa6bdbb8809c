/- The bytes of votes. -/
import Derived.Test.YtmkeckablkccnaaDoorFit
import Derived.Test.YtmkeckablkccnaaDoorEnc
namespace Go.Proofs.YtmkeckablkccnaaDoor
open Go.RowKit
set_option maxRecDepth 100000

/-- what lies in w lies apart from the writer, and is as it was when the writer began -/
structure Fro (w W0 : World) (B : Nat) (g : Option Nat) : Prop where
  bel : Below w.heap.size w W0
  hB : w.heap.size ≤ B
  hg : ∀ k, g = some k → w.heap.size ≤ k
theorem Fro.on {w W0 w1 : World} {B : Nat} {g : Option Nat} {ys : List Int} (h : Fro w W0 B g) (hw : Wrote W0 B g ys w1) : Below w.heap.size w w1 :=
  h.bel.trans (hw.bel (H := w.heap.size) h.bel.size h.hB h.hg)

def enB (x : En) : List Int := b4 x.s ++ (b4 x.v ++ x.rq.bytes)
def mkB (x : Mk) : List Int := b4 x.s ++ be8 x.r
def entsB (l : List En) : List Int := [(l.length : Int)] ++ l.flatMap enB
def marksY (l : List Mk) : List Int := [(l.length : Int)] ++ l.flatMap mkB
def voteY (v : Vt) (c : Vc) : List Int := [v.f] ++ ([v.e] ++ (b4 v.vw ++ (b4 v.lo ++ (marksY c.ms ++ (entsB c.p ++ entsB c.q)))))

theorem be8_len (x : Int) : (be8 x).length = 8 := by simp [be8]
theorem enB_len (x : En) : (enB x).length = 17 := by simp [enB, b4, Rq.bytes, b2]
theorem mkB_len (x : Mk) : (mkB x).length = 12 := by simp [mkB, b4, be8_len]
theorem flatMap_len {α : Type} {f : α → List Int} {k : Nat} (h : ∀ x, (f x).length = k) : ∀ l : List α, (l.flatMap f).length = l.length * k
  | [] => by simp
  | x :: r => by simp only [List.flatMap_cons, List.length_append, List.length_cons, h x, flatMap_len h r, Nat.add_mul]; omega
theorem entsB_len (l : List En) : (entsB l).length = 1 + l.length * 17 := by simp [entsB, flatMap_len enB_len]; omega
theorem marksY_len (l : List Mk) : (marksY l).length = 1 + l.length * 12 := by simp [marksY, flatMap_len mkB_len]; omega

/-- a block laid since is no part of the writer -/
theorem Wrote.fresh {W0 w W : World} {B : Nat} {g : Option Nat} {ys : List Int} (h : Wrote W0 B g ys w) {o : Obj} (hW : W = w.alloc o) {ob : Obj} (hob : W.heap[w.heap.size]? = some ob) :
    ∃ g0, Wrote W B g0 ys W ∧ (∀ zs w', Wrote W B g0 zs w' → Wrote W0 B g zs w') ∧ (∀ zs w', Wrote W B g0 zs w' → w'.heap[w.heap.size]? = some ob) ∧ ∀ wd, Fro wd W0 B g → Fro wd W B g0 := by
  have hh := h
  obtain ⟨g0, hw0, hk0, hg0⟩ := h
  have hbl : Below w.heap.size w W := by rw [hW]; exact (Below.refl _ _).alloc (Nat.le_refl _) _
  have hne : w.heap.size ≠ B := by have := hw0.lt; omega
  have hng : g0 ≠ some w.heap.size := by
    obtain ⟨ao, n, cap, hb, ho, h1, h2⟩ := hw0
    intro e
    have := own_lt ho (h1.trans e)
    omega
  exact ⟨g0, Wrote.start (hw0.below hbl), fun zs w' h => Wrote.trans hk0 hg0 (Wrote.trans (Kept.ofBelow hbl) (.inl rfl) h), fun zs w' h => h.stay hob hne hng, fun wd hF => ⟨(hF.on hh).trans (hbl.mono (hF.on hh).size), hF.hB, fun k e => by
    rcases hg0 with e' | ⟨k', e', hk'⟩
    · exact hF.hg k (e'.symm.trans e)
    · rw [e'] at e; injection e with e; have := hF.bel.size; omega⟩⟩

set_option maxHeartbeats 4000000 in
theorem writeEntries_wr (w W0 w1 : World) (B : Nat) (g : Option Nat) (ys : List Int) (v : Sl) (l : List En) (hF : Fro w W0 B g) (hr : Row w 7 En.cells v.val l) (h : Wrote W0 B g ys w1) (hl : ys.length ≤ 600000) (h40 : l.length ≤ 40) :
    Calls Tryd.prog 97 #[.pointer (some ⟨B, 0, none⟩), .slice v.a v.n v.c] w1 fun e w2 => e = .returned (.tuple #[]) ∧ Wrote W0 B g (ys ++ entsB l) w2 := by
  obtain ⟨a1, c1, q1, -, -, hn1, hr1⟩ := hr
  simp only [Sl.val] at q1
  rw [q1]
  clear q1
  have H1 := Lib.hid hr1
  have HF := Lib.hid hF
  have H := Lib.hid h
  obtain ⟨r, hrr⟩ : ∃ r, r = entsB l := ⟨_, rfl⟩
  rw [← hrr]
  unfold entsB at hrr
  have HR := Lib.hid hrr
  clear hr1 hF h hrr
  generalize hn : l.length = n at *
  have HN := Lib.hid hn
  clear hn
  go_enter Tryd.func97, Tryd.ntmps97
  go_wp2_with fail
  refine Calls.mono (u8_wr W0 w1 B g ys n H.out (by omega)) ?_
  rintro e w2 ⟨rfl, h2⟩
  have H2 := Lib.hid h2
  clear h2 H
  go_wp2_with fail
  go_loopw [13] (fun vi wr => ∃ j : Nat, j ≤ n ∧ vi = .int .i64 j ∧ Hid (Wrote W0 B g (ys ++ ([(n : Int)] ++ (l.take j).flatMap enB)) wr)) (fun i _ => n - (intOf i).toNat)
  case atStart => exact ⟨0, by omega, rfl, Lib.hid (by simpa using H2.out)⟩
  case round =>
    obtain ⟨j, hj, rfl, HW⟩ := hrel
    by_cases hlt : j < n
    · obtain ⟨x, hx⟩ : ∃ x, l[j]? = some x := ⟨_, List.getElem?_eq_getElem (by rw [HN.out]; exact hlt)⟩
      obtain ⟨b1, o1, e1, g1⟩ := H1.out j x hx
      have G : ∀ i u, x.cells[i]? = some u → wr.cell? ⟨b1, o1 + j * 7 + i, none⟩ = some u := fun i u hu => by
        have h3 := g1 i u hu
        rw [(HF.out.on HW.out).cell (cell_block h3)]; exact h3
      have l10 : wr.cell? ⟨b1, o1 + j * 7, none⟩ = some (.int .u32 x.s) := G 0 _ rfl
      have l11 : wr.cell? ⟨b1, o1 + j * 7 + 1, none⟩ = some (.int .u32 x.v) := G 1 _ rfl
      have l12 : wr.cell? ⟨b1, o1 + j * 7 + 2, none⟩ = some (.int .u8 x.rq.c) := G 2 _ rfl
      have l13 : wr.cell? ⟨b1, o1 + j * 7 + 3, none⟩ = some (.int .u32 x.rq.t) := G 3 _ rfl
      have l14 : wr.cell? ⟨b1, o1 + j * 7 + 4, none⟩ = some (.int .u8 x.rq.k) := G 4 _ rfl
      have l15 : wr.cell? ⟨b1, o1 + j * 7 + 5, none⟩ = some (.int .u8 x.rq.y) := G 5 _ rfl
      have l16 : wr.cell? ⟨b1, o1 + j * 7 + 6, none⟩ = some (.int .u16 x.rq.v) := G 6 _ rfl
      have hstep : ys ++ ([(n : Int)] ++ (l.take (j + 1)).flatMap enB) = (((ys ++ ([(n : Int)] ++ (l.take j).flatMap enB)) ++ b4 x.s) ++ b4 x.v) ++ x.rq.bytes := by
        rw [List.take_add_one, hx]; simp [List.flatMap_append, enB, List.append_assoc]
      have hlen : (ys ++ ([(n : Int)] ++ (l.take j).flatMap enB)).length ≤ 601000 := by
        simp only [List.length_append, flatMap_len enB_len, List.length_take, List.length_cons, List.length_nil]; have := HN.out; omega
      obtain ⟨W, hW⟩ : ∃ W, W = wr.alloc (.cells x.cells.toArray 130) := ⟨_, rfl⟩
      obtain ⟨g0, S0, send, stay, -⟩ := HW.out.fresh hW (ob := .cells x.cells.toArray 130 (0, 0)) (by rw [hW]; exact heap_alloc_new _ _)
      have HS0 := Lib.hid S0
      have HEND := Lib.hid send
      have HST := Lib.hid stay
      have HSTEP := Lib.hid hstep
      have q0 : W.cell? ⟨wr.heap.size, 0, none⟩ = some (.int .u32 x.s) := by rw [cell_of_row _ _ _ _ _ _ (stay _ _ S0)]; rfl
      have HWW := Lib.hid hW
      generalize hzs : ys ++ ([(n : Int)] ++ (l.take j).flatMap enB) = zs at *
      simp only [En.cells] at HWW
      clear hx g1 G hW S0 send stay hstep hzs
      subst e1
      go_upto_region 4 with fail
      rw [← HWW.out]
      clear HWW l10 l11 l12 l13 l14 l15 l16
      generalize hgs : wr.heap.size = gs at *
      go_wp2_with fail
      refine Calls.mono (u32_wr W W B g0 zs x.s HS0.out (by omega)) ?_
      rintro e v1 ⟨rfl, h1⟩
      have p := HST.out _ _ h1
      have q1 : v1.cell? ⟨gs, 1, none⟩ = some (.int .u32 x.v) := by rw [cell_of_row _ _ _ _ _ _ p]; rfl
      have HV1 := Lib.hid h1
      clear h1 p q0
      go_wp2_with fail
      refine Calls.mono (u32_wr W v1 B g0 _ x.v HV1.out (by simp [b4]; omega)) ?_
      rintro e v2 ⟨rfl, h1⟩
      have p := HST.out _ _ h1
      have r2 : v2.cell? ⟨gs, 2, none⟩ = some (.int .u8 x.rq.c) := by rw [cell_of_row _ _ _ _ _ _ p]; rfl
      have r3 : v2.cell? ⟨gs, 3, none⟩ = some (.int .u32 x.rq.t) := by rw [cell_of_row _ _ _ _ _ _ p]; rfl
      have r4 : v2.cell? ⟨gs, 4, none⟩ = some (.int .u8 x.rq.k) := by rw [cell_of_row _ _ _ _ _ _ p]; rfl
      have r5 : v2.cell? ⟨gs, 5, none⟩ = some (.int .u8 x.rq.y) := by rw [cell_of_row _ _ _ _ _ _ p]; rfl
      have r6 : v2.cell? ⟨gs, 6, none⟩ = some (.int .u16 x.rq.v) := by rw [cell_of_row _ _ _ _ _ _ p]; rfl
      have HV2 := Lib.hid h1
      clear h1 p q1
      go_wp2_with fail
      refine Calls.mono (writeReq_wr W v2 B g0 _ x.rq HV2.out (by simp [b4]; omega)) ?_
      rintro e v3 ⟨rfl, h1⟩
      have HV3 := Lib.hid (HEND.out _ _ h1)
      clear h1 r2 r3 r4 r5 r6
      go_wp2_with fail
      go_round
      case measure => simp [intOf]; omega
      case rel => exact ⟨j + 1, by omega, by go_num, Lib.hid (by rw [HSTEP.out]; exact HV3.out)⟩
    · obtain rfl : j = n := by omega
      have hR := HW.out
      rw [List.take_of_length_le (by rw [HN.out]; exact Nat.le_refl _)] at hR
      have HRR := Lib.hid hR
      clear hR
      go_wp2_with fail
      go_end0
      exact ⟨rfl, by rw [HR.out]; exact HRR.out⟩

set_option maxHeartbeats 4000000 in
theorem writeVote_wr (w W0 w1 : World) (B : Nat) (g : Option Nat) (ys : List Int) (v : Vt) (c : Vc) (hF : Fro w W0 B g) (hv : VtAt w v c) (h : Wrote W0 B g ys w1) (hl : ys.length ≤ 500000) (hm40 : c.ms.length ≤ 40) (hp40 : c.p.length ≤ 40) (hq40 : c.q.length ≤ 40) :
    Calls Tryd.prog 62 #[.pointer (some ⟨B, 0, none⟩), .agg v.cells.toArray] w1 fun e w2 => e = .returned (.tuple #[]) ∧ Wrote W0 B g (ys ++ voteY v c) w2 := by
  obtain ⟨r, hrr⟩ : ∃ r, r = voteY v c := ⟨_, rfl⟩
  rw [← hrr]
  unfold voteY marksY at hrr
  have HR := Lib.hid hrr
  obtain ⟨W, hW⟩ : ∃ W, W = w1.alloc (.cells v.cells.toArray 32) := ⟨_, rfl⟩
  obtain ⟨g0, S0, send, stay, hFF⟩ := h.fresh hW (ob := .cells v.cells.toArray 32 (0, 0)) (by rw [hW]; exact heap_alloc_new _ _)
  have HFW := Lib.hid (hFF w hF)
  have HCP := Lib.hid (fun w' zs (h' : Wrote W B g0 zs w') (hz : zs.length ≤ 600000) => writeEntries_wr w W w' B g0 zs v.p c.p (hFF w hF) hv.2.1 h' hz hp40)
  have HCQ := Lib.hid (fun w' zs (h' : Wrote W B g0 zs w') (hz : zs.length ≤ 600000) => writeEntries_wr w W w' B g0 zs v.q c.q (hFF w hF) hv.2.2 h' hz hq40)
  have HS0 := Lib.hid S0
  have HEND := Lib.hid send
  have HST := Lib.hid stay
  have q0 : W.cell? ⟨w1.heap.size, 0, none⟩ = some (.int .u8 v.f) := by rw [cell_of_row _ _ _ _ _ _ (stay _ _ S0)]; rfl
  have HW := Lib.hid hW
  obtain ⟨a1, c1, qq, -, -, hn1, hr1⟩ := hv.1
  simp only [Sl.val] at qq
  have HVC : Hid (v.cells = [.int .u8 v.f, .int .u8 v.e, .int .u32 v.vw, .int .u32 v.lo, .slice a1 c.ms.length c1, .slice v.p.a v.p.n v.p.c, .slice v.q.a v.q.n v.q.c]) := Lib.hid (by rw [← qq]; rfl)
  rw [HVC.out] at HW ⊢
  have H1 := Lib.hid hr1
  have hpl := entsB_len c.p
  have hql := entsB_len c.q
  clear hF hv h hW S0 send stay hFF hr1 hrr qq
  generalize hn : c.ms.length = n at *
  have HN := Lib.hid hn
  generalize hpe : entsB c.p = pe at *
  generalize hqe : entsB c.q = qe at *
  clear hn hpe hqe
  go_enter Tryd.func62, Tryd.ntmps62
  go_upto_region 1 with fail
  rw [← HW.out]
  clear HW
  generalize hgs : w1.heap.size = gs at *
  go_wp2_with fail
  refine Calls.mono (u8_wr W W B g0 ys v.f HS0.out (by omega)) ?_
  rintro e v1 ⟨rfl, h1⟩
  have p := HST.out _ _ h1
  have q1 : v1.cell? ⟨gs, 1, none⟩ = some (.int .u8 v.e) := by rw [cell_of_row _ _ _ _ _ _ p]; rfl
  have HV1 := Lib.hid h1
  clear h1 p q0
  go_wp2_with fail
  refine Calls.mono (u8_wr W v1 B g0 _ v.e HV1.out (by simp; omega)) ?_
  rintro e v2 ⟨rfl, h1⟩
  have p := HST.out _ _ h1
  have q2 : v2.cell? ⟨gs, 2, none⟩ = some (.int .u32 v.vw) := by rw [cell_of_row _ _ _ _ _ _ p]; rfl
  have HV2 := Lib.hid h1
  clear h1 p q1
  go_wp2_with fail
  refine Calls.mono (u32_wr W v2 B g0 _ v.vw HV2.out (by simp; omega)) ?_
  rintro e v3 ⟨rfl, h1⟩
  have p := HST.out _ _ h1
  have q3 : v3.cell? ⟨gs, 3, none⟩ = some (.int .u32 v.lo) := by rw [cell_of_row _ _ _ _ _ _ p]; rfl
  have HV3 := Lib.hid h1
  clear h1 p q2
  go_wp2_with fail
  refine Calls.mono (u32_wr W v3 B g0 _ v.lo HV3.out (by simp [b4]; omega)) ?_
  rintro e v4 ⟨rfl, h1⟩
  have p := HST.out _ _ h1
  have q4 : v4.cell? ⟨gs, 4, none⟩ = some (.slice a1 n c1) := by rw [cell_of_row _ _ _ _ _ _ p, HVC.out]; rfl
  have HV4 := Lib.hid h1
  clear h1 p q3
  go_wp2_with fail
  refine Calls.mono (u8_wr W v4 B g0 _ n HV4.out (by simp [b4]; omega)) ?_
  rintro e v5 ⟨rfl, h1⟩
  have p := HST.out _ _ h1
  have q5 : v5.cell? ⟨gs, 4, none⟩ = some (.slice a1 n c1) := by rw [cell_of_row _ _ _ _ _ _ p, HVC.out]; rfl
  obtain ⟨zs, hzs⟩ : ∃ zs, zs = ys ++ [v.f] ++ [v.e] ++ b4 v.vw ++ b4 v.lo := ⟨_, rfl⟩
  have hzl : zs.length ≤ 500010 := by rw [hzs]; simp [b4]; omega
  rw [← hzs] at h1
  have HZS := Lib.hid hzs
  have HV5 := Lib.hid h1
  clear h1 p q4 hzs
  go_wp2_with fail
  go_loopw [31] (fun vi wr => ∃ j : Nat, j ≤ n ∧ vi = .int .i64 j ∧ Hid (Wrote W B g0 (zs ++ ([(n : Int)] ++ (c.ms.take j).flatMap mkB)) wr)) (fun i _ => n - (intOf i).toNat)
  case atStart => exact ⟨0, by omega, rfl, Lib.hid (by simpa using HV5.out)⟩
  case round =>
    obtain ⟨j, hj, rfl, HX⟩ := hrel
    have hlen : (zs ++ ([(n : Int)] ++ (c.ms.take j).flatMap mkB)).length ≤ 502000 := by
      simp only [List.length_append, flatMap_len mkB_len, List.length_take, List.length_cons, List.length_nil]; have := HN.out; omega
    by_cases hlt : j < n
    · obtain ⟨x, hx⟩ : ∃ x, c.ms[j]? = some x := ⟨_, List.getElem?_eq_getElem (by rw [HN.out]; exact hlt)⟩
      obtain ⟨b1, o1, e1, g1⟩ := H1.out j x hx
      have G : ∀ i u, x.cells[i]? = some u → wr.cell? ⟨b1, o1 + j * 2 + i, none⟩ = some u := fun i u hu => by
        have h3 := g1 i u hu
        rw [(HFW.out.on HX.out).cell (cell_block h3)]; exact h3
      have l10 : wr.cell? ⟨b1, o1 + j * 2, none⟩ = some (.int .u32 x.s) := G 0 _ rfl
      have l11 : wr.cell? ⟨b1, o1 + j * 2 + 1, none⟩ = some (.int .u64 x.r) := G 1 _ rfl
      have hstep : zs ++ ([(n : Int)] ++ (c.ms.take (j + 1)).flatMap mkB) = ((zs ++ ([(n : Int)] ++ (c.ms.take j).flatMap mkB)) ++ b4 x.s) ++ be8 x.r := by
        rw [List.take_add_one, hx]; simp [List.flatMap_append, mkB, List.append_assoc]
      obtain ⟨X, hX⟩ : ∃ X, X = wr.alloc (.cells x.cells.toArray 127) := ⟨_, rfl⟩
      obtain ⟨g2, T0, tend, tstay, -⟩ := HX.out.fresh hX (ob := .cells x.cells.toArray 127 (0, 0)) (by rw [hX]; exact heap_alloc_new _ _)
      have HT0 := Lib.hid T0
      have HTEND := Lib.hid tend
      have HTST := Lib.hid tstay
      have HSTEP := Lib.hid hstep
      have q0 : X.cell? ⟨wr.heap.size, 0, none⟩ = some (.int .u32 x.s) := by rw [cell_of_row _ _ _ _ _ _ (tstay _ _ T0)]; rfl
      have HXX := Lib.hid hX
      generalize hts : zs ++ ([(n : Int)] ++ (c.ms.take j).flatMap mkB) = ts at *
      simp only [Mk.cells] at HXX
      clear hx g1 G hX T0 tend tstay hstep hts
      subst e1
      go_upto_region 9 with fail
      rw [← HXX.out]
      clear HXX l10 l11
      generalize hgt : wr.heap.size = gt at *
      go_wp2_with fail
      refine Calls.mono (u32_wr X X B g2 ts x.s HT0.out (by omega)) ?_
      rintro e y1 ⟨rfl, h1⟩
      have p := HTST.out _ _ h1
      have q1 : y1.cell? ⟨gt, 1, none⟩ = some (.int .u64 x.r) := by rw [cell_of_row _ _ _ _ _ _ p]; rfl
      have HY1 := Lib.hid h1
      clear h1 p q0
      go_wp2_with fail
      refine Calls.mono (u64_wr X y1 B g2 _ x.r HY1.out (by simp [b4]; omega)) ?_
      rintro e y2 ⟨rfl, h1⟩
      have HY2 := Lib.hid (HTEND.out _ _ h1)
      clear h1 q1
      go_wp2_with fail
      go_round
      case measure => simp [intOf]; omega
      case rel => exact ⟨j + 1, by omega, by go_num, Lib.hid (by rw [HSTEP.out]; exact HY2.out)⟩
    · obtain rfl : j = n := by omega
      have hR := HX.out
      rw [List.take_of_length_le (by rw [HN.out]; exact Nat.le_refl _)] at hR hlen
      have HRR := Lib.hid hR
      have p := HST.out _ _ hR
      have q6 : wr.cell? ⟨gs, 5, none⟩ = some (.slice v.p.a v.p.n v.p.c) := by rw [cell_of_row _ _ _ _ _ _ p]; rfl
      generalize hts : zs ++ ([(j : Int)] ++ c.ms.flatMap mkB) = ts at *
      have HTS := Lib.hid hts
      clear hR hts p
      go_wp2_with fail
      refine Calls.mono (HCP.out _ _ HRR.out (by omega)) ?_
      rintro e y1 ⟨rfl, h1⟩
      have p := HST.out _ _ h1
      have q7 : y1.cell? ⟨gs, 6, none⟩ = some (.slice v.q.a v.q.n v.q.c) := by rw [cell_of_row _ _ _ _ _ _ p]; rfl
      have HY1 := Lib.hid h1
      clear h1 p q6
      go_wp2_with fail
      refine Calls.mono (HCQ.out _ _ HY1.out (by rw [List.length_append]; omega)) ?_
      rintro e y2 ⟨rfl, h1⟩
      have HY2 := Lib.hid (HEND.out _ _ h1)
      clear h1 q7
      go_wp2_with fail
      go_end0
      refine ⟨rfl, ?_⟩
      have := HY2.out
      rw [← HTS.out, HZS.out] at this
      rw [HR.out]
      simpa [List.append_assoc] using this
end Go.Proofs.YtmkeckablkccnaaDoor
