/- The bytes of votes. The bytes of every message. What comes in: the cells of a struct, whatever structs are in it; rows of structs. Which messages the laws of layer 3 look at: their lists are short. What comes in: requests, bytes. -/
import Derived.Test.YtbpfkeeikhhlnaaGreatDoorC07
import Derived.Test.YtbpfkeeikhhlnaaGreatDoorC06
import Derived.Test.YtbpfkeeikhhlnaaGreatDoorC02
import Derived.Shelf.LaysM
import Derived.Shelf.Strconv.AppendUint10
import Derived.Test.YtbpfkeeikhhlnaaGreatDoorC01
import Derived.Test.YtbpfkeeikhhlnaaGreatDoorT01
import Derived.Deep.QuietTactic
import Derived.BigQuiet
import Derived.Deep.RegionWith
import Derived.Laws.StructEq
import Derived.Shelf.SlicesQ.Equal
import Derived.Shelf.SlicesQ.Load
import Derived.Lib.SlBy2
import Derived.Deep.Cut
import Derived.Test.YtbpfkeeikhhlnaaGreatDoorC03
import Derived.Test.YtbpfkeeikhhlnaaGreatDoorRows
import Derived.WalkKit
import Derived.WalkSpells
import Derived.WalkLawsBesides
import Derived.OwnWalk
import Derived.Maps.AppendAt
import Derived.Laws.OwnMore
import Derived.Laws.BytesArg
import Derived.OneCell
import Derived.Below
import Derived.Lib.Hide
import Derived.Deep.RegionHeld3
import Derived.Laws.Cover1
import Derived.Test.YtbpfkeeikhhlnaaGreatDoorC05
import Derived.Test.YtbpfkeeikhhlnaaGreatDoorC04
import Derived.Deep.MidRow
import Derived.Test.YtbpfkeeikhhlnaaGreatDoorC21
import Derived.ProofKit
import Derived.OpenShut
import Derived.ChangeOld
import Derived.Deep.Slices
import Derived.Laws.ResultCell
import Derived.Laws.MakeOwn
import Derived.LaidMore
import Derived.Lay
namespace Go.Proofs.YtbpfkeeikhhlnaaGreatDoor
open Go.RowKit
set_option maxRecDepth 100000

/-- a block laid since is no part of the writer -/
theorem Wrote.fresh {W0 w W : World} {B : Nat} {g : Option Nat} {ys : List Int} (h : Wrote W0 B g ys w) {o : Obj} (hW : W = w.alloc o) {ob : Obj} (hob : W.heap[w.heap.size]? = some ob) :
    ∃ g0, Wrote W B g0 ys W ∧ (∀ zs w', Wrote W B g0 zs w' → Wrote W0 B g zs w') ∧ (∀ zs w', Wrote W B g0 zs w' → w'.heap[w.heap.size]? = some ob) ∧ ∀ wd, Fro wd W0 B g → Fro wd W B g0 := by
  have hh := h
  obtain ⟨g0, hw0, hk0, hg0⟩ := h
  have hbl := bl1 hW
  have hne : w.heap.size ≠ B := by have := hw0.lt; omega
  have hng : g0 ≠ some w.heap.size := by
    obtain ⟨ao, n, cap, hb, ho, h1, h2⟩ := hw0
    intro e
    have := own_lt ho (h1.trans e)
    omega
  exact ⟨g0, Wrote.start (hw0.below hbl), fun zs w' h => Wrote.trans hk0 hg0 (Wrote.trans (Kept.ofBelow hbl) (.inl rfl) h), fun zs w' h => h.stay hob hne hng, fun wd hF => ⟨(hF.on hh).trans (hbl.mono (hF.on hh).size), hF.hB, fun k e => by
    rcases hg0 with e' | ⟨k', e', hk'⟩
    · exact hF.hg k (e'.symm.trans e)
    · rw [e'] at e; injection e with e; have := hF.bel.size; omega⟩⟩

set_option maxHeartbeats 4000000 in
theorem writeEntries_wr (w W0 w1 : World) (B : Nat) (g : Option Nat) (ys : List Int) (v : Sl) (l : List En) (hF : Fro w W0 B g) (hr : Row w 7 En.cells v.val l) (h : Wrote W0 B g ys w1) (hl : ys.length ≤ 600000) (h40 : l.length ≤ 40) :
    Calls Tryz.prog 96 #[.pointer (some ⟨B, 0, none⟩), .slice v.a v.n v.c] w1 fun e w2 => e = .returned (.tuple #[]) ∧ Wrote W0 B g (ys ++ entsB l) w2 := by
  obtain ⟨a1, c1, q1, -, -, hn1, hr1⟩ := hr
  simp only [Sl.val] at q1
  rw [q1]
  clear q1
  have H1 := Lib.hid hr1
  have HF := Lib.hid hF
  have H := Lib.hid h
  obtain ⟨r, hrr⟩ : ∃ r, r = entsB l := ⟨_, rfl⟩
  rw [← hrr]
  unfold entsB at hrr
  have HR := Lib.hid hrr
  clear hr1 hF h hrr
  generalize hn : l.length = n at *
  have HN := Lib.hid hn
  clear hn
  go_enter Tryz.func96, Tryz.ntmps96
  go_wp2_with fail
  refine Calls.mono (u8_wr W0 w1 B g ys n H.out (by omega)) ?_
  rintro e w2 ⟨rfl, h2⟩
  have H2 := Lib.hid h2
  clear h2 H
  go_wp2_with fail
  go_loopw [13] (fun vi wr => ∃ j : Nat, j ≤ n ∧ vi = .int .i64 j ∧ Hid (Wrote W0 B g (ys ++ ([(n : Int)] ++ (l.take j).flatMap enB)) wr)) (fun i _ => n - (intOf i).toNat)
  case atStart => exact ⟨0, by omega, rfl, Lib.hid (by simpa using H2.out)⟩
  case round =>
    obtain ⟨j, hj, rfl, HW⟩ := hrel
    by_cases hlt : j < n
    · obtain ⟨x, hx⟩ : ∃ x, l[j]? = some x := ⟨_, List.getElem?_eq_getElem (by rw [HN.out]; exact hlt)⟩
      obtain ⟨b1, o1, e1, g1⟩ := H1.out j x hx
      have G : ∀ i u, x.cells[i]? = some u → wr.cell? ⟨b1, o1 + j * 7 + i, none⟩ = some u := fun i u hu => by
        have h3 := g1 i u hu
        rw [(HF.out.on HW.out).cell (cell_block h3)]; exact h3
      have l10 : wr.cell? ⟨b1, o1 + j * 7, none⟩ = some (.int .u32 x.s) := G 0 _ rfl
      have l11 : wr.cell? ⟨b1, o1 + j * 7 + 1, none⟩ = some (.int .u32 x.v) := G 1 _ rfl
      have l12 : wr.cell? ⟨b1, o1 + j * 7 + 2, none⟩ = some (.int .u8 x.rq.c) := G 2 _ rfl
      have l13 : wr.cell? ⟨b1, o1 + j * 7 + 3, none⟩ = some (.int .u32 x.rq.t) := G 3 _ rfl
      have l14 : wr.cell? ⟨b1, o1 + j * 7 + 4, none⟩ = some (.int .u8 x.rq.k) := G 4 _ rfl
      have l15 : wr.cell? ⟨b1, o1 + j * 7 + 5, none⟩ = some (.int .u8 x.rq.y) := G 5 _ rfl
      have l16 : wr.cell? ⟨b1, o1 + j * 7 + 6, none⟩ = some (.int .u16 x.rq.v) := G 6 _ rfl
      have hstep : ys ++ ([(n : Int)] ++ (l.take (j + 1)).flatMap enB) = (((ys ++ ([(n : Int)] ++ (l.take j).flatMap enB)) ++ b4 x.s) ++ b4 x.v) ++ x.rq.bytes := by
        rw [List.take_add_one, hx]; simp [List.flatMap_append, enB, List.append_assoc]
      have hlen : (ys ++ ([(n : Int)] ++ (l.take j).flatMap enB)).length ≤ 601000 := by
        simp only [List.length_append, flatMap_len enB_len, List.length_take, List.length_cons, List.length_nil]; have := HN.out; omega
      obtain ⟨W, hW⟩ : ∃ W, W = wr.alloc (.cells x.cells.toArray 80) := ⟨_, rfl⟩
      obtain ⟨g0, S0, send, stay, -⟩ := HW.out.fresh hW (ob := .cells x.cells.toArray 80 (0, 0)) (by rw [hW]; exact heap_alloc_new _ _)
      have HS0 := Lib.hid S0
      have HEND := Lib.hid send
      have HST := Lib.hid stay
      have HSTEP := Lib.hid hstep
      have q0 : W.cell? ⟨wr.heap.size, 0, none⟩ = some (.int .u32 x.s) := by rw [cell_of_row _ _ _ _ _ _ (stay _ _ S0)]; rfl
      have HWW := Lib.hid hW
      generalize hzs : ys ++ ([(n : Int)] ++ (l.take j).flatMap enB) = zs at *
      simp only [En.cells] at HWW
      clear hx g1 G hW S0 send stay hstep hzs
      subst e1
      go_upto_region 4 with fail
      rw [← HWW.out]
      clear HWW l10 l11 l12 l13 l14 l15 l16
      generalize hgs : wr.heap.size = gs at *
      go_wp2_with fail
      refine Calls.mono (u32_wr W W B g0 zs x.s HS0.out (by omega)) ?_
      rintro e v1 ⟨rfl, h1⟩
      have p := HST.out _ _ h1
      have q1 : v1.cell? ⟨gs, 1, none⟩ = some (.int .u32 x.v) := by rw [cell_of_row _ _ _ _ _ _ p]; rfl
      have HV1 := Lib.hid h1
      clear h1 p q0
      go_wp2_with fail
      refine Calls.mono (u32_wr W v1 B g0 _ x.v HV1.out (by simp [b4]; omega)) ?_
      rintro e v2 ⟨rfl, h1⟩
      have p := HST.out _ _ h1
      have r2 : v2.cell? ⟨gs, 2, none⟩ = some (.int .u8 x.rq.c) := by rw [cell_of_row _ _ _ _ _ _ p]; rfl
      have r3 : v2.cell? ⟨gs, 3, none⟩ = some (.int .u32 x.rq.t) := by rw [cell_of_row _ _ _ _ _ _ p]; rfl
      have r4 : v2.cell? ⟨gs, 4, none⟩ = some (.int .u8 x.rq.k) := by rw [cell_of_row _ _ _ _ _ _ p]; rfl
      have r5 : v2.cell? ⟨gs, 5, none⟩ = some (.int .u8 x.rq.y) := by rw [cell_of_row _ _ _ _ _ _ p]; rfl
      have r6 : v2.cell? ⟨gs, 6, none⟩ = some (.int .u16 x.rq.v) := by rw [cell_of_row _ _ _ _ _ _ p]; rfl
      have HV2 := Lib.hid h1
      clear h1 p q1
      go_wp2_with fail
      refine Calls.mono (writeReq_wr W v2 B g0 _ x.rq HV2.out (by simp [b4]; omega)) ?_
      rintro e v3 ⟨rfl, h1⟩
      have HV3 := Lib.hid (HEND.out _ _ h1)
      clear h1 r2 r3 r4 r5 r6
      go_wp2_with fail
      go_round
      case measure => simp [intOf]; omega
      case rel => exact ⟨j + 1, by omega, by go_num, Lib.hid (by rw [HSTEP.out]; exact HV3.out)⟩
    · obtain rfl : j = n := by omega
      have hR := HW.out
      rw [List.take_of_length_le (by rw [HN.out]; exact Nat.le_refl _)] at hR
      have HRR := Lib.hid hR
      clear hR
      go_wp2_with fail
      go_end0
      exact ⟨rfl, by rw [HR.out]; exact HRR.out⟩

set_option maxHeartbeats 4000000 in
theorem writeVote_wr (w W0 w1 : World) (B : Nat) (g : Option Nat) (ys : List Int) (v : Vt) (c : Vc) (hF : Fro w W0 B g) (hv : VtAt w v c) (h : Wrote W0 B g ys w1) (hl : ys.length ≤ 500000) (hm40 : c.ms.length ≤ 40) (hp40 : c.p.length ≤ 40) (hq40 : c.q.length ≤ 40) :
    Calls Tryz.prog 69 #[.pointer (some ⟨B, 0, none⟩), .agg v.cells.toArray] w1 fun e w2 => e = .returned (.tuple #[]) ∧ Wrote W0 B g (ys ++ voteY v c) w2 := by
  obtain ⟨r, hrr⟩ : ∃ r, r = voteY v c := ⟨_, rfl⟩
  rw [← hrr]
  unfold voteY marksY at hrr
  have HR := Lib.hid hrr
  obtain ⟨W, hW⟩ : ∃ W, W = w1.alloc (.cells v.cells.toArray 32) := ⟨_, rfl⟩
  obtain ⟨g0, S0, send, stay, hFF⟩ := h.fresh hW (ob := .cells v.cells.toArray 32 (0, 0)) (by rw [hW]; exact heap_alloc_new _ _)
  have HFW := Lib.hid (hFF w hF)
  have HCP := Lib.hid (fun w' zs (h' : Wrote W B g0 zs w') (hz : zs.length ≤ 600000) => writeEntries_wr w W w' B g0 zs v.p c.p (hFF w hF) hv.2.1 h' hz hp40)
  have HCQ := Lib.hid (fun w' zs (h' : Wrote W B g0 zs w') (hz : zs.length ≤ 600000) => writeEntries_wr w W w' B g0 zs v.q c.q (hFF w hF) hv.2.2 h' hz hq40)
  have HS0 := Lib.hid S0
  have HEND := Lib.hid send
  have HST := Lib.hid stay
  have q0 : W.cell? ⟨w1.heap.size, 0, none⟩ = some (.int .u8 v.f) := by rw [cell_of_row _ _ _ _ _ _ (stay _ _ S0)]; rfl
  have HW := Lib.hid hW
  obtain ⟨a1, c1, qq, -, -, hn1, hr1⟩ := hv.1
  simp only [Sl.val] at qq
  have HVC : Hid (v.cells = [.int .u8 v.f, .int .u8 v.e, .int .u32 v.vw, .int .u32 v.lo, .slice a1 c.ms.length c1, .slice v.p.a v.p.n v.p.c, .slice v.q.a v.q.n v.q.c]) := Lib.hid (by rw [← qq]; rfl)
  rw [HVC.out] at HW ⊢
  have H1 := Lib.hid hr1
  have hpl := entsB_len c.p
  have hql := entsB_len c.q
  clear hF hv h hW S0 send stay hFF hr1 hrr qq
  generalize hn : c.ms.length = n at *
  have HN := Lib.hid hn
  generalize hpe : entsB c.p = pe at *
  generalize hqe : entsB c.q = qe at *
  clear hn hpe hqe
  go_enter Tryz.func69, Tryz.ntmps69
  go_upto_region 1 with fail
  rw [← HW.out]
  clear HW
  generalize hgs : w1.heap.size = gs at *
  go_wp2_with fail
  refine Calls.mono (u8_wr W W B g0 ys v.f HS0.out (by omega)) ?_
  rintro e v1 ⟨rfl, h1⟩
  have p := HST.out _ _ h1
  have q1 : v1.cell? ⟨gs, 1, none⟩ = some (.int .u8 v.e) := by rw [cell_of_row _ _ _ _ _ _ p]; rfl
  have HV1 := Lib.hid h1
  clear h1 p q0
  go_wp2_with fail
  refine Calls.mono (u8_wr W v1 B g0 _ v.e HV1.out (by simp; omega)) ?_
  rintro e v2 ⟨rfl, h1⟩
  have p := HST.out _ _ h1
  have q2 : v2.cell? ⟨gs, 2, none⟩ = some (.int .u32 v.vw) := by rw [cell_of_row _ _ _ _ _ _ p]; rfl
  have HV2 := Lib.hid h1
  clear h1 p q1
  go_wp2_with fail
  refine Calls.mono (u32_wr W v2 B g0 _ v.vw HV2.out (by simp; omega)) ?_
  rintro e v3 ⟨rfl, h1⟩
  have p := HST.out _ _ h1
  have q3 : v3.cell? ⟨gs, 3, none⟩ = some (.int .u32 v.lo) := by rw [cell_of_row _ _ _ _ _ _ p]; rfl
  have HV3 := Lib.hid h1
  clear h1 p q2
  go_wp2_with fail
  refine Calls.mono (u32_wr W v3 B g0 _ v.lo HV3.out (by simp [b4]; omega)) ?_
  rintro e v4 ⟨rfl, h1⟩
  have p := HST.out _ _ h1
  have q4 : v4.cell? ⟨gs, 4, none⟩ = some (.slice a1 n c1) := by rw [cell_of_row _ _ _ _ _ _ p, HVC.out]; rfl
  have HV4 := Lib.hid h1
  clear h1 p q3
  go_wp2_with fail
  refine Calls.mono (u8_wr W v4 B g0 _ n HV4.out (by simp [b4]; omega)) ?_
  rintro e v5 ⟨rfl, h1⟩
  have p := HST.out _ _ h1
  have q5 : v5.cell? ⟨gs, 4, none⟩ = some (.slice a1 n c1) := by rw [cell_of_row _ _ _ _ _ _ p, HVC.out]; rfl
  obtain ⟨zs, hzs⟩ : ∃ zs, zs = ys ++ [v.f] ++ [v.e] ++ b4 v.vw ++ b4 v.lo := ⟨_, rfl⟩
  have hzl : zs.length ≤ 500010 := by rw [hzs]; simp [b4]; omega
  rw [← hzs] at h1
  have HZS := Lib.hid hzs
  have HV5 := Lib.hid h1
  clear h1 p q4 hzs
  go_wp2_with fail
  go_loopw [31] (fun vi wr => ∃ j : Nat, j ≤ n ∧ vi = .int .i64 j ∧ Hid (Wrote W B g0 (zs ++ ([(n : Int)] ++ (c.ms.take j).flatMap mkB)) wr)) (fun i _ => n - (intOf i).toNat)
  case atStart => exact ⟨0, by omega, rfl, Lib.hid (by simpa using HV5.out)⟩
  case round =>
    obtain ⟨j, hj, rfl, HX⟩ := hrel
    have hlen : (zs ++ ([(n : Int)] ++ (c.ms.take j).flatMap mkB)).length ≤ 502000 := by
      simp only [List.length_append, flatMap_len mkB_len, List.length_take, List.length_cons, List.length_nil]; have := HN.out; omega
    by_cases hlt : j < n
    · obtain ⟨x, hx⟩ : ∃ x, c.ms[j]? = some x := ⟨_, List.getElem?_eq_getElem (by rw [HN.out]; exact hlt)⟩
      obtain ⟨b1, o1, e1, g1⟩ := H1.out j x hx
      have G : ∀ i u, x.cells[i]? = some u → wr.cell? ⟨b1, o1 + j * 2 + i, none⟩ = some u := fun i u hu => by
        have h3 := g1 i u hu
        rw [(HFW.out.on HX.out).cell (cell_block h3)]; exact h3
      have l10 : wr.cell? ⟨b1, o1 + j * 2, none⟩ = some (.int .u32 x.s) := G 0 _ rfl
      have l11 : wr.cell? ⟨b1, o1 + j * 2 + 1, none⟩ = some (.int .u64 x.r) := G 1 _ rfl
      have hstep : zs ++ ([(n : Int)] ++ (c.ms.take (j + 1)).flatMap mkB) = ((zs ++ ([(n : Int)] ++ (c.ms.take j).flatMap mkB)) ++ b4 x.s) ++ be8 x.r := by
        rw [List.take_add_one, hx]; simp [List.flatMap_append, mkB, List.append_assoc]
      obtain ⟨X, hX⟩ : ∃ X, X = wr.alloc (.cells x.cells.toArray 77) := ⟨_, rfl⟩
      obtain ⟨g2, T0, tend, tstay, -⟩ := HX.out.fresh hX (ob := .cells x.cells.toArray 77 (0, 0)) (by rw [hX]; exact heap_alloc_new _ _)
      have HT0 := Lib.hid T0
      have HTEND := Lib.hid tend
      have HTST := Lib.hid tstay
      have HSTEP := Lib.hid hstep
      have q0 : X.cell? ⟨wr.heap.size, 0, none⟩ = some (.int .u32 x.s) := by rw [cell_of_row _ _ _ _ _ _ (tstay _ _ T0)]; rfl
      have HXX := Lib.hid hX
      generalize hts : zs ++ ([(n : Int)] ++ (c.ms.take j).flatMap mkB) = ts at *
      simp only [Mk.cells] at HXX
      clear hx g1 G hX T0 tend tstay hstep hts
      subst e1
      go_upto_region 9 with fail
      rw [← HXX.out]
      clear HXX l10 l11
      generalize hgt : wr.heap.size = gt at *
      go_wp2_with fail
      refine Calls.mono (u32_wr X X B g2 ts x.s HT0.out (by omega)) ?_
      rintro e y1 ⟨rfl, h1⟩
      have p := HTST.out _ _ h1
      have q1 : y1.cell? ⟨gt, 1, none⟩ = some (.int .u64 x.r) := by rw [cell_of_row _ _ _ _ _ _ p]; rfl
      have HY1 := Lib.hid h1
      clear h1 p q0
      go_wp2_with fail
      refine Calls.mono (u64_wr X y1 B g2 _ x.r HY1.out (by simp [b4]; omega)) ?_
      rintro e y2 ⟨rfl, h1⟩
      have HY2 := Lib.hid (HTEND.out _ _ h1)
      clear h1 q1
      go_wp2_with fail
      go_round
      case measure => simp [intOf]; omega
      case rel => exact ⟨j + 1, by omega, by go_num, Lib.hid (by rw [HSTEP.out]; exact HY2.out)⟩
    · obtain rfl : j = n := by omega
      have hR := HX.out
      rw [List.take_of_length_le (by rw [HN.out]; exact Nat.le_refl _)] at hR hlen
      have HRR := Lib.hid hR
      have p := HST.out _ _ hR
      have q6 : wr.cell? ⟨gs, 5, none⟩ = some (.slice v.p.a v.p.n v.p.c) := by rw [cell_of_row _ _ _ _ _ _ p]; rfl
      generalize hts : zs ++ ([(j : Int)] ++ c.ms.flatMap mkB) = ts at *
      have HTS := Lib.hid hts
      clear hR hts p
      go_wp2_with fail
      refine Calls.mono (HCP.out _ _ HRR.out (by omega)) ?_
      rintro e y1 ⟨rfl, h1⟩
      have p := HST.out _ _ h1
      have q7 : y1.cell? ⟨gs, 6, none⟩ = some (.slice v.q.a v.q.n v.q.c) := by rw [cell_of_row _ _ _ _ _ _ p]; rfl
      have HY1 := Lib.hid h1
      clear h1 p q6
      go_wp2_with fail
      refine Calls.mono (HCQ.out _ _ HY1.out (by rw [List.length_append]; omega)) ?_
      rintro e y2 ⟨rfl, h1⟩
      have HY2 := Lib.hid (HEND.out _ _ h1)
      clear h1 q7
      go_wp2_with fail
      go_end0
      refine ⟨rfl, ?_⟩
      have := HY2.out
      rw [← HTS.out, HZS.out] at this
      rw [HR.out]
      simpa [List.append_assoc] using this

set_option maxHeartbeats 8000000 in
theorem encode_fro (w : World) (m : Mg) (ib : Bool) (pb : Int → List Int) (hpb : ∀ p ∈ partsOf m.k, (pb p).length ≤ 100000)
    (hi : ∀ w1, Below w.heap.size w w1 → Calls Tryz.prog 10 #[.agg m.cells.toArray] w1 fun e w2 => e = .returned (.bool ib) ∧ Below w1.heap.size w1 w2)
    (hw : ib = true → ∀ p ∈ partsOf m.k, ∀ W0 w1 B g xs, Below w.heap.size w w1 → Fro w W0 B g → Wrote W0 B g xs w1 → xs.length ≤ 400000 → Calls Tryz.prog 26 #[.pointer (some ⟨B, 0, none⟩), .agg m.cells.toArray, .int .u8 p] w1 fun e w2 => e = .returned (.tuple #[]) ∧ Wrote W0 B g (xs ++ pb p) w2) :
    Calls Tryz.prog 8 #[.agg m.cells.toArray] w fun e w' => EncDone w w' ib (encUp m pb (partsOf m.k)) e := by
  have hpl := partsOf_len m.k
  have CP := Lib.hid (parts_new m.k)
  generalize hPS : partsOf m.k = ps at *
  obtain ⟨W, hW⟩ : ∃ W, W = w.alloc (.cells m.cells.toArray 37) := ⟨_, rfl⟩
  have hbx := bx1 hW
  have hbl := bl1 hW
  have HBX := Lib.hid hbx
  have HBL := Lib.hid hbl
  have HW := Lib.hid hW
  have HI := Lib.hid hi
  have HWR := Lib.hid hw
  have HPB := Lib.hid hpb
  clear hW hbx hbl hi hw hpb hPS
  simp only [Mg.cells] at HW ⊢
  go_enter Tryz.func8, Tryz.ntmps8
  go_upto_region 1 with fail
  rw [← HW.out]
  have eA := mgA m
  rw [eA]
  clear eA HW
  have hsz : m.cells.toArray.size = 25 := rfl
  have HQ := Lib.hid (fun (w' : World) (h : w'.heap[w.heap.size]? = some (.cells m.cells.toArray 37 (0, 0))) (i : Nat) => cell_box h i)
  generalize hA : m.cells.toArray = A at *
  have HSZ := Lib.hid hsz
  clear hA hsz
  refine wp_region_lit ?_
  refine wpList_load_row rfl 37 (.tmp 1) rfl w.heap.size rfl 37 _ (0, 0) _ HBX.out Tryz.underlying37 rfl (by rw [HSZ.out]; exact size37) ?_
  go_wp2_with fail
  refine Calls.mono (HI.out _ HBL.out) ?_
  rintro e w1 ⟨rfl, hb1⟩
  have B1 := Lib.hid (HBL.out.trans (hb1.mono HBL.out.size))
  have X1 := Lib.hid ((hb1.block w.heap.size (lt_of_block HBX.out)).trans HBX.out)
  clear hb1
  cases ib
  · go_wp2_with fail
    go_ret2
    exact ⟨fun _ => rfl, (fun h => by cases h), (fun h => by cases h), B1.out⟩
  · go_wp2_with fail
    refine Calls.mono (new_any _) ?_
    rintro e w2 ⟨rfl, rfl⟩
    have hxb : (w1.alloc (.cells #[.slice none 0 0] 107)).heap[w.heap.size]? = some (.cells A 37 (0, 0)) := by rw [heap_alloc_old _ _ (lt_of_block X1.out)]; exact X1.out
    have B2 := B1.out.alloc (Nat.le_of_lt (lt_of_block X1.out)) (.cells #[.slice none 0 0] 107)
    have S0 := Wrote.start (wr_new w1)
    have hlt : w.heap.size < w1.heap.size := lt_of_block X1.out
    generalize hW2 : w1.alloc (.cells #[.slice none 0 0] 107) = W2 at *
    generalize hBB : w1.heap.size = B at *
    have hw2s : B < W2.heap.size := by rw [← hW2, ← hBB]; simp
    have HB2 := Lib.hid B2
    have H0 := Lib.hid S0
    have HXB := Lib.hid hxb
    have HST := Lib.hid (fun ys w' (h : Wrote W2 B none ys w') => h.stay hxb (by omega) (by intro e; cases e))
    have q : W2.cell? ⟨w.heap.size, 0, none⟩ = some (.int .u8 m.k) := HQ.out _ hxb 0
    clear B2 S0 hxb hW2 hBB
    go_wp2_with fail
    clear q
    refine Calls.mono (u8_wr W2 _ B none _ m.k H0.out (by simp)) ?_
    rintro e v1 ⟨rfl, h1⟩
    have p := HST.out _ _ h1
    have H1 := Lib.hid h1
    have q : v1.cell? ⟨w.heap.size, 1, none⟩ = some (.int .u8 m.f) := HQ.out _ p 1
    clear h1 p
    go_wp2_with fail
    clear q
    refine Calls.mono (u8_wr W2 _ B none _ m.f H1.out (by simp)) ?_
    rintro e v2 ⟨rfl, h1⟩
    have p := HST.out _ _ h1
    have H2 := Lib.hid h1
    have q : v2.cell? ⟨w.heap.size, 2, none⟩ = some (.int .u8 m.t) := HQ.out _ p 2
    clear h1 p
    go_wp2_with fail
    clear q
    refine Calls.mono (u8_wr W2 _ B none _ m.t H2.out (by simp)) ?_
    rintro e v3 ⟨rfl, h1⟩
    have p := HST.out _ _ h1
    have H3 := Lib.hid h1
    have q : v3.cell? ⟨w.heap.size, 3, none⟩ = some (.int .u8 m.e) := HQ.out _ p 3
    clear h1 p
    go_wp2_with fail
    clear q
    refine Calls.mono (u8_wr W2 _ B none _ m.e H3.out (by simp)) ?_
    rintro e v4 ⟨rfl, h1⟩
    have p := HST.out _ _ h1
    have q : v4.cell? ⟨w.heap.size, 0, none⟩ = some (.int .u8 m.k) := HQ.out _ p 0
    have H4 := Lib.hid h1
    have X4 := Lib.hid p
    clear h1 p
    go_wp2_with fail
    clear q
    refine Calls.mono (CP.out _) ?_
    rintro e wp ⟨ao, rfl, hby, hnb, hbp⟩
    obtain ⟨g1, hwr4, hk4, hg4⟩ := H4.out
    have hg1b : ∀ k, g1 = some k → B < k := fun k e => by
      rcases hg4 with e' | ⟨k', e', hk'⟩
      · rw [e'] at e; cases e
      · rw [e'] at e; injection e with e; omega
    have hgx : g1 ≠ some w.heap.size := fun e => by have := hg1b _ e; omega
    have hglt : ∀ k, g1 = some k → k < v4.heap.size := fun k e => by
      obtain ⟨a5, n5, c5, hb5, ho5, h51, h52⟩ := hwr4
      exact own_lt ho5 (h51.trans e)
    have hBlt : B < v4.heap.size := hwr4.lt
    have hxp : wp.heap[w.heap.size]? = some (.cells A 37 (0, 0)) := (hbp.block _ (lt_of_block X4.out)).trans X4.out
    have BWP : Below w.heap.size w wp := HB2.out.trans ((H4.out.new hbp).bel (H := w.heap.size) (by omega) (by omega) (fun k e => by cases e))
    have HFRO : Hid (Fro w wp B g1) := Lib.hid ⟨BWP, by omega, fun k e => by have := hg1b k e; omega⟩
    have S4 := Lib.hid (Wrote.start (hwr4.below hbp))
    have HKB := Lib.hid (fun ys w' (h : Wrote wp B g1 ys w') => BWP.trans (h.bel (H := w.heap.size) BWP.size (by omega) (fun k e => by have := hg1b k e; omega)))
    have HKX := Lib.hid (fun ys w' (h : Wrote wp B g1 ys w') => h.stay hxp (by omega) hgx)
    have HKP := Lib.hid (fun ys w' (h : Wrote wp B g1 ys w') => by
      obtain ⟨g2, _, hk2, _⟩ := h
      exact bytes_kept hby hk2 (fun ad e _ hS => by
        have e1 := hnb ad e
        rcases hS with hS | hS
        · omega
        · have := hglt _ hS.symm; omega))
    clear hwr4 hk4 hg4 hg1b hgx hglt hBlt hxp BWP hby hnb hbp
    generalize hln : ps.length = n at *
    have HLN := Lib.hid hln
    clear hln
    go_wp2_with fail
    go_loopw [6, 32] (fun _ vi wr => ∃ j : Nat, j ≤ n ∧ vi = .int .i64 j ∧ Hid (Wrote wp B g1 (encUp m pb (ps.take j)) wr)) (fun _ i _ => n - (intOf i).toNat)
    case atStart => exact ⟨0, by omega, rfl, Lib.hid (by simpa [encUp] using S4.out)⟩
    case round =>
      obtain ⟨j, hj, rfl, HR⟩ := hrel
      by_cases hlt2 : j < n
      · obtain ⟨ad, rfl, hc⟩ := HKP.out _ _ HR.out j (by rw [HLN.out]; exact hlt2)
        obtain ⟨p, hpd⟩ : ∃ p, p = ps.getD j 0 := ⟨_, rfl⟩
        rw [← hpd] at hc
        have hj' : ps[j]? = some p := by rw [hpd, List.getD_eq_getElem?_getD, List.getElem?_eq_getElem (by rw [HLN.out]; exact hlt2)]; rfl
        have hmem : p ∈ ps := List.mem_of_getElem? hj'
        have hs : encUp m pb (ps.take (j + 1)) = encUp m pb (ps.take j) ++ pb p := by rw [List.take_add_one, hj']; simp [encUp, List.flatMap_append]
        have hlen : (encUp m pb (ps.take j)).length ≤ 400000 := by
          have h7 := flat_len pb (ps.take j) (fun q hq => HPB.out q (List.mem_of_mem_take hq))
          have h8 : (ps.take j).length ≤ 3 := by simp; omega
          simp only [encUp, List.length_append, List.length_cons, List.length_nil]
          omega
        have F := Lib.hid (HWR.out (by first | rfl | trivial) p hmem wp wr B g1 _ (HKB.out _ _ HR.out) HFRO.out HR.out hlen)
        have XW := Lib.hid (HKX.out _ _ HR.out)
        have HS := Lib.hid hs
        clear hpd hj' hmem hs hlen
        go_upto_region 11 with fail
        refine wp_region_lit ?_
        refine wpl_val (v := .pointer (some ⟨B, 0, none⟩)) (w1 := wr) rfl (by go_simp) _ rfl ?_
        refine wpList_load_row rfl 37 (.tmp 1) rfl w.heap.size rfl 37 _ (0, 0) _ XW.out Tryz.underlying37 rfl (by rw [HSZ.out]; exact size37) ?_
        go_wp2_with fail
        refine Calls.mono F.out ?_
        rintro e w5 ⟨rfl, h5⟩
        rw [← HS.out] at h5
        have H5 := Lib.hid h5
        clear h5
        go_wp2_with fail
        go_round
        case measure => simp [intOf]; omega
        case rel => exact ⟨j + 1, by omega, by go_num, H5⟩
      · obtain rfl : j = n := by omega
        have hR := HR.out
        rw [List.take_of_length_le (by rw [HLN.out]; exact Nat.le_refl _)] at hR
        have hlen : (encUp m pb ps).length ≤ 400000 := by
          have h7 := flat_len pb ps (fun q hq => HPB.out q hq)
          have h8 := HLN.out
          simp only [encUp, List.length_append, List.length_cons, List.length_nil]
          omega
        have BWR := Lib.hid (HKB.out _ _ hR)
        obtain ⟨g2, hw2, -, -⟩ := hR
        obtain ⟨bs, hbs⟩ : ∃ bs, bs = encUp m pb ps := ⟨_, rfl⟩
        rw [← hbs] at hw2 hlen
        have HBS := Lib.hid hbs
        clear hbs
        have C := Lib.hid (all_any wr B g2 bs hw2 (by omega))
        generalize hbl : bs.length = bl at *
        have HBLN := Lib.hid hbl
        clear hw2 hbl
        go_wp2_with fail
        refine Calls.mono C.out ?_
        rintro e w6 ⟨ao6, c6, rfl, hnew, hb6⟩
        have HNEW := Lib.hid hnew
        have B6 := Lib.hid (BWR.out.trans (hb6.mono BWR.out.size))
        clear hnew hb6
        by_cases hbig : bl ≤ 8000
        · have hbigI : ¬ (bl : Int) > 8000 := by omega
          go_wp2_with fail
          go_ret2
          rw [← HBS.out]
          refine ⟨(fun h => by cases h), fun _ _ => ⟨ao6, c6, ?_, HNEW.out.mono BWR.out.size⟩, (fun _ h => by rw [HBLN.out] at h; omega), B6.out⟩
          rw [HBLN.out]; rfl
        · have hbigI : (bl : Int) > 8000 := by omega
          go_wp2_with fail
          go_ret2
          rw [← HBS.out]
          exact ⟨(fun h => by cases h), (fun _ h => by rw [HBLN.out] at h; omega), (fun _ _ => rfl), B6.out⟩

theorem votes_len {l : List (Vt × Vc)} (h : ∀ x ∈ l, x.2.few) : (l.flatMap fun x => voteY x.1 x.2).length ≤ l.length * 1853 := by
  induction l with
  | nil => simp
  | cons x r ih =>
    have h1 := voteY_len (v := x.1) (h x (by simp))
    have h2 := ih (fun y hy => h y (by simp [hy]))
    simp only [List.flatMap_cons, List.length_append, List.length_cons, Nat.add_mul]
    omega

set_option maxHeartbeats 8000000 in
theorem writeL_wr (w W0 w1 : World) (B : Nat) (g : Option Nat) (xs : List Int) (m : Mg) (c : Mc) (p : Int) (h7 : 7 ≤ p) (h10 : p ≤ 10) (hF : Fro w W0 B g) (hm : MgAt w m c) (h : Wrote W0 B g xs w1) (hl : xs.length ≤ 400000)
    (hv : p = 7 → c.vt.few) (hvs : p = 8 → c.vs.length ≤ 4 ∧ ∀ x ∈ c.vs, x.2.few) (hs : p = 9 → c.sm.length ≤ 100) (hd : p = 10 → c.dt.length ≤ 64) :
    Calls Tryz.prog 26 #[.pointer (some ⟨B, 0, none⟩), .agg m.cells.toArray, .int .u8 p] w1 fun e w2 => e = .returned (.tuple #[]) ∧ Wrote W0 B g (xs ++ partY m c p) w2 := by
  obtain ⟨r, hrr⟩ : ∃ r, r = partY m c p := ⟨_, rfl⟩
  rw [← hrr]
  unfold partY at hrr
  have HR := Lib.hid hrr
  obtain ⟨W, hW⟩ : ∃ W, W = w1.alloc (.cells m.cells.toArray 37) := ⟨_, rfl⟩
  obtain ⟨g0, S0, send, stay, hFF⟩ := h.fresh hW (ob := .cells m.cells.toArray 37 (0, 0)) (by rw [hW]; exact heap_alloc_new _ _)
  have HFW := Lib.hid (hFF w hF)
  have hbx := stay _ _ S0
  have HS0 := Lib.hid S0
  have HEND := Lib.hid send
  have HST := Lib.hid (fun zs w' (h : Wrote W B g0 zs w') (i : Nat) => cell_box (stay zs w' h) i)
  have HM := Lib.hid hm
  have q15 : W.cell? ⟨w1.heap.size, 15, none⟩ = some (.int .u8 m.vt.f) := cell_box hbx 15
  have q16 : W.cell? ⟨w1.heap.size, 16, none⟩ = some (.int .u8 m.vt.e) := cell_box hbx 16
  have q17 : W.cell? ⟨w1.heap.size, 17, none⟩ = some (.int .u32 m.vt.vw) := cell_box hbx 17
  have q18 : W.cell? ⟨w1.heap.size, 18, none⟩ = some (.int .u32 m.vt.lo) := cell_box hbx 18
  have q19 : W.cell? ⟨w1.heap.size, 19, none⟩ = some (.slice m.vt.ms.a m.vt.ms.n m.vt.ms.c) := cell_box hbx 19
  have q20 : W.cell? ⟨w1.heap.size, 20, none⟩ = some (.slice m.vt.p.a m.vt.p.n m.vt.p.c) := cell_box hbx 20
  have q21 : W.cell? ⟨w1.heap.size, 21, none⟩ = some (.slice m.vt.q.a m.vt.q.n m.vt.q.c) := cell_box hbx 21
  have q22 : W.cell? ⟨w1.heap.size, 22, none⟩ = some (.slice m.vs.a m.vs.n m.vs.c) := cell_box hbx 22
  have q23 : W.cell? ⟨w1.heap.size, 23, none⟩ = some (.slice m.sm.a m.sm.n m.sm.c) := cell_box hbx 23
  have q24 : W.cell? ⟨w1.heap.size, 24, none⟩ = some (.slice m.dt.a m.dt.n m.dt.c) := cell_box hbx 24
  have HW := Lib.hid hW
  have HV := Lib.hid hv
  have HVS := Lib.hid hvs
  have HSM := Lib.hid hs
  have HDT := Lib.hid hd
  clear hW hbx hrr h hF hFF hm S0 send stay hv hvs hs hd
  simp only [Mg.cells] at HW ⊢
  go_enter Tryz.func26, Tryz.ntmps26
  go_upto_region 1 with fail
  rw [← HW.out]
  have eA := mgA m
  rw [eA]
  clear eA HW
  generalize hgs : w1.heap.size = gs at *
  have hcase : p = 7 ∨ p = 8 ∨ p = 9 ∨ p = 10 := by omega
  clear h7 h10
  rcases hcase with rfl | rfl | rfl | rfl
  · obtain ⟨f1, f2, f3⟩ := HV.out rfl
    have C := Lib.hid (writeVote_wr w W W B g0 xs m.vt c.vt HFW.out HM.out.vt HS0.out (by omega) f1 f2 f3)
    generalize m.cells.toArray = A
    simp only [Vt.cells] at C
    clear f1 f2 f3 HV HVS HSM HDT
    go_wp2_with fail
    refine Calls.mono C.out ?_
    rintro e w2 ⟨rfl, h1⟩
    have H1 := Lib.hid (HEND.out _ _ h1)
    clear h1
    go_wp2_with fail
    go_end0
    exact ⟨rfl, by rw [HR.out]; exact H1.out⟩
  · obtain ⟨hn4, hfew⟩ := HVS.out rfl
    obtain ⟨⟨a1, c1, qq, -, -, hn1, hr1⟩, hat⟩ := HM.out.vs
    simp only [Sl.val] at qq
    rw [qq] at q22
    have HQ := Lib.hid (fun zs w' (h : Wrote W B g0 zs w') => (HST.out zs w' h 22).trans (show m.cells[22]? = some (.slice a1 c.vs.length c1) by rw [← qq]; rfl))
    generalize m.cells.toArray = A
    have H1 := Lib.hid hr1
    have HAT := Lib.hid hat
    have HFEW := Lib.hid hfew
    have hr2 := HR.out
    simp only [votesY] at hr2
    have HR2 := Lib.hid hr2
    clear hr1 hat hfew qq HV HVS HSM HDT hr2 HR HST
    generalize hn : c.vs.length = n at *
    have HN := Lib.hid hn
    clear hn q15 q16 q17 q18 q19 q20 q21 q23 q24
    go_wp2_with fail
    refine Calls.mono (u8_wr W W B g0 xs n HS0.out (by omega)) ?_
    rintro e v1 ⟨rfl, h1⟩
    have q := HQ.out _ _ h1
    have HV1 := Lib.hid h1
    clear h1 q22
    go_wp2_with fail
    go_loopw [70] (fun vi wr => ∃ j : Nat, j ≤ n ∧ vi = .int .i64 j ∧ Hid (Wrote W B g0 (xs ++ ([(n : Int)] ++ (c.vs.take j).flatMap fun x => voteY x.1 x.2)) wr)) (fun i _ => n - (intOf i).toNat)
    case atStart => exact ⟨0, by omega, rfl, Lib.hid (by simpa using HV1.out)⟩
    case round =>
      obtain ⟨j, hj, rfl, HX⟩ := hrel
      by_cases hlt : j < n
      · obtain ⟨x, hx⟩ : ∃ x, c.vs[j]? = some x := ⟨_, List.getElem?_eq_getElem (by rw [HN.out]; exact hlt)⟩
        obtain ⟨b1, o1, e1, g1⟩ := H1.out j x hx
        have G : ∀ i u, (vcell x)[i]? = some u → wr.cell? ⟨b1, o1 + j * 7 + i, none⟩ = some u := fun i u hu => by
          have h3 := g1 i u hu
          rw [(HFW.out.on HX.out).cell (cell_block h3)]; exact h3
        have hmem : x ∈ c.vs := List.mem_of_getElem? hx
        have hlen : (xs ++ ([(n : Int)] ++ (c.vs.take j).flatMap fun x => voteY x.1 x.2)).length ≤ 409000 := by
          have h5 := votes_len (l := c.vs.take j) (fun y hy => HFEW.out y (List.mem_of_mem_take hy))
          have h6 : (c.vs.take j).length ≤ 4 := by rw [List.length_take]; omega
          simp only [List.length_append, List.length_cons, List.length_nil]; omega
        have hstep : xs ++ ([(n : Int)] ++ (c.vs.take (j + 1)).flatMap fun x => voteY x.1 x.2) = (xs ++ ([(n : Int)] ++ (c.vs.take j).flatMap fun x => voteY x.1 x.2)) ++ voteY x.1 x.2 := by
          rw [List.take_add_one, hx]; simp [List.flatMap_append, List.append_assoc]
        obtain ⟨f1, f2, f3⟩ := HFEW.out x hmem
        obtain ⟨X, hX⟩ : ∃ X, X = wr.alloc (.cells x.1.cells.toArray 32) := ⟨_, rfl⟩
        have hbX : Below wr.heap.size wr X := by rw [hX]; exact (Below.refl _ _).alloc (Nat.le_refl _) _
        have hXn : X.heap[wr.heap.size]? = some (.cells x.1.cells.toArray 32 (0, 0)) := by rw [hX]; exact heap_alloc_new _ _
        have C := Lib.hid (writeVote_wr w W X B g0 _ x.1 x.2 HFW.out (HAT.out x hmem) (HX.out.new hbX) (by omega) f1 f2 f3)
        obtain ⟨x, cx⟩ := x
        have l10 : wr.cell? ⟨b1, o1 + j * 7, none⟩ = some (.int .u8 x.f) := G 0 _ rfl
        have l11 : wr.cell? ⟨b1, o1 + j * 7 + 1, none⟩ = some (.int .u8 x.e) := G 1 _ rfl
        have l12 : wr.cell? ⟨b1, o1 + j * 7 + 2, none⟩ = some (.int .u32 x.vw) := G 2 _ rfl
        have l13 : wr.cell? ⟨b1, o1 + j * 7 + 3, none⟩ = some (.int .u32 x.lo) := G 3 _ rfl
        have l14 : wr.cell? ⟨b1, o1 + j * 7 + 4, none⟩ = some (.slice x.ms.a x.ms.n x.ms.c) := G 4 _ rfl
        have l15 : wr.cell? ⟨b1, o1 + j * 7 + 5, none⟩ = some (.slice x.p.a x.p.n x.p.c) := G 5 _ rfl
        have l16 : wr.cell? ⟨b1, o1 + j * 7 + 6, none⟩ = some (.slice x.q.a x.q.n x.q.c) := G 6 _ rfl
        have HSTEP := Lib.hid hstep
        have HXX := Lib.hid hX
        generalize hts : xs ++ ([(n : Int)] ++ (c.vs.take j).flatMap fun x => voteY x.1 x.2) = ts at *
        simp only [Vt.cells] at HXX C
        clear hx g1 G hX hbX hXn hmem hstep hts f1 f2 f3
        subst e1
        go_wp2_with fail
        rw [← HXX.out]
        refine Calls.mono C.out ?_
        rintro e y1 ⟨rfl, h1⟩
        have HY1 := Lib.hid h1
        clear h1
        go_wp2_with fail
        go_round
        case measure => simp [intOf]; omega
        case rel => exact ⟨j + 1, by omega, by go_num, Lib.hid (by rw [HSTEP.out]; exact HY1.out)⟩
      · obtain rfl : j = n := by omega
        have hR := HX.out
        rw [List.take_of_length_le (by rw [HN.out]; exact Nat.le_refl _)] at hR
        have HRR := Lib.hid (HEND.out _ _ hR)
        clear hR
        go_wp2_with fail
        go_end0
        refine ⟨rfl, ?_⟩
        rw [HR2.out]
        exact HRR.out
  · have hn100 := HSM.out rfl
    obtain ⟨a1, c1, qq, -, -, hn1, hr1⟩ := HM.out.sm
    simp only [Sl.val] at qq
    rw [qq] at q23
    generalize m.cells.toArray = A
    have H1 := Lib.hid hr1
    have hr2 := HR.out
    have HR2 := Lib.hid hr2
    clear hr1 qq HV HVS HSM HDT hr2 HR HST
    generalize hn : c.sm.length = n at *
    have HN := Lib.hid hn
    clear hn q15 q16 q17 q18 q19 q20 q21 q22 q24
    go_wp2_with fail
    go_loopw [83] (fun vi wr => ∃ j : Nat, j ≤ n ∧ vi = .int .i64 j ∧ Hid (Wrote W B g0 (xs ++ (c.sm.take j).flatMap be8) wr)) (fun i _ => n - (intOf i).toNat)
    case atStart => exact ⟨0, by omega, rfl, Lib.hid (by simpa using HS0.out)⟩
    case round =>
      obtain ⟨j, hj, rfl, HX⟩ := hrel
      by_cases hlt : j < n
      · obtain ⟨x, hx⟩ : ∃ x, c.sm[j]? = some x := ⟨_, List.getElem?_eq_getElem (by rw [HN.out]; exact hlt)⟩
        obtain ⟨b1, o1, e1, g1⟩ := H1.out j x hx
        have l10 : wr.cell? ⟨b1, o1 + j, none⟩ = some (.int .u64 x) := by
          have h3 : w.cell? ⟨b1, o1 + j * 1 + 0, none⟩ = some (.int .u64 x) := g1 0 _ rfl
          rw [Nat.mul_one, Nat.add_zero] at h3
          rw [(HFW.out.on HX.out).cell (cell_block h3)]; exact h3
        have hlen : (xs ++ (c.sm.take j).flatMap be8).length ≤ 401000 := by
          simp only [List.length_append, flatMap_len be8_len, List.length_take]; omega
        have hstep : xs ++ (c.sm.take (j + 1)).flatMap be8 = (xs ++ (c.sm.take j).flatMap be8) ++ be8 x := by
          rw [List.take_add_one, hx]; simp [List.flatMap_append, List.append_assoc]
        have HSTEP := Lib.hid hstep
        generalize hts : xs ++ (c.sm.take j).flatMap be8 = ts at *
        clear hx g1 hstep hts
        subst e1
        go_wp2_with fail
        refine Calls.mono (u64_wr W wr B g0 ts x HX.out (by omega)) ?_
        rintro e y1 ⟨rfl, h1⟩
        have HY1 := Lib.hid h1
        clear h1
        go_wp2_with fail
        go_round
        case measure => simp [intOf]; omega
        case rel => exact ⟨j + 1, by omega, by go_num, Lib.hid (by rw [HSTEP.out]; exact HY1.out)⟩
      · obtain rfl : j = n := by omega
        have hR := HX.out
        rw [List.take_of_length_le (by rw [HN.out]; exact Nat.le_refl _)] at hR
        have HRR := Lib.hid (HEND.out _ _ hR)
        clear hR
        go_wp2_with fail
        go_end0
        refine ⟨rfl, ?_⟩
        rw [HR2.out]
        exact HRR.out
  · have hd64 := HDT.out rfl
    obtain ⟨e1, hby, hno, hcap, hbig, hbyt⟩ := HM.out.dt
    obtain ⟨g2, hw2, hk2, hg2⟩ := HS0.out
    have hFg2 : ∀ k, g2 = some k → w.heap.size ≤ k := fun k e => by
      rcases hg2 with e' | ⟨k', e', hk'⟩
      · exact HFW.out.hg k (e'.symm.trans e)
      · rw [e'] at e; injection e with e; have := HFW.out.bel.size; omega
    have C := Lib.hid (bytes_any W B g2 xs m.dt.a m.dt.c c.dt hw2 (bytes_below hby HFW.out.bel (Nat.le_refl _)) hcap hno (by omega) (by omega) (fun ad e hp => by
      have h5 : ad.block < w.heap.size := bytes_lt (e ▸ hby) hp
      exact ⟨by have := HFW.out.hB; omega, fun e2 => by have := hFg2 ad.block e2.symm; omega⟩))
    have HTR := Lib.hid (fun ys w' (h : Wrote W B g2 ys w') => HEND.out ys w' (Wrote.trans hk2 hg2 h))
    rw [← e1] at C
    generalize m.cells.toArray = A
    clear e1 hby hno hcap hbig hbyt hw2 hk2 hg2 hFg2 HV HVS HSM HDT
    go_wp2_with fail
    refine Calls.mono C.out ?_
    rintro e w2 ⟨rfl, h1⟩
    have H1 := Lib.hid (HTR.out _ _ h1)
    clear h1
    go_wp2_with fail
    go_end0
    exact ⟨rfl, by rw [HR.out]; exact H1.out⟩

theorem wordB_len (m : Mg) (p : Int) : (wordB m p).length ≤ 17 := by
  unfold wordB
  split
  · simp [b4]
  split
  · simp [b4]
  split
  · simp [Rq.bytes, b4, b2]
  split
  · simp [be8_len]
  split
  · simp
  split
  · simp
  · simp [b4]

theorem partY_len {w : World} {m : Mg} {c : Mc} (hm : MgAt w m c) (h : isM m c = true) {p : Int} (hp : p ∈ partsOf m.k) : (partY m c p).length ≤ 9000 := by
  unfold partY
  split
  · rename_i e; subst e
    have := voteY_len (v := m.vt) (isM_7 h hp); omega
  split
  · rename_i _ e; subst e
    obtain ⟨h1, h2⟩ := isM_8 h hp
    have := votes_len h2
    simp only [votesY, List.length_append, List.length_cons, List.length_nil]; omega
  split
  · rename_i _ _ e; subst e
    have := isM_9 hm h hp
    rw [flatMap_len be8_len]; omega
  split
  · rename_i _ _ _ e; subst e
    have := isM_10 hm h hp
    simp only [lenBytes, List.length_append, List.length_cons, List.length_nil]; omega
  · have := wordB_len m p; omega

theorem enc_all (w : World) (m : Mg) (c : Mc) (hm : MgAt w m c) (hok : McOk c) (ht : Tab w) : Calls Tryz.prog 8 #[.agg m.cells.toArray] w fun e w' => EncDone w w' (isM m c) (encM m c) e := by
  cases hi : isM m c with
  | false =>
    refine Calls.mono (encode_fro w m false (fun _ => []) (fun p _ => by simp) (fun w1 h1 => by have := is_all w1 m c (hm.below h1) hok (Tab.on ht h1); rw [hi] at this; exact this) (fun h => by cases h)) ?_
    rintro e w' ⟨h1, h2, h3, h4⟩
    exact ⟨h1, (fun h => by cases h), (fun h => by cases h), h4⟩
  | true =>
    refine encode_fro w m true (partY m c) (fun p hp => by have := partY_len hm hi hp; omega) (fun w1 h1 => by have := is_all w1 m c (hm.below h1) hok (Tab.on ht h1); rw [hi] at this; exact this) (fun _ p hp W0 w1 B g xs hb hF hW hl => ?_)
    obtain ⟨p0, p10⟩ := partsOf_le m.k p hp
    by_cases h7 : 7 ≤ p
    · exact writeL_wr w W0 w1 B g xs m c p h7 p10 hF hm hW hl (fun e => isM_7 hi (e ▸ hp)) (fun e => isM_8 hi (e ▸ hp)) (fun e => by have := isM_9 hm hi (e ▸ hp); omega) (fun e => isM_10 hm hi (e ▸ hp))
    · have e : partY m c p = wordB m p := by
        unfold partY
        rw [if_neg (by omega), if_neg (by omega), if_neg (by omega), if_neg (by omega)]
      rw [e]
      exact write_wr W0 w1 B g xs m p p0 (by omega) hW (by omega)

theorem partY_small {w : World} {m : Mg} {c : Mc} (hm : MgAt w m c) (h : isM m c = true) {p : Int} (hp : p ∈ partsOf m.k) (h8 : p ≠ 8) : (partY m c p).length ≤ 1853 := by
  unfold partY
  split
  · rename_i e; subst e
    exact voteY_len (v := m.vt) (isM_7 h hp)
  split
  · rename_i _ e; subst e
    have := isM_9 hm h hp
    rw [flatMap_len be8_len]; omega
  split
  · rename_i _ _ e; subst e
    have := isM_10 hm h hp
    simp only [lenBytes, List.length_append, List.length_cons, List.length_nil]; omega
  · have := wordB_len m p; omega

theorem parts_8 {k : Int} (h : (8 : Int) ∈ partsOf k) : k = 7 := by
  by_cases h1 : k = 1
  · subst h1; simp [partsOf] at h
  by_cases h2 : k = 2
  · subst h2; simp [partsOf] at h
  by_cases h3 : k = 3
  · subst h3; simp [partsOf] at h
  by_cases h4 : k = 4
  · subst h4; simp [partsOf] at h
  by_cases h5 : k = 5
  · subst h5; simp [partsOf] at h
  by_cases h6 : k = 6
  · subst h6; simp [partsOf] at h
  by_cases h7 : k = 7
  · exact h7
  by_cases h8 : k = 8
  · subst h8; simp [partsOf] at h
  by_cases h9 : k = 9
  · subst h9; simp [partsOf] at h
  by_cases h10 : k = 10
  · subst h10; simp [partsOf] at h
  by_cases h11 : k = 11
  · subst h11; simp [partsOf] at h
  by_cases h12 : k = 12
  · subst h12; simp [partsOf] at h
  by_cases h13 : k = 13
  · subst h13; simp [partsOf] at h
  by_cases h14 : k = 14
  · subst h14; simp [partsOf] at h
  · simp [partsOf, h1, h2, h3, h4, h5, h6, h7, h8, h9, h10, h11, h12, h13, h14] at h

theorem flat_len2 {pb : Int → List Int} {N : Nat} : ∀ ps : List Int, (∀ p ∈ ps, (pb p).length ≤ N) → (ps.flatMap pb).length ≤ N * ps.length
  | [], _ => by simp
  | p :: r, h => by
    have h1 := h p (by simp)
    have h2 := flat_len2 r (fun q hq => h q (by simp [hq]))
    simp only [List.flatMap_cons, List.length_append, List.length_cons, Nat.mul_add]
    omega

/-- no message is too long -/
theorem encM_len {w : World} {m : Mg} {c : Mc} (hm : MgAt w m c) (h : isM m c = true) : (encM m c).length ≤ 8000 := by
  by_cases h8 : (8 : Int) ∈ partsOf m.k
  · have hk := parts_8 h8
    obtain ⟨h1, h2⟩ := isM_8 h h8
    have h3 := votes_len h2
    have e : partsOf m.k = [0, 8] := by rw [hk]; rfl
    simp only [encM, encUp, e, List.flatMap_cons, List.flatMap_nil, List.length_append, List.length_cons, List.length_nil]
    have e0 : (partY m c 0).length = 4 := by simp [partY, wordB, b4]
    have e8 : (partY m c 8).length ≤ 7413 := by
      have e9 : partY m c 8 = votesY c.vs := by simp [partY]
      rw [e9]
      simp only [votesY, List.length_append, List.length_cons, List.length_nil]; omega
    omega
  · have h1 := flat_len2 (pb := partY m c) (N := 1853) (partsOf m.k) (fun p hp => partY_small hm h hp (fun e => h8 (e ▸ hp)))
    have h2 := partsOf_len m.k
    simp only [encM, encUp, List.length_append, List.length_cons, List.length_nil]
    omega

/-- Encode: every message -/
theorem enc_ok (w : World) (m : Mg) (c : Mc) (hm : MgAt w m c) (hok : McOk c) (ht : Tab w) : Calls Tryz.prog 8 #[.agg m.cells.toArray] w fun e w' =>
    ((isM m c = false ∧ e = .returned (.tuple #[.slice none 0 0, .int .i64 30])) ∨ (isM m c = true ∧ ∃ ao k, e = .returned (.tuple #[.slice ao (encM m c).length k, .int .i64 0]) ∧ New w.heap.size w' ao k (encM m c))) ∧ Below w.heap.size w w' := by
  refine Calls.mono (enc_all w m c hm hok ht) ?_
  rintro e w' ⟨h1, h2, h3, h4⟩
  refine ⟨?_, h4⟩
  cases hi : isM m c with
  | false => exact .inl ⟨rfl, h1 hi⟩
  | true => exact .inr ⟨rfl, h2 hi (encM_len hm hi)⟩
end Go.Proofs.YtbpfkeeikhhlnaaGreatDoor
namespace Go.Proofs.YtbpfkeeikhhlnaaGreatDoor
open Go.ChangeShapes Go.WideShapes Go.ChangeAt Go.RowKit

/-- the type of the cell at place i of a value of type t -/
def leafAt (P : Program) : Nat → TypeId → Nat → Option TypeId
  | 0, _, _ => none
  | k + 1, t, i => match P.underlying t with
    | some (.struct fs) => match fs.toList.find? (fun f => decide (f.offset ≤ i) && decide (i < f.offset + P.cellsOf f.type)) with
      | some f => leafAt P k f.type (i - f.offset)
      | none => none
    | _ => if i = 0 ∧ P.cellsOf t = 1 then some t else none

theorem trod_leaf {H : Type} {enc : TypeId × Value → H} {P : Program} {w : World} {base : Nat} {spare : Nat → Bool} {held : Bool} : ∀ (k : Nat) {t : TypeId} {i : Nat} {u : TypeId} {fuel : Nat} {cs : List Value} {x : DataW H × List MemPlace},
    leafAt P k t i = some u → DataW.trod enc P w base spare held fuel t cs = some x → i < cs.length → cs.length ≤ P.cellsOf t → ∃ n y v, cs[i]? = some v ∧ DataW.trod enc P w base spare held n u [v] = some y
  | 0, t, i, u, fuel, cs, x, h, _, _, _ => by cases h
  | k + 1, t, i, u, fuel, cs, x, h, hx, hi, hc => by
    unfold leafAt at h
    split at h
    · rename_i fs hfs
      split at h
      · rename_i f hf
        obtain ⟨xs, n, _, _, hl, hxl, hat⟩ := DataW.trod_struct hfs hx
        have hm := List.mem_of_find?_eq_some hf
        have hp := List.find?_some hf
        simp only [Bool.and_eq_true, decide_eq_true_eq] at hp
        obtain ⟨j, hj⟩ := List.getElem?_of_mem hm
        have hj' : fs[j]? = some f := by rw [← Array.getElem?_toList]; exact hj
        have ht := hat j f hj'
        have hjl : j < xs.length := by
          rw [hxl]
          exact (Array.getElem?_eq_some_iff.1 hj').1
        rw [List.getElem?_eq_getElem hjl] at ht
        obtain ⟨n', y, v, h1, h2⟩ := trod_leaf k h ht (by rw [List.length_take, List.length_drop]; omega) (by rw [List.length_take]; omega)
        refine ⟨n', y, v, ?_, h2⟩
        rw [List.getElem?_take_of_lt (by omega), List.getElem?_drop, show f.offset + (i - f.offset) = i by omega] at h1
        exact h1
      · cases h
    · split at h
      · rename_i h0
        injection h with h
        subst h
        obtain ⟨rfl, h1⟩ := h0
        match cs, hi, hc with
        | [v], _, _ => exact ⟨fuel, x, v, rfl, hx⟩
        | a :: b :: r, _, hc => simp at hc; omega
      · cases h

theorem open_row {H : Type} {en : TypeId × Value → H} {P : Program} {w : World} {held : Bool} {α : Type} [Inhabited α] (enc : α → List Value) (k : Nat) (ok : α → Prop) {t e : TypeId} {fuel : Nat} {v : Value} {x : DataW H × List MemPlace}
    (ht : P.underlying t = some (.slice e)) (hk : P.cellsOf e = k) (hk0 : 0 < k) (hE : ∀ n cs y, cs.length = k → DataW.trod en P w 0 (fun _ => true) held n e cs = some y → ∃ a, cs = enc a ∧ ok a)
    (h : DataW.trod en P w 0 (fun _ => true) held fuel t [v] = some x) : ∃ xs, RowU w k enc v xs ∧ ∀ a ∈ xs, ok a := by
  rcases Deep.open_slice ht h with ⟨hcs, _⟩ | ⟨ad, len, cap, m, n, D, Pl, hcs, hb, hl, hm, hmm, _, hi⟩
  · injection hcs with hcs
    subst hcs
    exact ⟨[], ⟨none, 0, rfl, fun _ => rfl, Nat.le_refl _, Nat.zero_le _, fun j x hj => by simp at hj⟩, fun a ha => by simp at ha⟩
  · injection hcs with hcs
    subst hcs
    simp only [if_true] at hmm
    subst hmm
    rcases Nat.eq_zero_or_pos len with h0 | h0
    · subst h0
      exact ⟨[], ⟨some ad, m, rfl, fun e => (by cases e), Nat.zero_le _, hm, fun j x hj => by simp at hj⟩, fun a ha => by simp at ha⟩
    · rw [hk] at hi
      obtain ⟨b, off, spot⟩ := ad
      have hs : spot = none := by
        obtain ⟨cs0, hc0, _⟩ := hi 0 (by omega)
        obtain ⟨_, hl0, hat0⟩ := World.cells?_some hc0
        have b0 := hat0 0 (by omega)
        rw [List.getElem?_eq_getElem (by omega)] at b0
        simpa [Addr.add] using World.cell?_spot b0
      subst hs
      have each : ∀ i, i < len → ∃ a : α, ok a ∧ ∀ j u, (enc a)[j]? = some u → w.cell? ⟨b, off + i * k + j, none⟩ = some u := by
        intro i him
        obtain ⟨cs', hc, htt⟩ := hi i (by omega)
        obtain ⟨_, hcl, hat⟩ := World.cells?_some hc
        obtain ⟨a, rfl, hok⟩ := hE n cs' _ hcl htt
        refine ⟨a, hok, fun j u hu => ?_⟩
        have hj : j < k := by
          rw [← hcl]
          exact (List.getElem?_eq_some_iff.1 hu).1
        have := hat j hj
        rw [Deep.add_add, Addr.add_lit, hu] at this
        rw [Nat.add_assoc]
        exact this
      obtain ⟨f, hf⟩ := Deep.choose_lt each
      have hlen : ((List.range len).map f).length = len := by simp
      refine ⟨(List.range len).map f, ⟨some ⟨b, off, none⟩, m, by rw [hlen], fun e => (by cases e), by rw [hlen]; exact hl, hm, fun j x hj => ⟨b, off, rfl, ?_⟩⟩, fun a ha => ?_⟩
      · obtain ⟨hj1, hj2⟩ := List.getElem?_eq_some_iff.1 hj
        rw [hlen] at hj1
        simp at hj2
        subst hj2
        exact (hf j hj1).2
      · obtain ⟨i, hi1, rfl⟩ := List.mem_map.1 ha
        exact (hf i (List.mem_range.1 hi1)).1
end Go.Proofs.YtbpfkeeikhhlnaaGreatDoor
namespace Go.Proofs.YtbpfkeeikhhlnaaGreatDoor
open Go.RowKit
set_option maxRecDepth 100000

theorem cell_vt {w' : World} {g : Nat} {v : Vt} (h : w'.heap[g]? = some (.cells v.cells.toArray 32 (0, 0))) (i : Nat) : w'.cell? ⟨g, i, none⟩ = v.cells[i]? := by
  rw [cell_of_row _ _ i _ _ _ h]; simp
def HelpV (w : World) (v : Vt) (e : Ending) (w' : World) : Prop := ∃ b, e = .returned (.bool b) ∧ (b = true → v.few) ∧ Below w.heap.size w w'
set_option maxHeartbeats 4000000 in
theorem help25 (w : World) (v : Vt) : Calls Tryz.prog 7 #[.agg v.cells.toArray] w (HelpV w v) := by
  obtain ⟨W, hW⟩ : ∃ W, W = w.alloc (.cells v.cells.toArray 32) := ⟨_, rfl⟩
  have hbl := bl1 hW
  have hbx : W.heap[w.heap.size]? = some (.cells v.cells.toArray 32 (0, 0)) := by rw [hW]; exact heap_alloc_new _ _
  have q4 : W.cell? ⟨w.heap.size, 4, none⟩ = some (.slice v.ms.a v.ms.n v.ms.c) := cell_vt hbx 4
  have q5 : W.cell? ⟨w.heap.size, 5, none⟩ = some (.slice v.p.a v.p.n v.p.c) := cell_vt hbx 5
  have q6 : W.cell? ⟨w.heap.size, 6, none⟩ = some (.slice v.q.a v.q.n v.q.c) := cell_vt hbx 6
  have HBL := Lib.hid hbl
  have HW := Lib.hid hW
  clear hW hbx hbl
  simp only [Vt.cells] at HW ⊢
  go_enter Tryz.func7, Tryz.ntmps7
  go_upto_region 1 with fail
  rw [← HW.out]
  have eA : (#[.int .u8 v.f, .int .u8 v.e, .int .u32 v.vw, .int .u32 v.lo, .slice v.ms.a v.ms.n v.ms.c, .slice v.p.a v.p.n v.p.c, .slice v.q.a v.q.n v.q.c] : Array Value) = v.cells.toArray := rfl
  rw [eA]
  clear eA HW
  generalize v.cells.toArray = A at *
  by_cases h1 : (v.ms.n : Int) ≤ 40
  · by_cases h2 : (v.p.n : Int) ≤ 40
    · by_cases h3 : (v.q.n : Int) ≤ 40
      all_goals
        go_wp2_with fail
        go_ret
        exact ⟨_, rfl, fun h => by first | (cases h; done) | exact ⟨by omega, by omega, by omega⟩, HBL.out⟩
    · go_wp2_with fail
      go_ret
      exact ⟨_, rfl, fun h => by first | (cases h; done) | exact ⟨by omega, by omega, by omega⟩, HBL.out⟩
  · go_wp2_with fail
    go_ret
    exact ⟨_, rfl, fun h => by first | (cases h; done) | exact ⟨by omega, by omega, by omega⟩, HBL.out⟩

def HelpM (w : World) (m : Mg) (l : List Vt) (e : Ending) (w' : World) : Prop := ∃ b, e = .returned (.bool b) ∧ (b = true → m.vs.n ≤ 6 ∧ m.sm.n ≤ 12 ∧ m.dt.n ≤ 200 ∧ m.vt.few ∧ ∀ x ∈ l, x.few) ∧ Below w.heap.size w w'
set_option maxHeartbeats 8000000 in
theorem help10 (w : World) (m : Mg) (l : List Vt) (hl : RowU w 7 Vt.cells m.vs.val l) : Calls Tryz.prog 6 #[.agg m.cells.toArray] w (HelpM w m l) := by
  obtain ⟨W, hW⟩ : ∃ W, W = w.alloc (.cells m.cells.toArray 37) := ⟨_, rfl⟩
  have hbl := bl1 hW
  have hbx := bx1 hW
  have q22 : W.cell? ⟨w.heap.size, 22, none⟩ = some (.slice m.vs.a m.vs.n m.vs.c) := cell_box hbx 22
  have q23 : W.cell? ⟨w.heap.size, 23, none⟩ = some (.slice m.sm.a m.sm.n m.sm.c) := cell_box hbx 23
  have q24 : W.cell? ⟨w.heap.size, 24, none⟩ = some (.slice m.dt.a m.dt.n m.dt.c) := cell_box hbx 24
  have q15 : W.cell? ⟨w.heap.size, 15, none⟩ = some (.int .u8 m.vt.f) := cell_box hbx 15
  have q16 : W.cell? ⟨w.heap.size, 16, none⟩ = some (.int .u8 m.vt.e) := cell_box hbx 16
  have q17 : W.cell? ⟨w.heap.size, 17, none⟩ = some (.int .u32 m.vt.vw) := cell_box hbx 17
  have q18 : W.cell? ⟨w.heap.size, 18, none⟩ = some (.int .u32 m.vt.lo) := cell_box hbx 18
  have q19 : W.cell? ⟨w.heap.size, 19, none⟩ = some (.slice m.vt.ms.a m.vt.ms.n m.vt.ms.c) := cell_box hbx 19
  have q20 : W.cell? ⟨w.heap.size, 20, none⟩ = some (.slice m.vt.p.a m.vt.p.n m.vt.p.c) := cell_box hbx 20
  have q21 : W.cell? ⟨w.heap.size, 21, none⟩ = some (.slice m.vt.q.a m.vt.q.n m.vt.q.c) := cell_box hbx 21
  have CV := help25 W m.vt
  simp only [Vt.cells] at CV
  have CVH := Lib.hid CV
  obtain ⟨sa, sc, hq, -, -, -, hrow0⟩ := hl
  have hrow : ∀ (j : Nat) (x : Vt), l[j]? = some x → ∃ b off, sa = some ⟨b, off, none⟩ ∧ ∀ i u, x.cells[i]? = some u → W.cell? ⟨b, off + j * 7 + i, none⟩ = some u := fun j x hj => by
    obtain ⟨b, off, e, hc⟩ := hrow0 j x hj
    exact ⟨b, off, e, fun i u hu => by have := hc i u hu; rw [hbl.cell (cell_block this)]; exact this⟩
  injection hq with hq1 hq2 hq3
  rw [hq1, hq2, hq3] at q22
  have HROW := Lib.hid hrow
  have HBX := Lib.hid hbx
  have HBL := Lib.hid hbl
  have HW := Lib.hid hW
  have HQ := Lib.hid q22
  have HNL := Lib.hid (show m.vs.n = l.length from hq2)
  clear hW hbx hbl hrow0 hrow hq1 hq2 hq3 CV
  generalize hvn : l.length = vn at *
  have HVN := Lib.hid hvn
  clear hvn
  simp only [Mg.cells] at HW ⊢
  go_enter Tryz.func6, Tryz.ntmps6
  go_upto_region 1 with fail
  rw [← HW.out]
  have eA := mgA m
  rw [eA]
  clear eA HW
  generalize m.cells.toArray = A at *
  by_cases h1 : 6 < (vn : Int)
  · go_wp2_with fail
    go_ret
    exact ⟨_, rfl, fun h => (by cases h), HBL.out⟩
  · by_cases h2 : 12 < (m.sm.n : Int)
    · go_wp2_with fail
      go_ret
      exact ⟨_, rfl, fun h => (by cases h), HBL.out⟩
    · by_cases h3 : 200 < (m.dt.n : Int)
      · go_wp2_with fail
        go_ret
        exact ⟨_, rfl, fun h => (by cases h), HBL.out⟩
      · go_wp2_with fail
        refine Calls.mono CVH.out ?_
        rintro e w1 ⟨b, rfl, hfew, hb⟩
        have HFW := Lib.hid hfew
        clear hfew
        have B1 := Lib.hid hb
        clear hb q15 q16 q17 q18 q19 q20 q21 q22 q23 q24 CVH
        cases b
        · go_wp2_with fail
          go_ret
          exact ⟨_, rfl, fun h => (by cases h), HBL.out.trans (B1.out.mono HBL.out.size)⟩
        · go_upto_region 3 with fail
          obtain ⟨gx, hgx⟩ : ∃ g, g = w.heap.size := ⟨_, rfl⟩
          have HBXg := HBX
          rw [← hgx] at HBXg HQ ⊢
          clear hgx
          go_wp2_with fail
          go_loopw [3] (fun vi wr => ∃ j : Nat, j ≤ vn ∧ vi = .int .i64 j ∧ Hid (Below W.heap.size W wr) ∧ Hid (∀ x ∈ l.take j, x.few)) (fun i _ => vn - (intOf i).toNat)
          case atStart => exact ⟨0, Nat.zero_le _, rfl, B1, Lib.hid (fun x hx => by simp at hx)⟩
          case round =>
            obtain ⟨j, hj, rfl, HBW, HFS⟩ := hrel
            have qv : wr.cell? ⟨gx, 22, none⟩ = some (.slice sa vn sc) := (HBW.out.cell (cell_block HQ.out)).trans HQ.out
            by_cases hlt : j < vn
            · obtain ⟨x, hx⟩ : ∃ x, l[j]? = some x := ⟨_, List.getElem?_eq_getElem (by rw [HVN.out]; exact hlt)⟩
              obtain ⟨b, off, rfl, G0⟩ := HROW.out j x hx
              have G : ∀ i u, x.cells[i]? = some u → wr.cell? ⟨b, off + j * 7 + i, none⟩ = some u := fun i u hi => (HBW.out.cell (cell_block (G0 i u hi))).trans (G0 i u hi)
              have GL := Lib.hid (vt_load G)
              have CX := Lib.hid (help25 wr x)
              have HX := Lib.hid hx
              clear hx G0 G
              go_upto_region 6 with fail
              refine wp_region_lit ?_
              refine wpl_val (v := .pointer (some ⟨gx, 22, none⟩)) (w1 := wr) rfl (by go_simp) _ rfl ?_
              refine wpl_val (v := .slice (some ⟨b, off, none⟩) vn sc) (w1 := wr) rfl (by go_simp) _ rfl ?_
              refine wpl_val (v := .int .i64 j) (w1 := wr) rfl (by go_simp) _ rfl ?_
              refine wpl_val (v := .pointer (some ⟨b, off + j * 7, none⟩)) (w1 := wr) rfl (by go_simp) _ rfl ?_
              refine wpl_val (v := .agg x.cells.toArray) (w1 := wr) rfl (exec_load 32 (.tmp 36) rfl rfl GL.out) _ rfl ?_
              generalize x.cells.toArray = AX at *
              go_wp2_with fail
              refine Calls.mono CX.out ?_
              rintro e w2 ⟨b2, rfl, hfx, hb2⟩
              have HFX := Lib.hid hfx
              clear hfx
              have HB2 := Lib.hid (HBW.out.trans (hb2.mono HBW.out.size))
              clear hb2 CX qv
              cases b2
              · go_wp2_with fail
                go_ret
                exact ⟨_, rfl, fun h => (by cases h), HBL.out.trans (HB2.out.mono HBL.out.size)⟩
              · go_wp2_with fail
                go_round
                case rel => exact ⟨j + 1, by omega, by go_num, HB2, Lib.hid (fun y hy => by
                  rw [List.take_add_one, HX.out] at hy
                  rcases List.mem_append.1 hy with h | h
                  · exact HFS.out y h
                  · simp at h; rw [h]; exact HFX.out (by first | rfl | trivial))⟩
                case measure => simp [intOf]; omega
            · obtain rfl : j = vn := by omega
              go_wp2_with fail
              go_ret
              exact ⟨_, rfl, fun _ => ⟨by have := HNL.out; have := HVN.out; omega, by omega, by omega, HFW.out (by first | rfl | trivial), fun x hx => HFS.out x (by rw [List.take_of_length_le (by rw [HVN.out]; exact Nat.le_refl _)]; exact hx)⟩, HBL.out.trans (HBW.out.mono HBL.out.size)⟩
end Go.Proofs.YtbpfkeeikhhlnaaGreatDoor
namespace Go.Proofs.YtbpfkeeikhhlnaaGreatDoor
open Go.ChangeShapes Go.WideShapes Go.ChangeAt Go.RowKit

set_option maxRecDepth 100000 in
theorem open_req {H : Type} {enc : TypeId × Value → H} {W : World} {b0 base : Nat} {spare : Nat → Bool} {held : Bool} {v : Value} {d : DataW H} {p : List MemPlace} (hv : Value.okWide Tryz.prog W .any b0 27 v)
    (h : DataW.Trod enc Tryz.prog W base spare held 27 v d p) : ∃ r : Rq, v = .agg r.cells.toArray ∧ r.ok := by
  obtain ⟨cs, rfl, hsz⟩ := okWide_struct Tryz.underlying27 hv
  obtain ⟨fuel, hf⟩ := h
  have c27 : Tryz.prog.cellsOf 27 = 5 := by kernel_rfl
  have c25 : Tryz.prog.cellsOf 25 = 3 := by kernel_rfl
  have c5 : Tryz.prog.cellsOf 5 = 1 := by kernel_rfl
  have c22 : Tryz.prog.cellsOf 22 = 1 := by kernel_rfl
  have c23 : Tryz.prog.cellsOf 23 = 1 := by kernel_rfl
  obtain ⟨l⟩ := cs
  match l, hsz.trans c27 with
  | [x0, x1, x2, x3, x4], _ =>
    obtain ⟨ys, n, _, _, _, hl, hy⟩ := DataW.trod_struct Tryz.underlying27 (show DataW.trod enc Tryz.prog W base spare held fuel 27 [x0, x1, x2, x3, x4] = some (d, p) from hf)
    have g : ∀ j, j < 3 → ∃ y, ys[j]? = some y := fun j hj => ⟨_, List.getElem?_eq_getElem (by rw [hl]; exact hj)⟩
    obtain ⟨y0, e0⟩ := g 0 (by omega)
    obtain ⟨y1, e1⟩ := g 1 (by omega)
    obtain ⟨y2, e2⟩ := g 2 (by omega)
    have f0 : DataW.trod enc Tryz.prog W base spare held n 5 [x0] = some y0 := by
      have this : DataW.trod enc Tryz.prog W base spare held n 5 (([x0, x1, x2, x3, x4].drop 0).take (Tryz.prog.cellsOf 5)) = ys[0]? := hy 0 _ rfl
      rw [c5] at this
      rw [← e0]; exact this
    have f1 : DataW.trod enc Tryz.prog W base spare held n 22 [x1] = some y1 := by
      have this : DataW.trod enc Tryz.prog W base spare held n 22 (([x0, x1, x2, x3, x4].drop 1).take (Tryz.prog.cellsOf 22)) = ys[1]? := hy 1 _ rfl
      rw [c22] at this
      rw [← e1]; exact this
    have f2 : DataW.trod enc Tryz.prog W base spare held n 25 [x2, x3, x4] = some y2 := by
      have this : DataW.trod enc Tryz.prog W base spare held n 25 (([x0, x1, x2, x3, x4].drop 2).take (Tryz.prog.cellsOf 25)) = ys[2]? := hy 2 _ rfl
      rw [c25] at this
      rw [← e2]; exact this
    obtain ⟨zs, n2, _, _, _, hl2, hz⟩ := DataW.trod_struct Tryz.underlying25 f2
    have g2 : ∀ j, j < 3 → ∃ y, zs[j]? = some y := fun j hj => ⟨_, List.getElem?_eq_getElem (by rw [hl2]; exact hj)⟩
    obtain ⟨u0, d0⟩ := g2 0 (by omega)
    obtain ⟨u1, d1⟩ := g2 1 (by omega)
    obtain ⟨u2, d2⟩ := g2 2 (by omega)
    have k0 : DataW.trod enc Tryz.prog W base spare held n2 5 [x2] = some u0 := by
      have this : DataW.trod enc Tryz.prog W base spare held n2 5 (([x2, x3, x4].drop 0).take (Tryz.prog.cellsOf 5)) = zs[0]? := hz 0 _ rfl
      rw [c5] at this
      rw [← d0]; exact this
    have k1 : DataW.trod enc Tryz.prog W base spare held n2 5 [x3] = some u1 := by
      have this : DataW.trod enc Tryz.prog W base spare held n2 5 (([x2, x3, x4].drop 1).take (Tryz.prog.cellsOf 5)) = zs[1]? := hz 1 _ rfl
      rw [c5] at this
      rw [← d1]; exact this
    have k2 : DataW.trod enc Tryz.prog W base spare held n2 23 [x4] = some u2 := by
      have this : DataW.trod enc Tryz.prog W base spare held n2 23 (([x2, x3, x4].drop 2).take (Tryz.prog.cellsOf 23)) = zs[2]? := hz 2 _ rfl
      rw [c23] at this
      rw [← d2]; exact this
    obtain ⟨a0, q0, _, b0⟩ := DataW.trod_int Tryz.underlying5 f0
    obtain ⟨a1, q1, _, b1⟩ := DataW.trod_int Tryz.underlying22 f1
    obtain ⟨a2, q2, _, b2⟩ := DataW.trod_int Tryz.underlying5 k0
    obtain ⟨a3, q3, _, b3⟩ := DataW.trod_int Tryz.underlying5 k1
    obtain ⟨a4, q4, _, b4⟩ := DataW.trod_int Tryz.underlying23 k2
    injection q0 with q0; injection q1 with q1; injection q2 with q2; injection q3 with q3; injection q4 with q4
    subst q0 q1 q2 q3 q4
    refine ⟨⟨a0, a1, a2, a3, a4⟩, rfl, ?_⟩
    simp [Lit.wf, IntKind.min, IntKind.max, IntKind.signed, IntKind.bits] at b0 b1 b2 b3 b4
    unfold Rq.ok
    simp only
    omega

theorem open_bytes {H : Type} {enc : TypeId × Value → H} {W : World} {fuel : Nat} {v : Value} {x : DataW H × List MemPlace} (h : DataW.trod enc Tryz.prog W 0 (fun _ => true) true fuel 35 [v] = some x) :
    ∃ (ao : Option Addr) (l : List Int) (cap : Nat), v = .slice ao l.length cap ∧ Bytes W ao l ∧ (∀ y ∈ l, isByte y) ∧ l.length ≤ cap ∧ (ao = none → cap = 0) := by
  rcases open_ints Tryz.underlying35 Tryz.underlying5 (by kernel_rfl) h with ⟨hcs, _⟩ | ⟨a, len, cap, zs, hcs, _, hl, hm, hz, _, hcell, hwz⟩
  · injection hcs with hcs
    exact ⟨none, [], 0, hcs, fun i h => by simp at h, fun y hy => by simp at hy, Nat.le_refl _, fun _ => rfl⟩
  · injection hcs with hcs
    have hz' : zs.length = cap := by simpa using hz
    have hlen : (zs.take len).length = len := by rw [List.length_take]; omega
    refine ⟨some a, zs.take len, cap, by rw [hlen]; exact hcs, fun i hi => ?_, fun y hy => ?_, by omega, fun e => by cases e⟩
    · rw [hlen] at hi
      exact ⟨a, rfl, by rw [hcell i (by omega), getD_take zs len i hi]⟩
    · have := hwz y (List.mem_of_mem_take hy)
      simpa [isByte, Lit.wf, IntKind.min, IntKind.max, IntKind.signed, IntKind.bits] using this
end Go.Proofs.YtbpfkeeikhhlnaaGreatDoor
