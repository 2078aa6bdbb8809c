/- The document's votes: which there may be. -/
import Derived.Test.YtbpfkeeikhhlnaaGreatDoorC09
import Derived.Test.YtbpfkeeikhhlnaaGreatDoorC06
import Derived.Test.YtbpfkeeikhhlnaaGreatDoorC03
namespace Go.Proofs.YtbpfkeeikhhlnaaGreatDoor
open Go.RowKit
set_option maxRecDepth 100000

set_option maxHeartbeats 16000000 in
theorem refIsVote_any (w : World) (v : Vt) (c : Vc) (hv : VtAt w v c) (hok : (∀ x ∈ c.p, 0 ≤ x.s ∧ x.rq.ok) ∧ ∀ x ∈ c.q, 0 ≤ x.s ∧ x.rq.ok) :
  Calls Tryz.prog 15 #[.agg v.cells.toArray] w fun e w' => e = .returned (.bool (voteB v c)) ∧ Below w.heap.size w w' := by
 obtain ⟨f1, e1, v1, l1, ⟨m1, am, c1⟩, ⟨p1, ap, d1⟩, ⟨q1, aq, k1⟩⟩ := v
 obtain ⟨xm, xp, xq⟩ := c
 obtain ⟨h1, h2, h3⟩ := hv
 obtain ⟨hp, hq⟩ := hok
 have HPp := Lib.hid hp
 have HPq := Lib.hid hq
 clear hp hq
 obtain ⟨_, _, eh1, -, -, zh1, rh1⟩ := h1
 injection eh1 with eah1 ebh1 ech1
 have RAm := Lib.hid rh1
 rw [← eah1] at RAm
 have HNm := Lib.hid ebh1.symm
 rw [← ebh1] at zh1
 clear rh1 eah1 ebh1 ech1
 obtain ⟨_, _, eh2, -, -, zh2, rh2⟩ := h2
 injection eh2 with eah2 ebh2 ech2
 have RAp := Lib.hid rh2
 rw [← eah2] at RAp
 have HNp := Lib.hid ebh2.symm
 rw [← ebh2] at zh2
 clear rh2 eah2 ebh2 ech2
 obtain ⟨_, _, eh3, -, -, zh3, rh3⟩ := h3
 injection eh3 with eah3 ebh3 ech3
 have RAq := Lib.hid rh3
 rw [← eah3] at RAq
 have HNq := Lib.hid ebh3.symm
 rw [← ebh3] at zh3
 clear rh3 eah3 ebh3 ech3
 obtain ⟨W, hW⟩ : ∃ W, W = w.alloc (.cells #[.int .u8 f1, .int .u8 e1, .int .u32 v1, .int .u32 l1, .slice m1 am c1, .slice p1 ap d1, .slice q1 aq k1] 32) := ⟨_, rfl⟩
 have hWb : Below w.heap.size w W := by rw [hW]; exact (Below.refl _ _).alloc (Nat.le_refl _) _
 have qa0 : W.cell? ⟨w.heap.size, 0, none⟩ = some (.int .u8 f1) := by rw [hW]; simp
 have qa1 : W.cell? ⟨w.heap.size, 1, none⟩ = some (.int .u8 e1) := by rw [hW]; simp
 have qa2 : W.cell? ⟨w.heap.size, 2, none⟩ = some (.int .u32 v1) := by rw [hW]; simp
 have qa3 : W.cell? ⟨w.heap.size, 3, none⟩ = some (.int .u32 l1) := by rw [hW]; simp
 have qa4 : W.cell? ⟨w.heap.size, 4, none⟩ = some (.slice m1 am c1) := by rw [hW]; simp
 have qa5 : W.cell? ⟨w.heap.size, 5, none⟩ = some (.slice p1 ap d1) := by rw [hW]; simp
 have qa6 : W.cell? ⟨w.heap.size, 6, none⟩ = some (.slice q1 aq k1) := by rw [hW]; simp
 have HWB := Lib.hid hWb
 have HW := Lib.hid hW
 obtain ⟨r, hr⟩ : ∃ r, r = voteB ⟨f1, e1, v1, l1, ⟨m1, am, c1⟩, ⟨p1, ap, d1⟩, ⟨q1, aq, k1⟩⟩ ⟨xm, xp, xq⟩ := ⟨_, rfl⟩
 rw [← hr]
 simp only [voteB, isRp, isEp, isNv, isSq] at hr
 have HR := Lib.hid hr
 clear hr hWb hW
 simp only [Vt.cells]
 by_cases hc0 : f1 < 4
 ·skip
  by_cases hc1 : 1 ≤ e1
  ·skip
   by_cases hc2 : e1 ≤ 200
   ·skip
    by_cases hc3 : 1 ≤ v1
    ·skip
     by_cases hc4 : v1 ≤ 1048576
     ·skip
      by_cases hc5 : l1 ≤ 1073741824
      ·skip
       by_cases hc6 : am ≤ 40
       ·skip
        by_cases hc7 : ap ≤ 40
        ·skip
         by_cases hc8 : aq ≤ 40
         ·skip
          have HFm := Lib.hid hc6
          have HFp := Lib.hid hc7
          have HFq := Lib.hid hc8
          have HH := Lib.hid (show (decide (f1 < 4) && (decide (1 ≤ e1) && decide (e1 ≤ 200) && (decide (1 ≤ v1) && decide (v1 ≤ 1048576) && (decide (l1 ≤ 1073741824) && (true && (true && true)))))) = true by simp [hc0, hc1, hc2, hc3, hc4, hc5])
          go_enter Tryz.func15, Tryz.ntmps15
          go_upto_region 1 with fail
          rw [← HW.out]
          clear HW
          go_wp2_with fail
          go_loopw [3] (fun vi wr => ∃ j : Nat, j ≤ am ∧ vi = .int .i64 j ∧ Hid (Below W.heap.size W wr) ∧ Hid (∀ i, i < j → stepB mkOk mkAb xm i = true)) (fun i _ => am - (intOf i).toNat)
          case atStart => exact ⟨0, by omega, rfl, Lib.hid (Below.refl _ _), Lib.hid (fun i h => by omega)⟩
          case round =>
           skip
           obtain ⟨j, hj, rfl, HB, A⟩ := hrel
           have sa : wr.cell? ⟨w.heap.size, 4, none⟩ = _ := (HB.out.cell (cell_block qa4)).trans qa4
           by_cases hlt : j < am
           ·obtain ⟨x, hx⟩ : ∃ x, xm[j]? = some x := ⟨_, List.getElem?_eq_getElem (by rw [HNm.out]; exact hlt)⟩
            obtain ⟨b1, o1, e1, g1⟩ := RAm.out j x hx
            have HX := Lib.hid hx
            have hz : Below w.heap.size w wr := HWB.out.trans (HB.out.mono HWB.out.size)
            rw [e1] at sa
            have l0 : wr.cell? ⟨b1, o1 + j * 2, none⟩ = some (.int .u32 x.s) := by have t : w.cell? ⟨b1, o1 + j * 2, none⟩ = some (.int .u32 x.s) := g1 0 _ rfl; rw [hz.cell (cell_block t)]; exact t
            have l1 : wr.cell? ⟨b1, o1 + j * 2 + 1, none⟩ = some (.int .u64 x.r) := by have t : w.cell? ⟨b1, o1 + j * 2 + 1, none⟩ = some (.int .u64 x.r) := g1 1 _ rfl; rw [hz.cell (cell_block t)]; exact t
            have hsq : isSq x.s = decide (x.s ≤ 1073741824) := rfl
            clear hx g1
            by_cases hg : x.s ≤ 1073741824
            ·have hgd : decide (1073741824 < x.s) = false := by rw [decide_eq_false_iff_not]; omega
             rcases Nat.eq_zero_or_pos j with h0 | h0
             ·subst h0
              have HG := Lib.hid hg
              simp only [Nat.zero_mul, Nat.add_zero] at l0 l1
              clear hsq hz
              go_wp2_with fail
              go_quiet (fail)
              go_wp2_with fail
              go_round
              case measure => simp [intOf]; omega
              case rel =>
               refine ⟨1, by omega, by go_num, Lib.hid (bel_drewN HB.out _), Lib.hid (fun i hi => ?_)⟩
               obtain rfl : i = 0 := by omega
               rw [stepB_zero HX.out]; unfold mkOk isSq; exact decide_eq_true HG.out
             ·obtain ⟨i, rfl⟩ : ∃ i, j = i + 1 := ⟨j - 1, by omega⟩
              obtain ⟨y, hy⟩ : ∃ y, xm[i]? = some y := ⟨_, List.getElem?_eq_getElem (by rw [HNm.out]; omega)⟩
              have py : wr.cell? ⟨b1, o1 + i * 2, none⟩ = some (.int .u32 y.s) := by
               obtain ⟨b2, o2, e2, g2⟩ := RAm.out i y hy
               rw [e1] at e2
               injection e2 with e2; injection e2 with e3 e4; subst e3; subst e4
               have h3 : w.cell? ⟨b1, o1 + i * 2, none⟩ = some (.int .u32 y.s) := g2 0 _ rfl
               rw [hz.cell (cell_block h3)]; exact h3
              have HY := Lib.hid hy
              clear hy hz hsq e1
              have HG := Lib.hid hg
              by_cases hc : y.s ≥ x.s
              ·have HC := Lib.hid hc
               go_wp2_with fail
               go_quiet (fail)
               go_wp2_with fail
               go_ret
               refine ⟨?_, HWB.out.trans ((bel_drewN HB.out _).mono HWB.out.size)⟩
               have e : stepB mkOk mkAb xm (i + 1) = false := by
                rw [stepB_succ HX.out HY.out]; unfold mkAb; have := HC.out; simp; intro _; omega
               rw [HR.out, upB_false (by rw [HNm.out]; exact hlt) e]; simp
              ·have HC := Lib.hid hc
               have hcd : decide (x.s ≤ y.s) = false := by rw [decide_eq_false_iff_not]; omega
               clear hc
               go_wp2_with fail
               go_quiet (fail)
               go_wp2_with fail
               go_round
               case measure => simp [intOf]; omega
               case rel =>
                refine ⟨i + 2, by omega, by go_num, Lib.hid (bel_drewN HB.out _), Lib.hid (fun k hk => ?_)⟩
                by_cases e : k = i + 1
                ·subst e
                 rw [stepB_succ HX.out HY.out]; unfold mkOk isSq mkAb; have := HG.out; have := HC.out; simp; omega
                ·exact A.out k (by omega)
            ·have HG := Lib.hid hg
             clear hsq hz
             go_wp2_with fail
             go_quiet (fail)
             go_wp2_with fail
             go_ret
             refine ⟨?_, HWB.out.trans ((bel_drewN HB.out _).mono HWB.out.size)⟩
             rw [HR.out, upB_false (by rw [HNm.out]; exact hlt) (stepB_not HX.out (by unfold mkOk isSq; exact decide_eq_false (by have := HG.out; omega)))]; simp
           ·obtain rfl : am = j := by omega
            have EQm := Lib.hid (upB_true (ok := mkOk) (ab := mkAb) (by rw [HNm.out]; exact HFm.out) (by rw [HNm.out]; exact A.out))
            clear A hlt hj
            go_wp2_with fail
            go_loopw [4] (fun vi wr => ∃ j : Nat, j ≤ ap ∧ vi = .int .i64 j ∧ Hid (Below W.heap.size W wr) ∧ Hid (∀ i, i < j → stepB enOk enAb xp i = true)) (fun i _ => ap - (intOf i).toNat)
            case atStart => exact ⟨0, by omega, rfl, HB, Lib.hid (fun i h => by omega)⟩
            case round =>
             clear HB
             obtain ⟨j, hj, rfl, HB, A⟩ := hrel
             have sa : wr.cell? ⟨w.heap.size, 5, none⟩ = _ := (HB.out.cell (cell_block qa5)).trans qa5
             by_cases hlt : j < ap
             ·obtain ⟨x, hx⟩ : ∃ x, xp[j]? = some x := ⟨_, List.getElem?_eq_getElem (by rw [HNp.out]; exact hlt)⟩
              obtain ⟨b1, o1, e1, g1⟩ := RAp.out j x hx
              have HX := Lib.hid hx
              have HG := Lib.hid (fun wx (h : Below W.heap.size W wx) i u (hu : (En.cells x)[i]? = some u) => show wx.cell? ⟨b1, o1 + j * 7 + i, none⟩ = some u by
               have h3 := g1 i u hu
               rw [(HWB.out.trans (h.mono HWB.out.size)).cell (cell_block h3)]; exact h3)
              have HS := Lib.hid (fun wx (h : Below W.heap.size W wx) => show wx.cell? ⟨w.heap.size, 5, none⟩ = some (.slice (some ⟨b1, o1, none⟩) ap d1) by
               rw [h.cell (cell_block qa5), ← e1]; exact qa5)
              have hnb : (ap : Int) ≤ 40 := by have := HFp.out; omega
              have CXX := Lib.hid (fun w' => refEntry_any x (HPp.out x (List.mem_of_getElem? hx)).1 w')
              have OX := Lib.hid ((HPp.out x (List.mem_of_getElem? hx)).2)
              have hlt' : (j : Int) < ap := by omega
              rw [e1] at sa
              clear hx g1
              cases hb : enOk x with
              | false =>
               have CX := Lib.hid (fun w' => by have q := CXX.out w'; rwa [hb] at q)
               have HBX := Lib.hid hb
               clear hb e1
               go_wp2_with fail
               refine wp_region_held_drew (S := fun wx => Below W.heap.size W wx) (by kernel_rfl) (HB.out.drew) (fun hS => ?_)
               refine tg 0 (.pointer (some ⟨w.heap.size, 5, none⟩)) rfl hS ?_
               refine tk 1 (.slice (some ⟨b1, o1, none⟩) ap d1) rfl (yi_load 30 (.tmp 93) (.pointer (some ⟨w.heap.size, 5, none⟩)) rfl rfl rfl (fun wq hw => by have q := HS.out wq hw; go_simp)) hS ?_
               refine tm 2 (.int .i64 ↑j) rfl hS ?_
               refine tg 3 (.pointer (some ⟨b1, o1 + j * 7, none⟩)) rfl hS ?_
               refine tk 4 (.agg x.cells.toArray) rfl (yi_load 80 (.tmp 96) (.pointer (some ⟨b1, o1 + j * 7, none⟩)) rfl rfl rfl (fun wq hw => en_load (HG.out wq hw))) hS ?_
               refine rdy1 5 rfl (fun K hK => ?_)
               rw [if_pos (by rfl)]
               go_simp
               refine Calls.mono (CX.out _) ?_
               rintro e w4 ⟨rfl, b4⟩
               have h4 : Below W.heap.size W w4 := hS.trans (b4.mono hS.size)
               refine hK.out _ _ (h4) (fun hS => ?_)
               clear hK K
               refine tm 6 (.bool true) rfl hS ?_
               refine tm 7 (.bool true) rfl hS ?_
               refine tn 8 rfl hS ?_
               refine tn 9 rfl hS ?_
               refine tn 10 rfl hS ?_
               refine tn 11 rfl hS ?_
               refine tn 12 rfl hS ?_
               refine tn 13 rfl hS ?_
               refine tn 14 rfl hS ?_
               refine tn 15 rfl hS ?_
               refine tn 16 rfl hS ?_
               refine tn 17 rfl hS ?_
               refine tn 18 rfl hS ?_
               refine tn 19 rfl hS ?_
               refine tn 20 rfl hS ?_
               refine tn 21 rfl hS ?_
               refine tn 22 rfl hS ?_
               refine tn 23 rfl hS ?_
               refine tn 24 rfl hS ?_
               refine tn 25 rfl hS ?_
               refine tm 26 (.bool true) rfl hS ?_
               refine wpAnyH_done (by kernel_rfl) ?_ _
               go_wp2_with fail
               go_ret
               refine ⟨?_, HWB.out.trans (hS.mono HWB.out.size)⟩
               rw [HR.out, upB_false (ok := enOk) (ab := enAb) (l := xp) (by rw [HNp.out]; exact hlt) (stepB_not HX.out HBX.out)]; simp
              | true =>
               have CX := Lib.hid (fun w' => by have q := CXX.out w'; rwa [hb] at q)
               have HBX := Lib.hid hb
               clear hb
               by_cases hj0 : j = 0
               ·have HJ0 := Lib.hid hj0
                have hj0' : ¬ (0 : Int) < j := by omega
                clear hj0 e1
                go_wp2_with fail
                refine wp_region_held_drew (S := fun wx => Below W.heap.size W wx) (by kernel_rfl) (HB.out.drew) (fun hS => ?_)
                refine tg 0 (.pointer (some ⟨w.heap.size, 5, none⟩)) rfl hS ?_
                refine tk 1 (.slice (some ⟨b1, o1, none⟩) ap d1) rfl (yi_load 30 (.tmp 93) (.pointer (some ⟨w.heap.size, 5, none⟩)) rfl rfl rfl (fun wq hw => by have q := HS.out wq hw; go_simp)) hS ?_
                refine tm 2 (.int .i64 ↑j) rfl hS ?_
                refine tg 3 (.pointer (some ⟨b1, o1 + j * 7, none⟩)) rfl hS ?_
                refine tk 4 (.agg x.cells.toArray) rfl (yi_load 80 (.tmp 96) (.pointer (some ⟨b1, o1 + j * 7, none⟩)) rfl rfl rfl (fun wq hw => en_load (HG.out wq hw))) hS ?_
                refine rdy1 5 rfl (fun K hK => ?_)
                rw [if_pos (by rfl)]
                go_simp
                refine Calls.mono (CX.out _) ?_
                rintro e w4 ⟨rfl, b4⟩
                have h4 : Below W.heap.size W w4 := hS.trans (b4.mono hS.size)
                refine hK.out _ _ (h4) (fun hS => ?_)
                clear hK K
                refine tm 6 (.bool false) rfl hS ?_
                refine tm 7 (.bool false) rfl hS ?_
                refine tm 8 (.int .i64 ↑j) rfl hS ?_
                refine tk 9 (.bool false) rfl (.inl ⟨rfl, fun _ _ => by go_simp; exact HJ0.out⟩) hS ?_
                refine tm 10 (.bool false) rfl hS ?_
                refine tn 11 rfl hS ?_
                refine tn 12 rfl hS ?_
                refine tn 13 rfl hS ?_
                refine tn 14 rfl hS ?_
                refine tn 15 rfl hS ?_
                refine tn 16 rfl hS ?_
                refine tn 17 rfl hS ?_
                refine tn 18 rfl hS ?_
                refine tn 19 rfl hS ?_
                refine tn 20 rfl hS ?_
                refine tn 21 rfl hS ?_
                refine tn 22 rfl hS ?_
                refine tn 23 rfl hS ?_
                refine tn 24 rfl hS ?_
                refine tm 25 (.bool false) rfl hS ?_
                refine tm 26 (.bool false) rfl hS ?_
                refine wpAnyH_done (by kernel_rfl) ?_ _
                go_wp2_with fail
                go_round
                case measure => simp [intOf]; omega
                case rel =>
                 refine ⟨j + 1, by omega, by go_num, Lib.hid hS, Lib.hid (fun k hk => ?_)⟩
                 by_cases e : k = j
                 ·subst e
                  have e0 := HJ0.out
                  subst e0
                  rw [stepB_zero HX.out]; exact HBX.out
                 ·exact A.out k (by omega)
               ·obtain ⟨i, hji⟩ : ∃ i, j = i + 1 := ⟨j - 1, by omega⟩
                have hj0' : (0 : Int) < j := by omega
                have hs1 : (j : Int) - 1 = i := by omega
                have hin : (i : Int) < ap := by omega
                have hib : (i : Int) ≤ 1000000 := by omega
                have hi0 : (0 : Int) ≤ i := by omega
                have hwi : IntKind.i64.wrap (i : Int) = i := by
                 rw [IntKind.wrap_i64]; omega
                obtain ⟨y, hy⟩ : ∃ y, xp[i]? = some y := ⟨_, List.getElem?_eq_getElem (by rw [HNp.out]; omega)⟩
                have HG2 := Lib.hid (fun wx (h : Below W.heap.size W wx) k u (hu : (En.cells y)[k]? = some u) => show wx.cell? ⟨b1, o1 + i * 7 + k, none⟩ = some u by
                 obtain ⟨b2, o2, e2, g2⟩ := RAp.out i y hy
                 rw [e1] at e2
                 injection e2 with e2
                 injection e2 with e3 e4
                 subst e3
                 subst e4
                 have h3 := g2 k u hu
                 rw [(HWB.out.trans (h.mono HWB.out.size)).cell (cell_block h3)]; exact h3)
                have HY := Lib.hid hy
                have hst : stepB enOk enAb xp j = enAb x y := by
                 rw [hji] at HX ⊢
                 rw [stepB_succ HX.out HY.out, HBX.out, Bool.true_and]
                have HST := Lib.hid hst
                clear hy hst hji e1 hj0
                by_cases hf : y.s < x.s
                ·have HF := Lib.hid hf
                 clear hf
                 go_wp2_with fail
                 refine wp_region_held_drew (S := fun wx => Below W.heap.size W wx) (by kernel_rfl) (HB.out.drew) (fun hS => ?_)
                 refine tg 0 (.pointer (some ⟨w.heap.size, 5, none⟩)) rfl hS ?_
                 refine tk 1 (.slice (some ⟨b1, o1, none⟩) ap d1) rfl (yi_load 30 (.tmp 93) (.pointer (some ⟨w.heap.size, 5, none⟩)) rfl rfl rfl (fun wq hw => by have q := HS.out wq hw; go_simp)) hS ?_
                 refine tm 2 (.int .i64 ↑j) rfl hS ?_
                 refine tg 3 (.pointer (some ⟨b1, o1 + j * 7, none⟩)) rfl hS ?_
                 refine tk 4 (.agg x.cells.toArray) rfl (yi_load 80 (.tmp 96) (.pointer (some ⟨b1, o1 + j * 7, none⟩)) rfl rfl rfl (fun wq hw => en_load (HG.out wq hw))) hS ?_
                 refine rdy1 5 rfl (fun K hK => ?_)
                 rw [if_pos (by rfl)]
                 go_simp
                 refine Calls.mono (CX.out _) ?_
                 rintro e w4 ⟨rfl, b4⟩
                 have h4 : Below W.heap.size W w4 := hS.trans (b4.mono hS.size)
                 refine hK.out _ _ (h4) (fun hS => ?_)
                 clear hK K
                 refine tm 6 (.bool false) rfl hS ?_
                 refine tm 7 (.bool false) rfl hS ?_
                 refine tm 8 (.int .i64 ↑j) rfl hS ?_
                 refine tk 9 (.bool true) rfl (.inl ⟨rfl, fun _ _ => by go_simp; omega⟩) hS ?_
                 refine tm 10 (.bool true) rfl hS ?_
                 refine tg 11 (.pointer (some ⟨w.heap.size, 5, none⟩)) rfl hS ?_
                 refine tk 12 (.slice (some ⟨b1, o1, none⟩) ap d1) rfl (yi_load 30 (.tmp 104) (.pointer (some ⟨w.heap.size, 5, none⟩)) rfl rfl rfl (fun wq hw => by have q := HS.out wq hw; go_simp)) hS ?_
                 refine tm 13 (.int .i64 ↑j) rfl hS ?_
                 refine tg 14 (.int .i64 ↑i) rfl hS ?_
                 refine tg 15 (.pointer (some ⟨b1, o1 + i * 7, none⟩)) rfl hS ?_
                 refine tg 16 (.pointer (some ⟨b1, o1 + i * 7, none⟩)) rfl hS ?_
                 refine tk 17 (.int .u32 y.s) rfl (yi_load 22 (.tmp 109) (.pointer (some ⟨b1, o1 + i * 7, none⟩)) rfl rfl rfl (fun wq hw => by have q : wq.cell? ⟨b1, o1 + i * 7, none⟩ = some (.int .u32 y.s) := HG2.out wq hw 0 _ rfl; go_simp)) hS ?_
                 refine tg 18 (.pointer (some ⟨w.heap.size, 5, none⟩)) rfl hS ?_
                 refine tk 19 (.slice (some ⟨b1, o1, none⟩) ap d1) rfl (yi_load 30 (.tmp 111) (.pointer (some ⟨w.heap.size, 5, none⟩)) rfl rfl rfl (fun wq hw => by have q := HS.out wq hw; go_simp)) hS ?_
                 refine tm 20 (.int .i64 ↑j) rfl hS ?_
                 refine tg 21 (.pointer (some ⟨b1, o1 + j * 7, none⟩)) rfl hS ?_
                 refine tg 22 (.pointer (some ⟨b1, o1 + j * 7, none⟩)) rfl hS ?_
                 refine tk 23 (.int .u32 x.s) rfl (yi_load 22 (.tmp 115) (.pointer (some ⟨b1, o1 + j * 7, none⟩)) rfl rfl rfl (fun wq hw => by have q : wq.cell? ⟨b1, o1 + j * 7, none⟩ = some (.int .u32 x.s) := HG.out wq hw 0 _ rfl; go_simp)) hS ?_
                 refine tk 24 (.bool false) rfl (.inl ⟨rfl, fun _ _ => by go_simp; have q := HF.out; first | omega | (simp; omega) | simpa using q⟩) hS ?_
                 refine tm 25 (.bool false) rfl hS ?_
                 refine tm 26 (.bool false) rfl hS ?_
                 refine wpAnyH_done (by kernel_rfl) ?_ _
                 go_wp2_with fail
                 go_round
                 case measure => simp [intOf]; omega
                 case rel =>
                  refine ⟨j + 1, by omega, by go_num, Lib.hid hS, Lib.hid (fun k hk => ?_)⟩
                  by_cases e : k = j
                  ·subst e
                   rw [HST.out]; unfold enAb; rw [decide_eq_true_eq]; exact HF.out
                  ·exact A.out k (by omega)
                ·have HF := Lib.hid hf
                 clear hf
                 go_wp2_with fail
                 refine wp_region_held_drew (S := fun wx => Below W.heap.size W wx) (by kernel_rfl) (HB.out.drew) (fun hS => ?_)
                 refine tg 0 (.pointer (some ⟨w.heap.size, 5, none⟩)) rfl hS ?_
                 refine tk 1 (.slice (some ⟨b1, o1, none⟩) ap d1) rfl (yi_load 30 (.tmp 93) (.pointer (some ⟨w.heap.size, 5, none⟩)) rfl rfl rfl (fun wq hw => by have q := HS.out wq hw; go_simp)) hS ?_
                 refine tm 2 (.int .i64 ↑j) rfl hS ?_
                 refine tg 3 (.pointer (some ⟨b1, o1 + j * 7, none⟩)) rfl hS ?_
                 refine tk 4 (.agg x.cells.toArray) rfl (yi_load 80 (.tmp 96) (.pointer (some ⟨b1, o1 + j * 7, none⟩)) rfl rfl rfl (fun wq hw => en_load (HG.out wq hw))) hS ?_
                 refine rdy1 5 rfl (fun K hK => ?_)
                 rw [if_pos (by rfl)]
                 go_simp
                 refine Calls.mono (CX.out _) ?_
                 rintro e w4 ⟨rfl, b4⟩
                 have h4 : Below W.heap.size W w4 := hS.trans (b4.mono hS.size)
                 refine hK.out _ _ (h4) (fun hS => ?_)
                 clear hK K
                 refine tm 6 (.bool false) rfl hS ?_
                 refine tm 7 (.bool false) rfl hS ?_
                 refine tm 8 (.int .i64 ↑j) rfl hS ?_
                 refine tk 9 (.bool true) rfl (.inl ⟨rfl, fun _ _ => by go_simp; omega⟩) hS ?_
                 refine tm 10 (.bool true) rfl hS ?_
                 refine tg 11 (.pointer (some ⟨w.heap.size, 5, none⟩)) rfl hS ?_
                 refine tk 12 (.slice (some ⟨b1, o1, none⟩) ap d1) rfl (yi_load 30 (.tmp 104) (.pointer (some ⟨w.heap.size, 5, none⟩)) rfl rfl rfl (fun wq hw => by have q := HS.out wq hw; go_simp)) hS ?_
                 refine tm 13 (.int .i64 ↑j) rfl hS ?_
                 refine tg 14 (.int .i64 ↑i) rfl hS ?_
                 refine tg 15 (.pointer (some ⟨b1, o1 + i * 7, none⟩)) rfl hS ?_
                 refine tg 16 (.pointer (some ⟨b1, o1 + i * 7, none⟩)) rfl hS ?_
                 refine tk 17 (.int .u32 y.s) rfl (yi_load 22 (.tmp 109) (.pointer (some ⟨b1, o1 + i * 7, none⟩)) rfl rfl rfl (fun wq hw => by have q : wq.cell? ⟨b1, o1 + i * 7, none⟩ = some (.int .u32 y.s) := HG2.out wq hw 0 _ rfl; go_simp)) hS ?_
                 refine tg 18 (.pointer (some ⟨w.heap.size, 5, none⟩)) rfl hS ?_
                 refine tk 19 (.slice (some ⟨b1, o1, none⟩) ap d1) rfl (yi_load 30 (.tmp 111) (.pointer (some ⟨w.heap.size, 5, none⟩)) rfl rfl rfl (fun wq hw => by have q := HS.out wq hw; go_simp)) hS ?_
                 refine tm 20 (.int .i64 ↑j) rfl hS ?_
                 refine tg 21 (.pointer (some ⟨b1, o1 + j * 7, none⟩)) rfl hS ?_
                 refine tg 22 (.pointer (some ⟨b1, o1 + j * 7, none⟩)) rfl hS ?_
                 refine tk 23 (.int .u32 x.s) rfl (yi_load 22 (.tmp 115) (.pointer (some ⟨b1, o1 + j * 7, none⟩)) rfl rfl rfl (fun wq hw => by have q : wq.cell? ⟨b1, o1 + j * 7, none⟩ = some (.int .u32 x.s) := HG.out wq hw 0 _ rfl; go_simp)) hS ?_
                 refine tk 24 (.bool true) rfl (.inl ⟨rfl, fun _ _ => by go_simp; have q := HF.out; first | omega | (simp; omega) | simpa using q⟩) hS ?_
                 refine tm 25 (.bool true) rfl hS ?_
                 refine tm 26 (.bool true) rfl hS ?_
                 refine wpAnyH_done (by kernel_rfl) ?_ _
                 go_wp2_with fail
                 go_ret
                 refine ⟨?_, HWB.out.trans (hS.mono HWB.out.size)⟩
                 rw [HR.out, upB_false (ok := enOk) (ab := enAb) (l := xp) (by rw [HNp.out]; exact hlt) (by rw [HST.out]; unfold enAb; rw [decide_eq_false_iff_not]; have := HF.out; omega)]; simp
             ·obtain rfl : ap = j := by omega
              have EQp := Lib.hid (upB_true (ok := enOk) (ab := enAb) (by rw [HNp.out]; exact HFp.out) (by rw [HNp.out]; exact A.out))
              clear A hlt hj
              go_wp2_with fail
              go_loopw [5] (fun vi wr => ∃ j : Nat, j ≤ aq ∧ vi = .int .i64 j ∧ Hid (Below W.heap.size W wr) ∧ Hid (∀ i, i < j → stepB enOk enAt xq i = true)) (fun i _ => aq - (intOf i).toNat)
              case atStart => exact ⟨0, by omega, rfl, HB, Lib.hid (fun i h => by omega)⟩
              case round =>
               clear HB
               obtain ⟨j, hj, rfl, HB, A⟩ := hrel
               have sa : wr.cell? ⟨w.heap.size, 6, none⟩ = _ := (HB.out.cell (cell_block qa6)).trans qa6
               by_cases hlt : j < aq
               ·obtain ⟨x, hx⟩ : ∃ x, xq[j]? = some x := ⟨_, List.getElem?_eq_getElem (by rw [HNq.out]; exact hlt)⟩
                obtain ⟨b1, o1, e1, g1⟩ := RAq.out j x hx
                have HX := Lib.hid hx
                have HG := Lib.hid (fun wx (h : Below W.heap.size W wx) i u (hu : (En.cells x)[i]? = some u) => show wx.cell? ⟨b1, o1 + j * 7 + i, none⟩ = some u by
                 have h3 := g1 i u hu
                 rw [(HWB.out.trans (h.mono HWB.out.size)).cell (cell_block h3)]; exact h3)
                have HS := Lib.hid (fun wx (h : Below W.heap.size W wx) => show wx.cell? ⟨w.heap.size, 6, none⟩ = some (.slice (some ⟨b1, o1, none⟩) aq k1) by
                 rw [h.cell (cell_block qa6), ← e1]; exact qa6)
                have hnb : (aq : Int) ≤ 40 := by have := HFq.out; omega
                have CXX := Lib.hid (fun w' => refEntry_any x (HPq.out x (List.mem_of_getElem? hx)).1 w')
                have OX := Lib.hid ((HPq.out x (List.mem_of_getElem? hx)).2)
                have hlt' : (j : Int) < aq := by omega
                rw [e1] at sa
                clear hx g1
                cases hb : enOk x with
                | false =>
                 have CX := Lib.hid (fun w' => by have q := CXX.out w'; rwa [hb] at q)
                 have HBX := Lib.hid hb
                 clear hb e1
                 go_wp2_with fail
                 refine wp_region_held_drew (S := fun wx => Below W.heap.size W wx) (by kernel_rfl) (HB.out.drew) (fun hS => ?_)
                 refine tg 0 (.pointer (some ⟨w.heap.size, 6, none⟩)) rfl hS ?_
                 refine tk 1 (.slice (some ⟨b1, o1, none⟩) aq k1) rfl (yi_load 30 (.tmp 127) (.pointer (some ⟨w.heap.size, 6, none⟩)) rfl rfl rfl (fun wq hw => by have q := HS.out wq hw; go_simp)) hS ?_
                 refine tm 2 (.int .i64 ↑j) rfl hS ?_
                 refine tg 3 (.pointer (some ⟨b1, o1 + j * 7, none⟩)) rfl hS ?_
                 refine tk 4 (.agg x.cells.toArray) rfl (yi_load 80 (.tmp 130) (.pointer (some ⟨b1, o1 + j * 7, none⟩)) rfl rfl rfl (fun wq hw => en_load (HG.out wq hw))) hS ?_
                 refine rdy1 5 rfl (fun K hK => ?_)
                 rw [if_pos (by rfl)]
                 go_simp
                 refine Calls.mono (CX.out _) ?_
                 rintro e w4 ⟨rfl, b4⟩
                 have h4 : Below W.heap.size W w4 := hS.trans (b4.mono hS.size)
                 refine hK.out _ _ (h4) (fun hS => ?_)
                 clear hK K
                 refine tm 6 (.bool true) rfl hS ?_
                 refine tm 7 (.bool true) rfl hS ?_
                 refine tn 8 rfl hS ?_
                 refine tn 9 rfl hS ?_
                 refine tn 10 rfl hS ?_
                 refine tn 11 rfl hS ?_
                 refine tn 12 rfl hS ?_
                 refine tn 13 rfl hS ?_
                 refine tn 14 rfl hS ?_
                 refine tn 15 rfl hS ?_
                 refine tn 16 rfl hS ?_
                 refine tn 17 rfl hS ?_
                 refine tn 18 rfl hS ?_
                 refine tn 19 rfl hS ?_
                 refine tn 20 rfl hS ?_
                 refine tn 21 rfl hS ?_
                 refine tn 22 rfl hS ?_
                 refine tn 23 rfl hS ?_
                 refine tn 24 rfl hS ?_
                 refine tm 25 (.bool true) rfl hS ?_
                 refine wpAnyH_done (by kernel_rfl) ?_ _
                 go_wp2_with fail
                 go_ret
                 refine ⟨?_, HWB.out.trans (hS.mono HWB.out.size)⟩
                 rw [HR.out, upB_false (ok := enOk) (ab := enAt) (l := xq) (by rw [HNq.out]; exact hlt) (stepB_not HX.out HBX.out)]; simp
                | true =>
                 have CX := Lib.hid (fun w' => by have q := CXX.out w'; rwa [hb] at q)
                 have HBX := Lib.hid hb
                 clear hb
                 by_cases hj0 : j = 0
                 ·have HJ0 := Lib.hid hj0
                  have hj0' : ¬ (0 : Int) < j := by omega
                  clear hj0 e1
                  go_wp2_with fail
                  refine wp_region_held_drew (S := fun wx => Below W.heap.size W wx) (by kernel_rfl) (HB.out.drew) (fun hS => ?_)
                  refine tg 0 (.pointer (some ⟨w.heap.size, 6, none⟩)) rfl hS ?_
                  refine tk 1 (.slice (some ⟨b1, o1, none⟩) aq k1) rfl (yi_load 30 (.tmp 127) (.pointer (some ⟨w.heap.size, 6, none⟩)) rfl rfl rfl (fun wq hw => by have q := HS.out wq hw; go_simp)) hS ?_
                  refine tm 2 (.int .i64 ↑j) rfl hS ?_
                  refine tg 3 (.pointer (some ⟨b1, o1 + j * 7, none⟩)) rfl hS ?_
                  refine tk 4 (.agg x.cells.toArray) rfl (yi_load 80 (.tmp 130) (.pointer (some ⟨b1, o1 + j * 7, none⟩)) rfl rfl rfl (fun wq hw => en_load (HG.out wq hw))) hS ?_
                  refine rdy1 5 rfl (fun K hK => ?_)
                  rw [if_pos (by rfl)]
                  go_simp
                  refine Calls.mono (CX.out _) ?_
                  rintro e w4 ⟨rfl, b4⟩
                  have h4 : Below W.heap.size W w4 := hS.trans (b4.mono hS.size)
                  refine hK.out _ _ (h4) (fun hS => ?_)
                  clear hK K
                  refine tm 6 (.bool false) rfl hS ?_
                  refine tm 7 (.bool false) rfl hS ?_
                  refine tm 8 (.int .i64 ↑j) rfl hS ?_
                  refine tk 9 (.bool false) rfl (.inl ⟨rfl, fun _ _ => by go_simp; exact HJ0.out⟩) hS ?_
                  refine tm 10 (.bool false) rfl hS ?_
                  refine tn 11 rfl hS ?_
                  refine tn 12 rfl hS ?_
                  refine tn 13 rfl hS ?_
                  refine tn 14 rfl hS ?_
                  refine tn 15 rfl hS ?_
                  refine tn 16 rfl hS ?_
                  refine tn 17 rfl hS ?_
                  refine tn 18 rfl hS ?_
                  refine tn 19 rfl hS ?_
                  refine tn 20 rfl hS ?_
                  refine tn 21 rfl hS ?_
                  refine tn 22 rfl hS ?_
                  refine tn 23 rfl hS ?_
                  refine tm 24 (.bool false) rfl hS ?_
                  refine tm 25 (.bool false) rfl hS ?_
                  refine wpAnyH_done (by kernel_rfl) ?_ _
                  go_wp2_with fail
                  go_round
                  case measure => simp [intOf]; omega
                  case rel =>
                   refine ⟨j + 1, by omega, by go_num, Lib.hid hS, Lib.hid (fun k hk => ?_)⟩
                   by_cases e : k = j
                   ·subst e
                    have e0 := HJ0.out
                    subst e0
                    rw [stepB_zero HX.out]; exact HBX.out
                   ·exact A.out k (by omega)
                 ·obtain ⟨i, hji⟩ : ∃ i, j = i + 1 := ⟨j - 1, by omega⟩
                  have hj0' : (0 : Int) < j := by omega
                  have hs1 : (j : Int) - 1 = i := by omega
                  have hin : (i : Int) < aq := by omega
                  have hib : (i : Int) ≤ 1000000 := by omega
                  have hi0 : (0 : Int) ≤ i := by omega
                  have hwi : IntKind.i64.wrap (i : Int) = i := by
                   rw [IntKind.wrap_i64]; omega
                  obtain ⟨y, hy⟩ : ∃ y, xq[i]? = some y := ⟨_, List.getElem?_eq_getElem (by rw [HNq.out]; omega)⟩
                  have HG2 := Lib.hid (fun wx (h : Below W.heap.size W wx) k u (hu : (En.cells y)[k]? = some u) => show wx.cell? ⟨b1, o1 + i * 7 + k, none⟩ = some u by
                   obtain ⟨b2, o2, e2, g2⟩ := RAq.out i y hy
                   rw [e1] at e2
                   injection e2 with e2
                   injection e2 with e3 e4
                   subst e3
                   subst e4
                   have h3 := g2 k u hu
                   rw [(HWB.out.trans (h.mono HWB.out.size)).cell (cell_block h3)]; exact h3)
                  have HY := Lib.hid hy
                  have hst : stepB enOk enAt xq j = enAt x y := by
                   rw [hji] at HX ⊢
                   rw [stepB_succ HX.out HY.out, HBX.out, Bool.true_and]
                  have HST := Lib.hid hst
                  have CLL := Lib.hid (fun w' => refLess_any y x (HPq.out y (List.mem_of_getElem? hy)).2 OX.out w')
                  rw [enLess_at] at CLL
                  clear hy hst hji e1 hj0
                  cases hc : enAt x y with
                  | true =>
                   have HC := Lib.hid hc
                   have CL := Lib.hid (fun w' => by have q := CLL.out w'; rwa [hc] at q)
                   clear hc
                   go_wp2_with fail
                   refine wp_region_held_drew (S := fun wx => Below W.heap.size W wx) (by kernel_rfl) (HB.out.drew) (fun hS => ?_)
                   refine tg 0 (.pointer (some ⟨w.heap.size, 6, none⟩)) rfl hS ?_
                   refine tk 1 (.slice (some ⟨b1, o1, none⟩) aq k1) rfl (yi_load 30 (.tmp 127) (.pointer (some ⟨w.heap.size, 6, none⟩)) rfl rfl rfl (fun wq hw => by have q := HS.out wq hw; go_simp)) hS ?_
                   refine tm 2 (.int .i64 ↑j) rfl hS ?_
                   refine tg 3 (.pointer (some ⟨b1, o1 + j * 7, none⟩)) rfl hS ?_
                   refine tk 4 (.agg x.cells.toArray) rfl (yi_load 80 (.tmp 130) (.pointer (some ⟨b1, o1 + j * 7, none⟩)) rfl rfl rfl (fun wq hw => en_load (HG.out wq hw))) hS ?_
                   refine rdy1 5 rfl (fun K hK => ?_)
                   rw [if_pos (by rfl)]
                   go_simp
                   refine Calls.mono (CX.out _) ?_
                   rintro e w4 ⟨rfl, b4⟩
                   have h4 : Below W.heap.size W w4 := hS.trans (b4.mono hS.size)
                   refine hK.out _ _ (h4) (fun hS => ?_)
                   clear hK K
                   refine tm 6 (.bool false) rfl hS ?_
                   refine tm 7 (.bool false) rfl hS ?_
                   refine tm 8 (.int .i64 ↑j) rfl hS ?_
                   refine tk 9 (.bool true) rfl (.inl ⟨rfl, fun _ _ => by go_simp; omega⟩) hS ?_
                   refine tm 10 (.bool true) rfl hS ?_
                   refine tg 11 (.pointer (some ⟨w.heap.size, 6, none⟩)) rfl hS ?_
                   refine tk 12 (.slice (some ⟨b1, o1, none⟩) aq k1) rfl (yi_load 30 (.tmp 138) (.pointer (some ⟨w.heap.size, 6, none⟩)) rfl rfl rfl (fun wq hw => by have q := HS.out wq hw; go_simp)) hS ?_
                   refine tm 13 (.int .i64 ↑j) rfl hS ?_
                   refine tg 14 (.int .i64 ↑i) rfl hS ?_
                   refine tg 15 (.pointer (some ⟨b1, o1 + i * 7, none⟩)) rfl hS ?_
                   refine tk 16 (.agg y.cells.toArray) rfl (yi_load 80 (.tmp 142) (.pointer (some ⟨b1, o1 + i * 7, none⟩)) rfl rfl rfl (fun wq hw => en_load (HG2.out wq hw))) hS ?_
                   refine tg 17 (.pointer (some ⟨w.heap.size, 6, none⟩)) rfl hS ?_
                   refine tk 18 (.slice (some ⟨b1, o1, none⟩) aq k1) rfl (yi_load 30 (.tmp 144) (.pointer (some ⟨w.heap.size, 6, none⟩)) rfl rfl rfl (fun wq hw => by have q := HS.out wq hw; go_simp)) hS ?_
                   refine tm 19 (.int .i64 ↑j) rfl hS ?_
                   refine tg 20 (.pointer (some ⟨b1, o1 + j * 7, none⟩)) rfl hS ?_
                   refine tk 21 (.agg x.cells.toArray) rfl (yi_load 80 (.tmp 147) (.pointer (some ⟨b1, o1 + j * 7, none⟩)) rfl rfl rfl (fun wq hw => en_load (HG.out wq hw))) hS ?_
                   refine rdy1 22 rfl (fun K hK => ?_)
                   rw [if_pos (by rfl)]
                   go_simp
                   refine Calls.mono (CL.out _) ?_
                   rintro e w5 ⟨rfl, b5⟩
                   have h5 : Below W.heap.size W w5 := hS.trans (b5.mono hS.size)
                   refine hK.out _ _ (h5) (fun hS => ?_)
                   clear hK K
                   refine tm 23 (.bool false) rfl hS ?_
                   refine tm 24 (.bool false) rfl hS ?_
                   refine tm 25 (.bool false) rfl hS ?_
                   refine wpAnyH_done (by kernel_rfl) ?_ _
                   go_wp2_with fail
                   go_round
                   case measure => simp [intOf]; omega
                   case rel =>
                    refine ⟨j + 1, by omega, by go_num, Lib.hid hS, Lib.hid (fun k hk => ?_)⟩
                    by_cases e : k = j
                    ·subst e
                     rw [HST.out]; exact HC.out
                    ·exact A.out k (by omega)
                  | false =>
                   have HC := Lib.hid hc
                   have CL := Lib.hid (fun w' => by have q := CLL.out w'; rwa [hc] at q)
                   clear hc
                   go_wp2_with fail
                   refine wp_region_held_drew (S := fun wx => Below W.heap.size W wx) (by kernel_rfl) (HB.out.drew) (fun hS => ?_)
                   refine tg 0 (.pointer (some ⟨w.heap.size, 6, none⟩)) rfl hS ?_
                   refine tk 1 (.slice (some ⟨b1, o1, none⟩) aq k1) rfl (yi_load 30 (.tmp 127) (.pointer (some ⟨w.heap.size, 6, none⟩)) rfl rfl rfl (fun wq hw => by have q := HS.out wq hw; go_simp)) hS ?_
                   refine tm 2 (.int .i64 ↑j) rfl hS ?_
                   refine tg 3 (.pointer (some ⟨b1, o1 + j * 7, none⟩)) rfl hS ?_
                   refine tk 4 (.agg x.cells.toArray) rfl (yi_load 80 (.tmp 130) (.pointer (some ⟨b1, o1 + j * 7, none⟩)) rfl rfl rfl (fun wq hw => en_load (HG.out wq hw))) hS ?_
                   refine rdy1 5 rfl (fun K hK => ?_)
                   rw [if_pos (by rfl)]
                   go_simp
                   refine Calls.mono (CX.out _) ?_
                   rintro e w4 ⟨rfl, b4⟩
                   have h4 : Below W.heap.size W w4 := hS.trans (b4.mono hS.size)
                   refine hK.out _ _ (h4) (fun hS => ?_)
                   clear hK K
                   refine tm 6 (.bool false) rfl hS ?_
                   refine tm 7 (.bool false) rfl hS ?_
                   refine tm 8 (.int .i64 ↑j) rfl hS ?_
                   refine tk 9 (.bool true) rfl (.inl ⟨rfl, fun _ _ => by go_simp; omega⟩) hS ?_
                   refine tm 10 (.bool true) rfl hS ?_
                   refine tg 11 (.pointer (some ⟨w.heap.size, 6, none⟩)) rfl hS ?_
                   refine tk 12 (.slice (some ⟨b1, o1, none⟩) aq k1) rfl (yi_load 30 (.tmp 138) (.pointer (some ⟨w.heap.size, 6, none⟩)) rfl rfl rfl (fun wq hw => by have q := HS.out wq hw; go_simp)) hS ?_
                   refine tm 13 (.int .i64 ↑j) rfl hS ?_
                   refine tg 14 (.int .i64 ↑i) rfl hS ?_
                   refine tg 15 (.pointer (some ⟨b1, o1 + i * 7, none⟩)) rfl hS ?_
                   refine tk 16 (.agg y.cells.toArray) rfl (yi_load 80 (.tmp 142) (.pointer (some ⟨b1, o1 + i * 7, none⟩)) rfl rfl rfl (fun wq hw => en_load (HG2.out wq hw))) hS ?_
                   refine tg 17 (.pointer (some ⟨w.heap.size, 6, none⟩)) rfl hS ?_
                   refine tk 18 (.slice (some ⟨b1, o1, none⟩) aq k1) rfl (yi_load 30 (.tmp 144) (.pointer (some ⟨w.heap.size, 6, none⟩)) rfl rfl rfl (fun wq hw => by have q := HS.out wq hw; go_simp)) hS ?_
                   refine tm 19 (.int .i64 ↑j) rfl hS ?_
                   refine tg 20 (.pointer (some ⟨b1, o1 + j * 7, none⟩)) rfl hS ?_
                   refine tk 21 (.agg x.cells.toArray) rfl (yi_load 80 (.tmp 147) (.pointer (some ⟨b1, o1 + j * 7, none⟩)) rfl rfl rfl (fun wq hw => en_load (HG.out wq hw))) hS ?_
                   refine rdy1 22 rfl (fun K hK => ?_)
                   rw [if_pos (by rfl)]
                   go_simp
                   refine Calls.mono (CL.out _) ?_
                   rintro e w5 ⟨rfl, b5⟩
                   have h5 : Below W.heap.size W w5 := hS.trans (b5.mono hS.size)
                   refine hK.out _ _ (h5) (fun hS => ?_)
                   clear hK K
                   refine tm 23 (.bool true) rfl hS ?_
                   refine tm 24 (.bool true) rfl hS ?_
                   refine tm 25 (.bool true) rfl hS ?_
                   refine wpAnyH_done (by kernel_rfl) ?_ _
                   go_wp2_with fail
                   go_ret
                   refine ⟨?_, HWB.out.trans (hS.mono HWB.out.size)⟩
                   rw [HR.out, upB_false (ok := enOk) (ab := enAt) (l := xq) (by rw [HNq.out]; exact hlt) (by rw [HST.out]; exact HC.out)]; simp
               ·obtain rfl : aq = j := by omega
                have EQq := Lib.hid (upB_true (ok := enOk) (ab := enAt) (by rw [HNq.out]; exact HFq.out) (by rw [HNq.out]; exact A.out))
                clear A hlt hj
                go_wp2_with fail
                go_ret
                refine ⟨?_, HWB.out.trans (HB.out.mono HWB.out.size)⟩
                rw [HR.out, EQm.out, EQp.out, EQq.out, HH.out]
                rfl
         ·skip
          have HC := Lib.hid hc8
          go_enter Tryz.func15, Tryz.ntmps15
          go_upto_region 1 with fail
          rw [← HW.out]
          clear HW
          go_wp2_with fail
          go_ret
          refine ⟨?_, HWB.out⟩
          rw [HR.out, upB_long (ok := enOk) (ab := enAt) (l := xq) (by rw [HNq.out]; have := HC.out; omega)]; simp
        ·skip
         have HC := Lib.hid hc7
         go_enter Tryz.func15, Tryz.ntmps15
         go_upto_region 1 with fail
         rw [← HW.out]
         clear HW
         go_wp2_with fail
         go_ret
         refine ⟨?_, HWB.out⟩
         rw [HR.out, upB_long (ok := enOk) (ab := enAb) (l := xp) (by rw [HNp.out]; have := HC.out; omega)]; simp
       ·skip
        have HC := Lib.hid hc6
        go_enter Tryz.func15, Tryz.ntmps15
        go_upto_region 1 with fail
        rw [← HW.out]
        clear HW
        go_wp2_with fail
        go_ret
        refine ⟨?_, HWB.out⟩
        rw [HR.out, upB_long (ok := mkOk) (ab := mkAb) (l := xm) (by rw [HNm.out]; have := HC.out; omega)]; simp
      ·skip
       have HC := Lib.hid hc5
       go_enter Tryz.func15, Tryz.ntmps15
       go_upto_region 1 with fail
       rw [← HW.out]
       clear HW
       go_wp2_with fail
       go_ret
       refine ⟨?_, HWB.out⟩
       rw [HR.out, decide_eq_false (show ¬ (l1 ≤ 1073741824) by have := HC.out; omega)]; simp
     ·skip
      have HC := Lib.hid hc4
      go_enter Tryz.func15, Tryz.ntmps15
      go_upto_region 1 with fail
      rw [← HW.out]
      clear HW
      go_wp2_with fail
      go_ret
      refine ⟨?_, HWB.out⟩
      rw [HR.out, decide_eq_false (show ¬ (v1 ≤ 1048576) by have := HC.out; omega)]; simp
    ·skip
     have HC := Lib.hid hc3
     go_enter Tryz.func15, Tryz.ntmps15
     go_upto_region 1 with fail
     rw [← HW.out]
     clear HW
     go_wp2_with fail
     go_ret
     refine ⟨?_, HWB.out⟩
     rw [HR.out, decide_eq_false (show ¬ (1 ≤ v1) by have := HC.out; omega)]; simp
   ·skip
    have HC := Lib.hid hc2
    go_enter Tryz.func15, Tryz.ntmps15
    go_upto_region 1 with fail
    rw [← HW.out]
    clear HW
    go_wp2_with fail
    go_ret
    refine ⟨?_, HWB.out⟩
    rw [HR.out, decide_eq_false (show ¬ (e1 ≤ 200) by have := HC.out; omega)]; simp
  ·skip
   have HC := Lib.hid hc1
   go_enter Tryz.func15, Tryz.ntmps15
   go_upto_region 1 with fail
   rw [← HW.out]
   clear HW
   go_wp2_with fail
   go_ret
   refine ⟨?_, HWB.out⟩
   rw [HR.out, decide_eq_false (show ¬ (1 ≤ e1) by have := HC.out; omega)]; simp
 ·skip
  have HC := Lib.hid hc0
  go_enter Tryz.func15, Tryz.ntmps15
  go_upto_region 1 with fail
  rw [← HW.out]
  clear HW
  go_wp2_with fail
  go_ret
  refine ⟨?_, HWB.out⟩
  rw [HR.out, decide_eq_false (show ¬ (f1 < 4) by have := HC.out; omega)]; simp
end Go.Proofs.YtbpfkeeikhhlnaaGreatDoor
