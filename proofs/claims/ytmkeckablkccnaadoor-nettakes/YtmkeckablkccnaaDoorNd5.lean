/- NetTakes: the walk. -/
import Derived.Test.YtmkeckablkccnaaDoorNd4
import Derived.BigQuiet
namespace Go.Proofs.YtmkeckablkccnaaDoor
open Go.RowKit
set_option maxRecDepth 100000

theorem erase_map {α β : Type} (f : α → β) : ∀ (l : List α) (p : Nat), (l.map f).eraseIdx p = (l.eraseIdx p).map f
  | [], _ => rfl
  | _ :: _, 0 => rfl
  | x :: r, p + 1 => by simp [erase_map f r p]
theorem cnt_le (un : Nat → Bool) : ∀ k, cnt un k ≤ k
  | 0 => Nat.le_refl _
  | k + 1 => by
    have := cnt_le un k
    unfold cnt
    split <;> omega
set_option maxHeartbeats 16000000 in
theorem takes_some (n : Int) (ad : Addr) (cap : Nat) (l : List Int) (w : World) (n0 : 0 ≤ n) (n1 : n ≤ 255) (hby : ∀ y ∈ l, isByte y) (hb : Bytes w (some ad) l) (ht : Tab w) :
    Calls Tryd.prog 6 #[.int .u8 n, .slice (some ad) l.length cap] w fun e w' => e = .returned (.bool true) ∧ Below w.heap.size w w' := by
  have HT := Lib.hid ht
  obtain ⟨k, hk⟩ : ∃ k : Nat, n % 60 = k := ⟨(n % 60).toNat, by omega⟩
  have hk60 : k < 60 := by omega
  have HYB := Lib.hid hb
  have HBY := Lib.hid hby
  clear ht hb hby
  generalize hm : l.length = m at *
  have HM := Lib.hid hm
  clear hm
  go_enter Tryd.func6, Tryd.ntmps6
  go_wp2_with fail
  refine Calls.mono (known14 w HT.out) ?_
  rintro e w1 ⟨rfl, hb1⟩
  have HB1 := Lib.hid hb1
  clear hb1
  by_cases hm100 : 100 < m
  · go_wp2_with fail
    go_ret
    exact ⟨rfl, HB1.out⟩
  go_wp2_with fail
  refine Calls.mono (new15 w1) ?_
  rintro e w2 ⟨rfl, hb, hbl⟩
  have BO := Lib.hid (show Bo w1 w2 w1.heap.size none ((List.range 0).map tkM) from ⟨hb, hbl, Nat.le_refl _, fun x e => by cases e⟩)
  clear hb hbl
  obtain ⟨B, hB⟩ : ∃ B, B = w1.heap.size := ⟨_, rfl⟩
  rw [← hB] at BO ⊢
  have HTA := Lib.hid (show Tab w1 from Tab.on HT.out HB1.out)
  clear hB
  go_wp2_with fail
  clear hk n0 n1
  go_loopw [7] (fun vi wr => ∃ j : Nat, j ≤ k ∧ vi = .int .i64 j ∧ ∃ g, Hid (Bo w1 wr B g ((List.range j).map tkM))) (fun i _ => k - (intOf i).toNat)
  case atStart => exact ⟨0, Nat.zero_le _, rfl, none, BO⟩
  case round =>
    obtain ⟨j, hj, rfl, g, HJ⟩ := hrel
    clear BO
    by_cases hlt : j < k
    · have hw32 : IntKind.u32.wrap (j : Int) = j := by rw [IntKind.wrap_u32]; omega
      have hw33 : IntKind.u32.wrap ((j : Int) + 1) = (j : Int) + 1 := by rw [IntKind.wrap_u32]; omega
      go_upto_region 10 with fail
      obtain ⟨m0, hm0⟩ : ∃ m0, m0 = tkM j := ⟨_, rfl⟩
      obtain ⟨V0, hV⟩ : ∃ V0, V0 = wr.alloc (.cells Vz.toArray 37) := ⟨_, rfl⟩
      obtain ⟨U0, hU⟩ : ∃ U0, U0 = V0.setCells wr.heap.size 0 m0.cells := ⟨_, rfl⟩
      obtain ⟨u1, u2, u3⟩ := msg_new wr m0 (show U0 = (wr.alloc (.cells Vz.toArray 37)).setCells wr.heap.size 0 m0.cells by rw [hU, hV])
      rw [← hV] at u3
      have HV := Lib.hid hV
      obtain ⟨g0, hgy⟩ : ∃ g0, g0 = wr.heap.size := ⟨_, rfl⟩
      have HGYE := Lib.hid hgy
      rw [← hgy] at hU u3 u1
      have HU := Lib.hid hU
      have HT1 := Lib.hid u3
      have HY := Lib.hid u1
      have HUB := Lib.hid u2
      have HM0 := Lib.hid hm0
      clear hU u1 u2 u3 hV hgy hm0
      refine wp_region_lit ?_
      refine wpl_val (v := .int .i64 j) (w1 := wr) rfl (by go_simp) ({ tmps := #[_, _, _, _, _, _, _, _, _, _, _, _, _, _, _, _, _, _, _, _, _, _, _, _, _, _, _, _, _, _, _, _, _, _, _, .int .i64 j, _, _, _, _, _, _, _, _, _, _, _, _, _, _, _, _, _, _, _, _, _, _, _, _, _, _, _, _, _, _, _, _, _, _, _, _, _, _, _, _, _, _, _, _, _, _, _, _, _, _, _, _, _, _, _, _, _, _, _, _, _, _, _, _, _, _, _, _, _, _, _, _, _, _, _, _, _, _, _, _, _, _, _, _, _, _, _, _, _, _, _, _, _, _, _, _, _, _, _, _, _], defers := [] }) rfl ?_
      refine wpl_val (v := .int .u32 j) (w1 := wr) rfl (by go_simp) ({ tmps := #[_, _, _, _, _, _, _, _, _, _, _, _, _, _, _, _, _, _, _, _, _, _, _, _, _, _, _, _, _, _, _, _, _, _, _, .int .i64 j, .int .u32 j, _, _, _, _, _, _, _, _, _, _, _, _, _, _, _, _, _, _, _, _, _, _, _, _, _, _, _, _, _, _, _, _, _, _, _, _, _, _, _, _, _, _, _, _, _, _, _, _, _, _, _, _, _, _, _, _, _, _, _, _, _, _, _, _, _, _, _, _, _, _, _, _, _, _, _, _, _, _, _, _, _, _, _, _, _, _, _, _, _, _, _, _, _, _, _, _, _, _, _, _], defers := [] }) rfl ?_
      refine wpl_val (v := .int .u32 ((j : Int) + 1)) (w1 := wr) rfl (by go_simp) ({ tmps := #[_, _, _, _, _, _, _, _, _, _, _, _, _, _, _, _, _, _, _, _, _, _, _, _, _, _, _, _, _, _, _, _, _, _, _, .int .i64 j, .int .u32 j, .int .u32 ((j : Int) + 1), _, _, _, _, _, _, _, _, _, _, _, _, _, _, _, _, _, _, _, _, _, _, _, _, _, _, _, _, _, _, _, _, _, _, _, _, _, _, _, _, _, _, _, _, _, _, _, _, _, _, _, _, _, _, _, _, _, _, _, _, _, _, _, _, _, _, _, _, _, _, _, _, _, _, _, _, _, _, _, _, _, _, _, _, _, _, _, _, _, _, _, _, _, _, _, _, _, _, _], defers := [] }) rfl ?_
      refine wpl_val (v := .agg m0.cells.toArray) (w1 := wr) rfl (by rw [HM0.out]; simp only [tkM, cmM, zeroM, Mg.cells, Rq.zero, Vt.zero]; go_simp) ({ tmps := #[_, _, _, _, _, _, _, _, _, _, _, _, _, _, _, _, _, _, _, _, _, _, _, _, _, _, _, _, _, _, _, _, _, _, _, .int .i64 j, .int .u32 j, .int .u32 ((j : Int) + 1), .agg m0.cells.toArray, _, _, _, _, _, _, _, _, _, _, _, _, _, _, _, _, _, _, _, _, _, _, _, _, _, _, _, _, _, _, _, _, _, _, _, _, _, _, _, _, _, _, _, _, _, _, _, _, _, _, _, _, _, _, _, _, _, _, _, _, _, _, _, _, _, _, _, _, _, _, _, _, _, _, _, _, _, _, _, _, _, _, _, _, _, _, _, _, _, _, _, _, _, _, _, _, _, _], defers := [] }) rfl ?_
      refine wpl_val (v := .pointer (some ⟨g0, 0, none⟩)) (w1 := V0) rfl (by have e1 := HV.out; simp only [Vz] at e1; rw [e1, HGYE.out]; go_simp) ({ tmps := #[_, _, _, _, _, _, _, _, .pointer (some ⟨g0, 0, none⟩), _, _, _, _, _, _, _, _, _, _, _, _, _, _, _, _, _, _, _, _, _, _, _, _, _, _, .int .i64 j, .int .u32 j, .int .u32 ((j : Int) + 1), .agg m0.cells.toArray, _, _, _, _, _, _, _, _, _, _, _, _, _, _, _, _, _, _, _, _, _, _, _, _, _, _, _, _, _, _, _, _, _, _, _, _, _, _, _, _, _, _, _, _, _, _, _, _, _, _, _, _, _, _, _, _, _, _, _, _, _, _, _, _, _, _, _, _, _, _, _, _, _, _, _, _, _, _, _, _, _, _, _, _, _, _, _, _, _, _, _, _, _, _, _, _, _, _], defers := [] }) rfl ?_
      refine wpList_store_mid rfl 37 (.tmp 8) (.tmp 38) rfl g0 0 m0.cells.toArray rfl rfl HT1.out size37 (all_oneCell_toArray (Mg.one _)) ?_
      dsimp only
      rw [← HU.out]
      clear HU HT1 HV HGYE
      have B3 := Lib.hid (HJ.out.below HUB.out)
      clear HUB HJ hw32 hw33
      go_wp2_with (first | (refine wpList_load_row rfl 37 (.tmp 8) rfl g0 rfl 37 _ (0, 0) _ HY.out Tryd.underlying37 rfl size37 ?_; refine Hid.out ?_) | go_in)
      refine Lib.hid ?_
      clear HY
      go_wp2_with fail
      refine Calls.mono (send16 U0 B g ((List.range j).map tkM) m0 B3.out.bag (by rw [HM0.out]; exact cmM_nil _) (B3.out.tab HTA.out)) ?_
      rintro e w4 ⟨r, g4, l', rfl, h1, h2, h3⟩
      obtain ⟨rfl, rfl⟩ : r = 0 ∧ l' = (List.range (j + 1)).map tkM := by
        rcases h3 with ⟨e, _⟩ | ⟨_, ⟨e, _⟩ | ⟨_, e1, e2⟩⟩
        · rw [HM0.out, tkM_is (by omega)] at e; cases e
        · simp at e; omega
        · exact ⟨e1, by rw [e2, HM0.out, List.range_succ]; simp⟩
      have B4 := Lib.hid (B3.out.step h1 h2)
      clear h1 h2 h3 B3 HM0
      go_wp2_with fail
      go_round
      case rel => exact ⟨j + 1, by omega, by go_num, g4, B4⟩
      case measure => simp [intOf]; omega
    · obtain rfl : j = k := by omega
      go_wp2_with fail
      have hTS : Ts w1 (wr.alloc (.cells #[.bool false, .bool false, .bool false, .bool false, .bool false, .bool false, .bool false, .bool false, .bool false, .bool false, .bool false, .bool false, .bool false, .bool false, .bool false, .bool false, .bool false, .bool false, .bool false, .bool false, .bool false, .bool false, .bool false, .bool false, .bool false, .bool false, .bool false, .bool false, .bool false, .bool false, .bool false, .bool false, .bool false, .bool false, .bool false, .bool false, .bool false, .bool false, .bool false, .bool false, .bool false, .bool false, .bool false, .bool false, .bool false, .bool false, .bool false, .bool false, .bool false, .bool false, .bool false, .bool false, .bool false, .bool false, .bool false, .bool false, .bool false, .bool false, .bool false, .bool false] 64)) B g wr.heap.size 64 ((List.range j).map tkM) (fun _ => true) := by
        refine ⟨HJ.out.below ((Below.refl _ _).alloc (Nat.le_refl _) _), ⟨Array.replicate 60 (.bool false), heap_alloc_new _ _, fun i hi => by rw [Array.getElem?_replicate, if_pos hi]; rfl⟩, HJ.out.bel.size, ?_, fun e => ?_⟩
        · have := HJ.out.bag.lt.1; omega
        · have := HJ.out.bag.lt.2 _ e; omega
      obtain ⟨W0, hW0⟩ : ∃ W0, W0 = wr.alloc (.cells #[.bool false, .bool false, .bool false, .bool false, .bool false, .bool false, .bool false, .bool false, .bool false, .bool false, .bool false, .bool false, .bool false, .bool false, .bool false, .bool false, .bool false, .bool false, .bool false, .bool false, .bool false, .bool false, .bool false, .bool false, .bool false, .bool false, .bool false, .bool false, .bool false, .bool false, .bool false, .bool false, .bool false, .bool false, .bool false, .bool false, .bool false, .bool false, .bool false, .bool false, .bool false, .bool false, .bool false, .bool false, .bool false, .bool false, .bool false, .bool false, .bool false, .bool false, .bool false, .bool false, .bool false, .bool false, .bool false, .bool false, .bool false, .bool false, .bool false, .bool false] 64) := ⟨_, rfl⟩
      obtain ⟨S, hS⟩ : ∃ S, S = wr.heap.size := ⟨_, rfl⟩
      rw [← hW0, ← hS] at hTS ⊢
      have HJ0 := Lib.hid (show Ts w1 W0 B g S 64 ((List.range j).map tkM) (fun _ => true) ∧ Pk j (List.range j) (fun _ => true) ∧ (List.range j).length = j from ⟨hTS, Pk.first j, List.length_range⟩)
      clear hTS hW0 hS HJ hlt hj
      generalize j = k at *
      go_loopw [10] (fun vi wr => ∃ (i q : Nat) (ss : List Nat) (g : Option Nat) (un : Nat → Bool), vi = .int .i64 i ∧ i + q = k ∧ Hid (Ts w1 wr B g S 64 (ss.map tkM) un ∧ Pk k ss un ∧ ss.length = q)) (fun i _ => k - (intOf i).toNat)
      case atStart => exact ⟨0, k, List.range k, g, fun _ => true, rfl, by omega, HJ0⟩
      case round =>
        clear HJ0
        obtain ⟨i, q, ss, g, un, rfl, hiq, HJ⟩ := hrel
        have HTS := Lib.hid HJ.out.1
        have HPK := Lib.hid HJ.out.2.1
        have HL := Lib.hid HJ.out.2.2
        have HIQ := Lib.hid hiq
        have hi60 : i ≤ 60 := by omega
        have hq60 : q ≤ 60 := by omega
        clear HJ hiq
        go_wp2_with fail
        refine Calls.mono (len25 wr B g (ss.map tkM) HTS.out.bo.bag) ?_
        rintro e w3 ⟨rfl, rfl⟩
        rw [List.length_map, HL.out]
        by_cases hq0 : 0 < q
        · by_cases him : i < m
          · obtain ⟨ad', had, hcell⟩ := HYB.out i (by rw [HM.out]; exact him)
            obtain rfl : ad = ad' := Option.some.inj had
            clear had
            have hcell1 : w3.cell? (ad.add i) = some (.int .u8 (l.getD i 0)) := by
              have h1 := HB1.out.trans (HTS.out.bo.bel.mono HB1.out.size)
              rw [h1.cell (cell_block hcell)]; exact hcell
            have hyb : isByte (l.getD i 0) := HBY.out _ (by
              rw [List.getD_eq_getElem?_getD, List.getElem?_eq_getElem (by rw [HM.out]; exact him)]
              exact List.getElem_mem _)
            obtain ⟨y, hy⟩ : ∃ y, y = l.getD i 0 := ⟨_, rfl⟩
            rw [← hy] at hyb hcell1
            have y0 : 0 ≤ y := hyb.1
            have y1 : y ≤ 255 := hyb.2
            clear hcell hyb hy
            have hqi : (q : Int) ≠ 0 := by omega
            obtain ⟨p, hp, hpq⟩ : ∃ p : Nat, y % (q : Int) = p ∧ p < q := ⟨(y % (q : Int)).toNat, by have := Int.emod_nonneg y hqi; omega, by have := Int.emod_lt_of_pos y (show (0 : Int) < q by omega); have := Int.emod_nonneg y hqi; omega⟩
            have hlen := fun n => len25 (w3.drewN n) B g (ss.map tkM) (HTS.out.bo.bag.below (belN _ n))
            rw [List.length_map, HL.out] at hlen
            have CL := Lib.hid hlen
            clear hlen
            go_upto_region 19 with fail
            go_quiet ((go_at_call 25; exact Calls.quiet_of_same (CL.out _)))
            rw [hp]
            have HTS2 := Lib.hid (HTS.out.below (belN _ nq))
            clear HTS CL hcell1 hp y0 y1 hqi
            have HTS := HTS2
            clear HTS2
            generalize w3.drewN nq = w9 at *
            obtain ⟨s, hs⟩ : ∃ s, ss[p]? = some s := ⟨_, List.getElem?_eq_getElem (by rw [HL.out]; exact hpq)⟩
            have hmm : (ss.map tkM)[p]? = some (tkM s) := by rw [List.getElem?_map, hs]; rfl
            obtain ⟨hsk, hun⟩ := HPK.out.inn s (List.mem_of_getElem? hs)
            have HPN := Lib.hid (HPK.out.next hs)
            have HMM := Lib.hid hmm
            have HUN := Lib.hid hun
            have hs60 : s < 60 := by omega
            clear hs hmm hun HPK
            go_wp2_with fail
            refine Calls.mono (at_yes _ B g (ss.map tkM) p (tkM s) HTS.out.bo.bag HMM.out) ?_
            rintro e w4 ⟨rfl, hb4⟩
            have T4 := Lib.hid (HTS.out.below hb4)
            clear hb4 HTS
            obtain ⟨m1, hm1⟩ : ∃ m1, m1 = tkM s := ⟨_, rfl⟩
            rw [← hm1]
            have HM1 := Lib.hid hm1
            clear hm1
            obtain ⟨V, hV⟩ : ∃ V, V = w4.alloc (.cells Vz.toArray 37) := ⟨_, rfl⟩
            obtain ⟨U, hU⟩ : ∃ U, U = V.setCells w4.heap.size 0 m1.cells := ⟨_, rfl⟩
            obtain ⟨u1, u2, u3⟩ := msg_new w4 m1 (show U = (w4.alloc (.cells Vz.toArray 37)).setCells w4.heap.size 0 m1.cells by rw [hU, hV])
            rw [← hV] at u3
            have HV := Lib.hid hV
            obtain ⟨gy, hgy⟩ : ∃ gy, gy = w4.heap.size := ⟨_, rfl⟩
            have HGYE := Lib.hid hgy
            rw [← hgy] at hU u3 u1
            have HU := Lib.hid hU
            have HT1 := Lib.hid u3
            have HY := Lib.hid u1
            have HUB := Lib.hid u2
            have HNG := Lib.hid (show gy ≠ B ∧ g ≠ some gy from ⟨by have := T4.out.bo.bag.lt.1; omega, fun e => by have := T4.out.bo.bag.lt.2 _ e; omega⟩)
            clear hU u1 u2 u3 hV hgy
            rename_i K1 hK1 K2 hK2
            refine hK2 _ _ ?_
            clear hK2 K2
            refine wpl_val (v := .tuple #[.agg m1.cells.toArray, .bool true]) (w1 := w4) rfl (by go_simp) ({ tmps := #[_, _, _, _, _, _, _, _, _, _, _, _, _, _, _, _, _, _, _, _, _, _, _, _, _, _, _, _, _, _, _, _, _, _, _, _, _, _, _, _, _, _, _, _, _, _, _, _, _, _, _, _, _, _, _, _, _, _, _, _, .tuple #[.agg m1.cells.toArray, .bool true], _, _, .tuple #[.agg m1.cells.toArray, .bool true], _, _, _, _, _, _, _, _, _, _, _, _, _, _, _, _, _, _, _, _, _, _, _, _, _, _, _, _, _, _, _, _, _, _, _, _, _, _, _, _, _, _, _, _, _, _, _, _, _, _, _, _, _, _, _, _, _, _, _, _, _, _, _, _, _, _, _, _, _, _, _, _, _], defers := [] }) rfl ?_
            refine wpl_val (v := .agg m1.cells.toArray) (w1 := w4) rfl (by go_simp) ({ tmps := #[_, _, _, _, _, _, _, _, _, _, _, _, _, _, _, _, _, _, _, _, _, _, _, _, _, _, _, _, _, _, _, _, _, _, _, _, _, _, _, _, _, _, _, _, _, _, _, _, _, _, _, _, _, _, _, _, _, _, _, _, .tuple #[.agg m1.cells.toArray, .bool true], _, _, .tuple #[.agg m1.cells.toArray, .bool true], .agg m1.cells.toArray, _, _, _, _, _, _, _, _, _, _, _, _, _, _, _, _, _, _, _, _, _, _, _, _, _, _, _, _, _, _, _, _, _, _, _, _, _, _, _, _, _, _, _, _, _, _, _, _, _, _, _, _, _, _, _, _, _, _, _, _, _, _, _, _, _, _, _, _, _, _, _, _], defers := [] }) rfl ?_
            refine wpl_val (v := .bool true) (w1 := w4) rfl (by go_simp) ({ tmps := #[_, _, _, _, _, _, _, _, _, _, _, _, _, _, _, _, _, _, _, _, _, _, _, _, _, _, _, _, _, _, _, _, _, _, _, _, _, _, _, _, _, _, _, _, _, _, _, _, _, _, _, _, _, _, _, _, _, _, _, _, .tuple #[.agg m1.cells.toArray, .bool true], _, _, .tuple #[.agg m1.cells.toArray, .bool true], .agg m1.cells.toArray, .bool true, _, _, _, _, _, _, _, _, _, _, _, _, _, _, _, _, _, _, _, _, _, _, _, _, _, _, _, _, _, _, _, _, _, _, _, _, _, _, _, _, _, _, _, _, _, _, _, _, _, _, _, _, _, _, _, _, _, _, _, _, _, _, _, _, _, _, _, _, _, _, _], defers := [] }) rfl ?_
            refine wpl_val (v := .pointer (some ⟨gy, 0, none⟩)) (w1 := V) rfl (by have e1 := HV.out; simp only [Vz] at e1; rw [e1, HGYE.out]; go_simp) ({ tmps := #[_, _, _, _, _, _, _, _, _, _, _, _, .pointer (some ⟨gy, 0, none⟩), _, _, _, _, _, _, _, _, _, _, _, _, _, _, _, _, _, _, _, _, _, _, _, _, _, _, _, _, _, _, _, _, _, _, _, _, _, _, _, _, _, _, _, _, _, _, _, .tuple #[.agg m1.cells.toArray, .bool true], _, _, .tuple #[.agg m1.cells.toArray, .bool true], .agg m1.cells.toArray, .bool true, _, _, _, _, _, _, _, _, _, _, _, _, _, _, _, _, _, _, _, _, _, _, _, _, _, _, _, _, _, _, _, _, _, _, _, _, _, _, _, _, _, _, _, _, _, _, _, _, _, _, _, _, _, _, _, _, _, _, _, _, _, _, _, _, _, _, _, _, _, _, _], defers := [] }) rfl ?_
            refine wpList_store_mid rfl 37 (.tmp 12) (.tmp 64) rfl gy 0 m1.cells.toArray rfl rfl HT1.out size37 (all_oneCell_toArray (Mg.one _)) ?_
            dsimp only
            rw [← HU.out]
            clear HU HT1 HV HGYE
            have HQ := Lib.hid (tk_seq HY.out HM1.out)
            have T5 := Lib.hid (T4.out.below HUB.out)
            clear HY HUB T4
            go_wp2_with fail
            refine Calls.mono (take_yes U B g (ss.map tkM) p (tkM s) T5.out.bo.bag HMM.out) ?_
            rintro e w6 ⟨rfl, h1, h2⟩
            have HQ6 := Lib.hid (show w6.cell? ⟨gy, 5, none⟩ = some (.int .u32 ((s : Int) + 1)) by
              rw [World.cell?_of_block (h2.far (k := gy) (cell_block HQ.out) HNG.out.1 HNG.out.2).1]; exact HQ.out)
            rw [← HM1.out]
            have T6 := Lib.hid (show Ts w1 w6 B g S 64 ((ss.eraseIdx p).map tkM) un by rw [← erase_map]; exact T5.out.step h1 h2)
            clear h1 h2 T5 HQ HNG
            obtain ⟨Y, hV⟩ : ∃ Y, Y = w6.alloc (.cells Vz.toArray 37) := ⟨_, rfl⟩
            obtain ⟨X, hU⟩ : ∃ X, X = Y.setCells w6.heap.size 0 m1.cells := ⟨_, rfl⟩
            obtain ⟨u1, u2, u3⟩ := msg_new w6 m1 (show X = (w6.alloc (.cells Vz.toArray 37)).setCells w6.heap.size 0 m1.cells by rw [hU, hV])
            rw [← hV] at u3
            have HV := Lib.hid hV
            obtain ⟨gz, hgy⟩ : ∃ gz, gz = w6.heap.size := ⟨_, rfl⟩
            have HGYE := Lib.hid hgy
            rw [← hgy] at hU u3 u1
            have HU := Lib.hid hU
            have HT1 := Lib.hid u3
            have HY := Lib.hid u1
            have HUB := Lib.hid u2
            clear hU u1 u2 u3 hV hgy
            rename_i K1 hK1 K2 hK2
            refine hK2 _ _ ?_
            clear hK2 K2
            refine wpl_val (v := .tuple #[.agg m1.cells.toArray, .int .i64 0]) (w1 := w6) rfl (by go_simp) ({ tmps := #[_, _, _, _, _, _, _, _, _, _, _, _, _, _, _, _, _, _, _, _, _, _, _, _, _, _, _, _, _, _, _, _, _, _, _, _, _, _, _, _, _, _, _, _, _, _, _, _, _, _, _, _, _, _, _, _, _, _, _, _, _, _, _, _, _, _, .tuple #[.agg m1.cells.toArray, .int .i64 0], _, _, .tuple #[.agg m1.cells.toArray, .int .i64 0], _, _, _, _, _, _, _, _, _, _, _, _, _, _, _, _, _, _, _, _, _, _, _, _, _, _, _, _, _, _, _, _, _, _, _, _, _, _, _, _, _, _, _, _, _, _, _, _, _, _, _, _, _, _, _, _, _, _, _, _, _, _, _, _, _, _, _], defers := [] }) rfl ?_
            refine wpl_val (v := .agg m1.cells.toArray) (w1 := w6) rfl (by go_simp) ({ tmps := #[_, _, _, _, _, _, _, _, _, _, _, _, _, _, _, _, _, _, _, _, _, _, _, _, _, _, _, _, _, _, _, _, _, _, _, _, _, _, _, _, _, _, _, _, _, _, _, _, _, _, _, _, _, _, _, _, _, _, _, _, _, _, _, _, _, _, .tuple #[.agg m1.cells.toArray, .int .i64 0], _, _, .tuple #[.agg m1.cells.toArray, .int .i64 0], .agg m1.cells.toArray, _, _, _, _, _, _, _, _, _, _, _, _, _, _, _, _, _, _, _, _, _, _, _, _, _, _, _, _, _, _, _, _, _, _, _, _, _, _, _, _, _, _, _, _, _, _, _, _, _, _, _, _, _, _, _, _, _, _, _, _, _, _, _, _, _, _], defers := [] }) rfl ?_
            refine wpl_val (v := .int .i64 0) (w1 := w6) rfl (by go_simp) ({ tmps := #[_, _, _, _, _, _, _, _, _, _, _, _, _, _, _, _, _, _, _, _, _, _, _, _, _, _, _, _, _, _, _, _, _, _, _, _, _, _, _, _, _, _, _, _, _, _, _, _, _, _, _, _, _, _, _, _, _, _, _, _, _, _, _, _, _, _, .tuple #[.agg m1.cells.toArray, .int .i64 0], _, _, .tuple #[.agg m1.cells.toArray, .int .i64 0], .agg m1.cells.toArray, .int .i64 0, _, _, _, _, _, _, _, _, _, _, _, _, _, _, _, _, _, _, _, _, _, _, _, _, _, _, _, _, _, _, _, _, _, _, _, _, _, _, _, _, _, _, _, _, _, _, _, _, _, _, _, _, _, _, _, _, _, _, _, _, _, _, _, _, _], defers := [] }) rfl ?_
            refine wpl_val (v := .pointer (some ⟨gz, 0, none⟩)) (w1 := Y) rfl (by have e1 := HV.out; simp only [Vz] at e1; rw [e1, HGYE.out]; go_simp) ({ tmps := #[_, _, _, _, _, _, _, _, _, _, _, _, _, _, .pointer (some ⟨gz, 0, none⟩), _, _, _, _, _, _, _, _, _, _, _, _, _, _, _, _, _, _, _, _, _, _, _, _, _, _, _, _, _, _, _, _, _, _, _, _, _, _, _, _, _, _, _, _, _, _, _, _, _, _, _, .tuple #[.agg m1.cells.toArray, .int .i64 0], _, _, .tuple #[.agg m1.cells.toArray, .int .i64 0], .agg m1.cells.toArray, .int .i64 0, _, _, _, _, _, _, _, _, _, _, _, _, _, _, _, _, _, _, _, _, _, _, _, _, _, _, _, _, _, _, _, _, _, _, _, _, _, _, _, _, _, _, _, _, _, _, _, _, _, _, _, _, _, _, _, _, _, _, _, _, _, _, _, _, _], defers := [] }) rfl ?_
            refine wpList_store_mid rfl 37 (.tmp 14) (.tmp 70) rfl gz 0 m1.cells.toArray rfl rfl HT1.out size37 (all_oneCell_toArray (Mg.one _)) ?_
            dsimp only
            rw [← HU.out]
            clear HU HT1 HV HGYE
            have q5 := (HUB.out.cell (cell_block HQ6.out)).trans HQ6.out
            have r5 := tk_seq HY.out HM1.out
            have T7 := Lib.hid (T6.out.below HUB.out)
            have s5 : X.cell? ⟨S, s, none⟩ = some (.bool false) := by rw [T7.out.cell hs60, HUN.out]; rfl
            have z5 := T7.out.free s
            clear HY HUB T6 HQ6
            have hs0 : ¬ (s : Int) < 0 := by omega
            have hsk0 : ¬ (k : Int) ≤ s := by omega
            go_wp2_with fail
            have T9 := Lib.hid (T7.out.set hs60)
            generalize X.setCell ⟨S, s, none⟩ (.bool true) = X9 at *
            clear T7 q5 r5 s5 z5
            go_loopw [17, 18] (fun vc vj wr => ∃ j : Nat, j ≤ k ∧ vj = .int .i64 j ∧ vc = .int .i64 (cnt (less un s) j) ∧ wr = X9) (fun _ j _ => k - (intOf j).toNat)
            case atStart => exact ⟨0, Nat.zero_le _, rfl, rfl, rfl⟩
            case round =>
              obtain ⟨j, hj, rfl, rfl, rfl⟩ := hrel
              by_cases hjk : j < k
              · have hcj := T9.out.cell (j := j) (by omega)
                have hcn : cnt (less un s) (j + 1) = cnt (less un s) j + (if less un s j then 1 else 0) := rfl
                have HCN := Lib.hid hcn
                clear hcn
                have hcb : cnt (less un s) j ≤ 60 := Nat.le_trans (cnt_le _ _) (by omega)
                generalize cnt (less un s) j = c at *
                cases hb : less un s j with
                | true =>
                  rw [hb] at hcj
                  have HHB := Lib.hid hb
                  clear hb
                  go_wp2_with fail
                  go_round
                  case rel => exact ⟨j + 1, by omega, by go_num, by rw [HCN.out, HHB.out]; go_num, by first | rfl | trivial⟩
                  case measure => simp [intOf]; omega
                | false =>
                  rw [hb] at hcj
                  have HHB := Lib.hid hb
                  clear hb
                  go_wp2_with fail
                  go_round
                  case rel => exact ⟨j + 1, by omega, by go_num, by rw [HCN.out, HHB.out]; go_num, by first | rfl | trivial⟩
                  case measure => simp [intOf]; omega
              · obtain rfl : j = k := by omega
                have hcn : cnt (less un s) j = q - 1 := by rw [HPN.out.cn, List.length_eraseIdx_of_lt (by rw [HL.out]; exact hpq), HL.out]
                rw [hcn]
                have HLE := Lib.hid (show ((ss.eraseIdx p).map tkM).length = q - 1 by rw [List.length_map, List.length_eraseIdx_of_lt (by rw [HL.out]; exact hpq), HL.out])
                clear hcn
                obtain ⟨q1, hq1⟩ : ∃ q1, q1 = q - 1 := ⟨_, rfl⟩
                rw [← hq1] at HLE ⊢
                have HQ1 := Lib.hid hq1
                clear hq1
                go_wp2_with fail
                refine Calls.mono (len25 wr B g _ T9.out.bo.bag) ?_
                rintro e w8 ⟨rfl, rfl⟩
                rw [HLE.out]
                go_wp2_with fail
                go_round
                case rel => exact ⟨i + 1, q1, ss.eraseIdx p, g, _, by go_num, by have := HQ1.out; have := HIQ.out; omega, Lib.hid ⟨T9.out, HPN.out, by have := HLE.out; rw [List.length_map] at this; exact this⟩⟩
                case measure => have := HIQ.out; simp [intOf]; omega
          · have hpq : 0 < q := hq0
            obtain ⟨s, hs⟩ : ∃ s, ss[0]? = some s := ⟨_, List.getElem?_eq_getElem (by rw [HL.out]; exact hpq)⟩
            have hmm : (ss.map tkM)[0]? = some (tkM s) := by rw [List.getElem?_map, hs]; rfl
            obtain ⟨hsk, hun⟩ := HPK.out.inn s (List.mem_of_getElem? hs)
            have HPN := Lib.hid (HPK.out.next hs)
            have HMM := Lib.hid hmm
            have HUN := Lib.hid hun
            have hs60 : s < 60 := by omega
            clear hs hmm hun HPK
            go_wp2_with fail
            refine Calls.mono (at_yes _ B g (ss.map tkM) 0 (tkM s) HTS.out.bo.bag HMM.out) ?_
            rintro e w4 ⟨rfl, hb4⟩
            have T4 := Lib.hid (HTS.out.below hb4)
            clear hb4 HTS
            obtain ⟨m1, hm1⟩ : ∃ m1, m1 = tkM s := ⟨_, rfl⟩
            rw [← hm1]
            have HM1 := Lib.hid hm1
            clear hm1
            obtain ⟨V, hV⟩ : ∃ V, V = w4.alloc (.cells Vz.toArray 37) := ⟨_, rfl⟩
            obtain ⟨U, hU⟩ : ∃ U, U = V.setCells w4.heap.size 0 m1.cells := ⟨_, rfl⟩
            obtain ⟨u1, u2, u3⟩ := msg_new w4 m1 (show U = (w4.alloc (.cells Vz.toArray 37)).setCells w4.heap.size 0 m1.cells by rw [hU, hV])
            rw [← hV] at u3
            have HV := Lib.hid hV
            obtain ⟨gy, hgy⟩ : ∃ gy, gy = w4.heap.size := ⟨_, rfl⟩
            have HGYE := Lib.hid hgy
            rw [← hgy] at hU u3 u1
            have HU := Lib.hid hU
            have HT1 := Lib.hid u3
            have HY := Lib.hid u1
            have HUB := Lib.hid u2
            have HNG := Lib.hid (show gy ≠ B ∧ g ≠ some gy from ⟨by have := T4.out.bo.bag.lt.1; omega, fun e => by have := T4.out.bo.bag.lt.2 _ e; omega⟩)
            clear hU u1 u2 u3 hV hgy
            rename_i K1 hK1 K2 hK2
            refine hK2 _ _ ?_
            clear hK2 K2
            refine wpl_val (v := .tuple #[.agg m1.cells.toArray, .bool true]) (w1 := w4) rfl (by go_simp) ({ tmps := #[_, _, _, _, _, _, _, _, _, _, _, _, _, _, _, _, _, _, _, _, _, _, _, _, _, _, _, _, _, _, _, _, _, _, _, _, _, _, _, _, _, _, _, _, _, _, _, _, _, _, _, _, _, _, _, _, _, _, _, _, .tuple #[.agg m1.cells.toArray, .bool true], _, _, .tuple #[.agg m1.cells.toArray, .bool true], _, _, _, _, _, _, _, _, _, _, _, _, _, _, _, _, _, _, _, _, _, _, _, _, _, _, _, _, _, _, _, _, _, _, _, _, _, _, _, _, _, _, _, _, _, _, _, _, _, _, _, _, _, _, _, _, _, _, _, _, _, _, _, _, _, _, _, _, _, _, _, _, _], defers := [] }) rfl ?_
            refine wpl_val (v := .agg m1.cells.toArray) (w1 := w4) rfl (by go_simp) ({ tmps := #[_, _, _, _, _, _, _, _, _, _, _, _, _, _, _, _, _, _, _, _, _, _, _, _, _, _, _, _, _, _, _, _, _, _, _, _, _, _, _, _, _, _, _, _, _, _, _, _, _, _, _, _, _, _, _, _, _, _, _, _, .tuple #[.agg m1.cells.toArray, .bool true], _, _, .tuple #[.agg m1.cells.toArray, .bool true], .agg m1.cells.toArray, _, _, _, _, _, _, _, _, _, _, _, _, _, _, _, _, _, _, _, _, _, _, _, _, _, _, _, _, _, _, _, _, _, _, _, _, _, _, _, _, _, _, _, _, _, _, _, _, _, _, _, _, _, _, _, _, _, _, _, _, _, _, _, _, _, _, _, _, _, _, _, _], defers := [] }) rfl ?_
            refine wpl_val (v := .bool true) (w1 := w4) rfl (by go_simp) ({ tmps := #[_, _, _, _, _, _, _, _, _, _, _, _, _, _, _, _, _, _, _, _, _, _, _, _, _, _, _, _, _, _, _, _, _, _, _, _, _, _, _, _, _, _, _, _, _, _, _, _, _, _, _, _, _, _, _, _, _, _, _, _, .tuple #[.agg m1.cells.toArray, .bool true], _, _, .tuple #[.agg m1.cells.toArray, .bool true], .agg m1.cells.toArray, .bool true, _, _, _, _, _, _, _, _, _, _, _, _, _, _, _, _, _, _, _, _, _, _, _, _, _, _, _, _, _, _, _, _, _, _, _, _, _, _, _, _, _, _, _, _, _, _, _, _, _, _, _, _, _, _, _, _, _, _, _, _, _, _, _, _, _, _, _, _, _, _, _], defers := [] }) rfl ?_
            refine wpl_val (v := .pointer (some ⟨gy, 0, none⟩)) (w1 := V) rfl (by have e1 := HV.out; simp only [Vz] at e1; rw [e1, HGYE.out]; go_simp) ({ tmps := #[_, _, _, _, _, _, _, _, _, _, _, _, .pointer (some ⟨gy, 0, none⟩), _, _, _, _, _, _, _, _, _, _, _, _, _, _, _, _, _, _, _, _, _, _, _, _, _, _, _, _, _, _, _, _, _, _, _, _, _, _, _, _, _, _, _, _, _, _, _, .tuple #[.agg m1.cells.toArray, .bool true], _, _, .tuple #[.agg m1.cells.toArray, .bool true], .agg m1.cells.toArray, .bool true, _, _, _, _, _, _, _, _, _, _, _, _, _, _, _, _, _, _, _, _, _, _, _, _, _, _, _, _, _, _, _, _, _, _, _, _, _, _, _, _, _, _, _, _, _, _, _, _, _, _, _, _, _, _, _, _, _, _, _, _, _, _, _, _, _, _, _, _, _, _, _], defers := [] }) rfl ?_
            refine wpList_store_mid rfl 37 (.tmp 12) (.tmp 64) rfl gy 0 m1.cells.toArray rfl rfl HT1.out size37 (all_oneCell_toArray (Mg.one _)) ?_
            dsimp only
            rw [← HU.out]
            clear HU HT1 HV HGYE
            have HQ := Lib.hid (tk_seq HY.out HM1.out)
            have T5 := Lib.hid (T4.out.below HUB.out)
            clear HY HUB T4
            go_wp2_with fail
            refine Calls.mono (take_yes U B g (ss.map tkM) 0 (tkM s) T5.out.bo.bag HMM.out) ?_
            rintro e w6 ⟨rfl, h1, h2⟩
            have HQ6 := Lib.hid (show w6.cell? ⟨gy, 5, none⟩ = some (.int .u32 ((s : Int) + 1)) by
              rw [World.cell?_of_block (h2.far (k := gy) (cell_block HQ.out) HNG.out.1 HNG.out.2).1]; exact HQ.out)
            rw [← HM1.out]
            have T6 := Lib.hid (show Ts w1 w6 B g S 64 ((ss.eraseIdx 0).map tkM) un by rw [← erase_map]; exact T5.out.step h1 h2)
            clear h1 h2 T5 HQ HNG
            obtain ⟨Y, hV⟩ : ∃ Y, Y = w6.alloc (.cells Vz.toArray 37) := ⟨_, rfl⟩
            obtain ⟨X, hU⟩ : ∃ X, X = Y.setCells w6.heap.size 0 m1.cells := ⟨_, rfl⟩
            obtain ⟨u1, u2, u3⟩ := msg_new w6 m1 (show X = (w6.alloc (.cells Vz.toArray 37)).setCells w6.heap.size 0 m1.cells by rw [hU, hV])
            rw [← hV] at u3
            have HV := Lib.hid hV
            obtain ⟨gz, hgy⟩ : ∃ gz, gz = w6.heap.size := ⟨_, rfl⟩
            have HGYE := Lib.hid hgy
            rw [← hgy] at hU u3 u1
            have HU := Lib.hid hU
            have HT1 := Lib.hid u3
            have HY := Lib.hid u1
            have HUB := Lib.hid u2
            clear hU u1 u2 u3 hV hgy
            rename_i K1 hK1 K2 hK2
            refine hK2 _ _ ?_
            clear hK2 K2
            refine wpl_val (v := .tuple #[.agg m1.cells.toArray, .int .i64 0]) (w1 := w6) rfl (by go_simp) ({ tmps := #[_, _, _, _, _, _, _, _, _, _, _, _, _, _, _, _, _, _, _, _, _, _, _, _, _, _, _, _, _, _, _, _, _, _, _, _, _, _, _, _, _, _, _, _, _, _, _, _, _, _, _, _, _, _, _, _, _, _, _, _, _, _, _, _, _, _, .tuple #[.agg m1.cells.toArray, .int .i64 0], _, _, .tuple #[.agg m1.cells.toArray, .int .i64 0], _, _, _, _, _, _, _, _, _, _, _, _, _, _, _, _, _, _, _, _, _, _, _, _, _, _, _, _, _, _, _, _, _, _, _, _, _, _, _, _, _, _, _, _, _, _, _, _, _, _, _, _, _, _, _, _, _, _, _, _, _, _, _, _, _, _, _], defers := [] }) rfl ?_
            refine wpl_val (v := .agg m1.cells.toArray) (w1 := w6) rfl (by go_simp) ({ tmps := #[_, _, _, _, _, _, _, _, _, _, _, _, _, _, _, _, _, _, _, _, _, _, _, _, _, _, _, _, _, _, _, _, _, _, _, _, _, _, _, _, _, _, _, _, _, _, _, _, _, _, _, _, _, _, _, _, _, _, _, _, _, _, _, _, _, _, .tuple #[.agg m1.cells.toArray, .int .i64 0], _, _, .tuple #[.agg m1.cells.toArray, .int .i64 0], .agg m1.cells.toArray, _, _, _, _, _, _, _, _, _, _, _, _, _, _, _, _, _, _, _, _, _, _, _, _, _, _, _, _, _, _, _, _, _, _, _, _, _, _, _, _, _, _, _, _, _, _, _, _, _, _, _, _, _, _, _, _, _, _, _, _, _, _, _, _, _, _], defers := [] }) rfl ?_
            refine wpl_val (v := .int .i64 0) (w1 := w6) rfl (by go_simp) ({ tmps := #[_, _, _, _, _, _, _, _, _, _, _, _, _, _, _, _, _, _, _, _, _, _, _, _, _, _, _, _, _, _, _, _, _, _, _, _, _, _, _, _, _, _, _, _, _, _, _, _, _, _, _, _, _, _, _, _, _, _, _, _, _, _, _, _, _, _, .tuple #[.agg m1.cells.toArray, .int .i64 0], _, _, .tuple #[.agg m1.cells.toArray, .int .i64 0], .agg m1.cells.toArray, .int .i64 0, _, _, _, _, _, _, _, _, _, _, _, _, _, _, _, _, _, _, _, _, _, _, _, _, _, _, _, _, _, _, _, _, _, _, _, _, _, _, _, _, _, _, _, _, _, _, _, _, _, _, _, _, _, _, _, _, _, _, _, _, _, _, _, _, _], defers := [] }) rfl ?_
            refine wpl_val (v := .pointer (some ⟨gz, 0, none⟩)) (w1 := Y) rfl (by have e1 := HV.out; simp only [Vz] at e1; rw [e1, HGYE.out]; go_simp) ({ tmps := #[_, _, _, _, _, _, _, _, _, _, _, _, _, _, .pointer (some ⟨gz, 0, none⟩), _, _, _, _, _, _, _, _, _, _, _, _, _, _, _, _, _, _, _, _, _, _, _, _, _, _, _, _, _, _, _, _, _, _, _, _, _, _, _, _, _, _, _, _, _, _, _, _, _, _, _, .tuple #[.agg m1.cells.toArray, .int .i64 0], _, _, .tuple #[.agg m1.cells.toArray, .int .i64 0], .agg m1.cells.toArray, .int .i64 0, _, _, _, _, _, _, _, _, _, _, _, _, _, _, _, _, _, _, _, _, _, _, _, _, _, _, _, _, _, _, _, _, _, _, _, _, _, _, _, _, _, _, _, _, _, _, _, _, _, _, _, _, _, _, _, _, _, _, _, _, _, _, _, _, _], defers := [] }) rfl ?_
            refine wpList_store_mid rfl 37 (.tmp 14) (.tmp 70) rfl gz 0 m1.cells.toArray rfl rfl HT1.out size37 (all_oneCell_toArray (Mg.one _)) ?_
            dsimp only
            rw [← HU.out]
            clear HU HT1 HV HGYE
            have q5 := (HUB.out.cell (cell_block HQ6.out)).trans HQ6.out
            have r5 := tk_seq HY.out HM1.out
            have T7 := Lib.hid (T6.out.below HUB.out)
            have s5 : X.cell? ⟨S, s, none⟩ = some (.bool false) := by rw [T7.out.cell hs60, HUN.out]; rfl
            have z5 := T7.out.free s
            clear HY HUB T6 HQ6
            have hs0 : ¬ (s : Int) < 0 := by omega
            have hsk0 : ¬ (k : Int) ≤ s := by omega
            go_wp2_with fail
            have T9 := Lib.hid (T7.out.set hs60)
            generalize X.setCell ⟨S, s, none⟩ (.bool true) = X9 at *
            clear T7 q5 r5 s5 z5
            go_loopw [17, 18] (fun vc vj wr => ∃ j : Nat, j ≤ k ∧ vj = .int .i64 j ∧ vc = .int .i64 (cnt (less un s) j) ∧ wr = X9) (fun _ j _ => k - (intOf j).toNat)
            case atStart => exact ⟨0, Nat.zero_le _, rfl, rfl, rfl⟩
            case round =>
              obtain ⟨j, hj, rfl, rfl, rfl⟩ := hrel
              by_cases hjk : j < k
              · have hcj := T9.out.cell (j := j) (by omega)
                have hcn : cnt (less un s) (j + 1) = cnt (less un s) j + (if less un s j then 1 else 0) := rfl
                have HCN := Lib.hid hcn
                clear hcn
                have hcb : cnt (less un s) j ≤ 60 := Nat.le_trans (cnt_le _ _) (by omega)
                generalize cnt (less un s) j = c at *
                cases hb : less un s j with
                | true =>
                  rw [hb] at hcj
                  have HHB := Lib.hid hb
                  clear hb
                  go_wp2_with fail
                  go_round
                  case rel => exact ⟨j + 1, by omega, by go_num, by rw [HCN.out, HHB.out]; go_num, by first | rfl | trivial⟩
                  case measure => simp [intOf]; omega
                | false =>
                  rw [hb] at hcj
                  have HHB := Lib.hid hb
                  clear hb
                  go_wp2_with fail
                  go_round
                  case rel => exact ⟨j + 1, by omega, by go_num, by rw [HCN.out, HHB.out]; go_num, by first | rfl | trivial⟩
                  case measure => simp [intOf]; omega
              · obtain rfl : j = k := by omega
                have hcn : cnt (less un s) j = q - 1 := by rw [HPN.out.cn, List.length_eraseIdx_of_lt (by rw [HL.out]; exact hpq), HL.out]
                rw [hcn]
                have HLE := Lib.hid (show ((ss.eraseIdx 0).map tkM).length = q - 1 by rw [List.length_map, List.length_eraseIdx_of_lt (by rw [HL.out]; exact hpq), HL.out])
                clear hcn
                obtain ⟨q1, hq1⟩ : ∃ q1, q1 = q - 1 := ⟨_, rfl⟩
                rw [← hq1] at HLE ⊢
                have HQ1 := Lib.hid hq1
                clear hq1
                go_wp2_with fail
                refine Calls.mono (len25 wr B g _ T9.out.bo.bag) ?_
                rintro e w8 ⟨rfl, rfl⟩
                rw [HLE.out]
                go_wp2_with fail
                go_round
                case rel => exact ⟨i + 1, q1, ss.eraseIdx 0, g, _, by go_num, by have := HQ1.out; have := HIQ.out; omega, Lib.hid ⟨T9.out, HPN.out, by have := HLE.out; rw [List.length_map] at this; exact this⟩⟩
                case measure => have := HIQ.out; simp [intOf]; omega
        · obtain rfl : q = 0 := by omega
          obtain rfl : ss = [] := List.eq_nil_of_length_eq_zero HL.out
          have HTS2 := Lib.hid (show Ts w1 w3 B g S 64 [] un from HTS.out)
          clear HTS HPK
          go_wp2_with fail
          refine Calls.mono (take_no w3 B g [] 0 HTS2.out.bo.bag (by decide)) ?_
          rintro e w4 ⟨rfl, hb⟩
          have T4 := Lib.hid (HTS2.out.below hb)
          clear hb HTS2
          obtain ⟨m2, hm2⟩ : ∃ m2, m2 = zeroM := ⟨_, rfl⟩
          rw [← hm2]
          clear hm2
          obtain ⟨V, hV⟩ : ∃ V, V = w4.alloc (.cells Vz.toArray 37) := ⟨_, rfl⟩
          obtain ⟨U, hU⟩ : ∃ U, U = V.setCells w4.heap.size 0 m2.cells := ⟨_, rfl⟩
          obtain ⟨u1, u2, u3⟩ := msg_new w4 m2 (show U = (w4.alloc (.cells Vz.toArray 37)).setCells w4.heap.size 0 m2.cells by rw [hU, hV])
          rw [← hV] at u3
          have HV := Lib.hid hV
          obtain ⟨gy, hgy⟩ : ∃ gy, gy = w4.heap.size := ⟨_, rfl⟩
          have HGYE := Lib.hid hgy
          rw [← hgy] at hU u3 u1
          have HU := Lib.hid hU
          have HT1 := Lib.hid u3
          have HY := Lib.hid u1
          have HUB := Lib.hid u2
          clear hU u1 u2 u3 hV hgy
          rename_i K1 hK1 K2 hK2
          refine hK2 _ _ ?_
          clear hK2 K2
          refine wpl_val (v := .tuple #[.agg m2.cells.toArray, .int .i64 61]) (w1 := w4) rfl (by go_simp) ({ tmps := #[_, _, _, _, _, _, _, _, _, _, _, _, _, _, _, _, _, _, _, _, _, _, _, _, _, _, _, _, _, _, _, _, _, _, _, _, _, _, _, _, _, _, _, _, _, _, _, _, _, _, _, _, _, _, _, _, _, _, _, _, _, _, _, _, _, _, _, _, _, _, _, _, _, _, _, _, _, _, _, _, _, _, _, _, _, _, _, _, _, _, _, _, _, _, _, _, _, _, _, _, _, _, _, _, _, _, _, _, _, _, _, _, _, _, _, _, _, _, _, _, .tuple #[.agg m2.cells.toArray, .int .i64 61], _, .tuple #[.agg m2.cells.toArray, .int .i64 61], _, _, _, _, _, _, _, _, _, _, _, _, _, _], defers := [] }) rfl ?_
          refine wpl_val (v := .agg m2.cells.toArray) (w1 := w4) rfl (by go_simp) ({ tmps := #[_, _, _, _, _, _, _, _, _, _, _, _, _, _, _, _, _, _, _, _, _, _, _, _, _, _, _, _, _, _, _, _, _, _, _, _, _, _, _, _, _, _, _, _, _, _, _, _, _, _, _, _, _, _, _, _, _, _, _, _, _, _, _, _, _, _, _, _, _, _, _, _, _, _, _, _, _, _, _, _, _, _, _, _, _, _, _, _, _, _, _, _, _, _, _, _, _, _, _, _, _, _, _, _, _, _, _, _, _, _, _, _, _, _, _, _, _, _, _, _, .tuple #[.agg m2.cells.toArray, .int .i64 61], _, .tuple #[.agg m2.cells.toArray, .int .i64 61], .agg m2.cells.toArray, _, _, _, _, _, _, _, _, _, _, _, _, _], defers := [] }) rfl ?_
          refine wpl_val (v := .int .i64 61) (w1 := w4) rfl (by go_simp) ({ tmps := #[_, _, _, _, _, _, _, _, _, _, _, _, _, _, _, _, _, _, _, _, _, _, _, _, _, _, _, _, _, _, _, _, _, _, _, _, _, _, _, _, _, _, _, _, _, _, _, _, _, _, _, _, _, _, _, _, _, _, _, _, _, _, _, _, _, _, _, _, _, _, _, _, _, _, _, _, _, _, _, _, _, _, _, _, _, _, _, _, _, _, _, _, _, _, _, _, _, _, _, _, _, _, _, _, _, _, _, _, _, _, _, _, _, _, _, _, _, _, _, _, .tuple #[.agg m2.cells.toArray, .int .i64 61], _, .tuple #[.agg m2.cells.toArray, .int .i64 61], .agg m2.cells.toArray, .int .i64 61, _, _, _, _, _, _, _, _, _, _, _, _], defers := [] }) rfl ?_
          refine wpl_val (v := .pointer (some ⟨gy, 0, none⟩)) (w1 := V) rfl (by have e1 := HV.out; simp only [Vz] at e1; rw [e1, HGYE.out]; go_simp) ({ tmps := #[_, _, _, _, _, _, _, _, _, _, _, _, _, _, _, _, _, _, _, .pointer (some ⟨gy, 0, none⟩), _, _, _, _, _, _, _, _, _, _, _, _, _, _, _, _, _, _, _, _, _, _, _, _, _, _, _, _, _, _, _, _, _, _, _, _, _, _, _, _, _, _, _, _, _, _, _, _, _, _, _, _, _, _, _, _, _, _, _, _, _, _, _, _, _, _, _, _, _, _, _, _, _, _, _, _, _, _, _, _, _, _, _, _, _, _, _, _, _, _, _, _, _, _, _, _, _, _, _, _, .tuple #[.agg m2.cells.toArray, .int .i64 61], _, .tuple #[.agg m2.cells.toArray, .int .i64 61], .agg m2.cells.toArray, .int .i64 61, _, _, _, _, _, _, _, _, _, _, _, _], defers := [] }) rfl ?_
          refine wpList_store_mid rfl 37 (.tmp 19) (.tmp 123) rfl gy 0 m2.cells.toArray rfl rfl HT1.out size37 (all_oneCell_toArray (Mg.one _)) ?_
          dsimp only
          rw [← HU.out]
          clear HU HT1 HV HGYE
          have T5 := Lib.hid (T4.out.below HUB.out)
          clear HY HUB T4
          go_wp2_with fail
          refine Calls.mono (drop_no U B g [] 0 T5.out.bo.bag (by decide)) ?_
          rintro e w5 ⟨rfl, rfl⟩
          go_wp2_with fail
          refine Calls.mono (double_no w5 B g [] 0 T5.out.bo.bag (by decide)) ?_
          rintro e w6 ⟨rfl, rfl⟩
          go_wp2_with fail
          go_ret
          exact ⟨rfl, HB1.out.trans (T5.out.bo.bel.mono HB1.out.size)⟩
set_option maxHeartbeats 16000000 in
theorem takes_none (n : Int) (cap : Nat) (l : List Int) (w : World) (n0 : 0 ≤ n) (n1 : n ≤ 255) (hl0 : l.length = 0) (ht : Tab w) :
    Calls Tryd.prog 6 #[.int .u8 n, .slice none l.length cap] w fun e w' => e = .returned (.bool true) ∧ Below w.heap.size w w' := by
  have HT := Lib.hid ht
  obtain ⟨k, hk⟩ : ∃ k : Nat, n % 60 = k := ⟨(n % 60).toNat, by omega⟩
  have hk60 : k < 60 := by omega
  have HM0 := Lib.hid hl0
  clear ht hl0
  generalize l.length = m at *
  go_enter Tryd.func6, Tryd.ntmps6
  go_wp2_with fail
  refine Calls.mono (known14 w HT.out) ?_
  rintro e w1 ⟨rfl, hb1⟩
  have HB1 := Lib.hid hb1
  clear hb1
  by_cases hm100 : 100 < m
  · go_wp2_with fail
    go_ret
    exact ⟨rfl, HB1.out⟩
  go_wp2_with fail
  refine Calls.mono (new15 w1) ?_
  rintro e w2 ⟨rfl, hb, hbl⟩
  have BO := Lib.hid (show Bo w1 w2 w1.heap.size none ((List.range 0).map tkM) from ⟨hb, hbl, Nat.le_refl _, fun x e => by cases e⟩)
  clear hb hbl
  obtain ⟨B, hB⟩ : ∃ B, B = w1.heap.size := ⟨_, rfl⟩
  rw [← hB] at BO ⊢
  have HTA := Lib.hid (show Tab w1 from Tab.on HT.out HB1.out)
  clear hB
  go_wp2_with fail
  clear hk n0 n1
  go_loopw [7] (fun vi wr => ∃ j : Nat, j ≤ k ∧ vi = .int .i64 j ∧ ∃ g, Hid (Bo w1 wr B g ((List.range j).map tkM))) (fun i _ => k - (intOf i).toNat)
  case atStart => exact ⟨0, Nat.zero_le _, rfl, none, BO⟩
  case round =>
    obtain ⟨j, hj, rfl, g, HJ⟩ := hrel
    clear BO
    by_cases hlt : j < k
    · have hw32 : IntKind.u32.wrap (j : Int) = j := by rw [IntKind.wrap_u32]; omega
      have hw33 : IntKind.u32.wrap ((j : Int) + 1) = (j : Int) + 1 := by rw [IntKind.wrap_u32]; omega
      go_upto_region 10 with fail
      obtain ⟨m0, hm0⟩ : ∃ m0, m0 = tkM j := ⟨_, rfl⟩
      obtain ⟨V0, hV⟩ : ∃ V0, V0 = wr.alloc (.cells Vz.toArray 37) := ⟨_, rfl⟩
      obtain ⟨U0, hU⟩ : ∃ U0, U0 = V0.setCells wr.heap.size 0 m0.cells := ⟨_, rfl⟩
      obtain ⟨u1, u2, u3⟩ := msg_new wr m0 (show U0 = (wr.alloc (.cells Vz.toArray 37)).setCells wr.heap.size 0 m0.cells by rw [hU, hV])
      rw [← hV] at u3
      have HV := Lib.hid hV
      obtain ⟨g0, hgy⟩ : ∃ g0, g0 = wr.heap.size := ⟨_, rfl⟩
      have HGYE := Lib.hid hgy
      rw [← hgy] at hU u3 u1
      have HU := Lib.hid hU
      have HT1 := Lib.hid u3
      have HY := Lib.hid u1
      have HUB := Lib.hid u2
      have HM0 := Lib.hid hm0
      clear hU u1 u2 u3 hV hgy hm0
      refine wp_region_lit ?_
      refine wpl_val (v := .int .i64 j) (w1 := wr) rfl (by go_simp) ({ tmps := #[_, _, _, _, _, _, _, _, _, _, _, _, _, _, _, _, _, _, _, _, _, _, _, _, _, _, _, _, _, _, _, _, _, _, _, .int .i64 j, _, _, _, _, _, _, _, _, _, _, _, _, _, _, _, _, _, _, _, _, _, _, _, _, _, _, _, _, _, _, _, _, _, _, _, _, _, _, _, _, _, _, _, _, _, _, _, _, _, _, _, _, _, _, _, _, _, _, _, _, _, _, _, _, _, _, _, _, _, _, _, _, _, _, _, _, _, _, _, _, _, _, _, _, _, _, _, _, _, _, _, _, _, _, _, _, _, _, _, _, _], defers := [] }) rfl ?_
      refine wpl_val (v := .int .u32 j) (w1 := wr) rfl (by go_simp) ({ tmps := #[_, _, _, _, _, _, _, _, _, _, _, _, _, _, _, _, _, _, _, _, _, _, _, _, _, _, _, _, _, _, _, _, _, _, _, .int .i64 j, .int .u32 j, _, _, _, _, _, _, _, _, _, _, _, _, _, _, _, _, _, _, _, _, _, _, _, _, _, _, _, _, _, _, _, _, _, _, _, _, _, _, _, _, _, _, _, _, _, _, _, _, _, _, _, _, _, _, _, _, _, _, _, _, _, _, _, _, _, _, _, _, _, _, _, _, _, _, _, _, _, _, _, _, _, _, _, _, _, _, _, _, _, _, _, _, _, _, _, _, _, _, _, _], defers := [] }) rfl ?_
      refine wpl_val (v := .int .u32 ((j : Int) + 1)) (w1 := wr) rfl (by go_simp) ({ tmps := #[_, _, _, _, _, _, _, _, _, _, _, _, _, _, _, _, _, _, _, _, _, _, _, _, _, _, _, _, _, _, _, _, _, _, _, .int .i64 j, .int .u32 j, .int .u32 ((j : Int) + 1), _, _, _, _, _, _, _, _, _, _, _, _, _, _, _, _, _, _, _, _, _, _, _, _, _, _, _, _, _, _, _, _, _, _, _, _, _, _, _, _, _, _, _, _, _, _, _, _, _, _, _, _, _, _, _, _, _, _, _, _, _, _, _, _, _, _, _, _, _, _, _, _, _, _, _, _, _, _, _, _, _, _, _, _, _, _, _, _, _, _, _, _, _, _, _, _, _, _, _], defers := [] }) rfl ?_
      refine wpl_val (v := .agg m0.cells.toArray) (w1 := wr) rfl (by rw [HM0.out]; simp only [tkM, cmM, zeroM, Mg.cells, Rq.zero, Vt.zero]; go_simp) ({ tmps := #[_, _, _, _, _, _, _, _, _, _, _, _, _, _, _, _, _, _, _, _, _, _, _, _, _, _, _, _, _, _, _, _, _, _, _, .int .i64 j, .int .u32 j, .int .u32 ((j : Int) + 1), .agg m0.cells.toArray, _, _, _, _, _, _, _, _, _, _, _, _, _, _, _, _, _, _, _, _, _, _, _, _, _, _, _, _, _, _, _, _, _, _, _, _, _, _, _, _, _, _, _, _, _, _, _, _, _, _, _, _, _, _, _, _, _, _, _, _, _, _, _, _, _, _, _, _, _, _, _, _, _, _, _, _, _, _, _, _, _, _, _, _, _, _, _, _, _, _, _, _, _, _, _, _, _, _], defers := [] }) rfl ?_
      refine wpl_val (v := .pointer (some ⟨g0, 0, none⟩)) (w1 := V0) rfl (by have e1 := HV.out; simp only [Vz] at e1; rw [e1, HGYE.out]; go_simp) ({ tmps := #[_, _, _, _, _, _, _, _, .pointer (some ⟨g0, 0, none⟩), _, _, _, _, _, _, _, _, _, _, _, _, _, _, _, _, _, _, _, _, _, _, _, _, _, _, .int .i64 j, .int .u32 j, .int .u32 ((j : Int) + 1), .agg m0.cells.toArray, _, _, _, _, _, _, _, _, _, _, _, _, _, _, _, _, _, _, _, _, _, _, _, _, _, _, _, _, _, _, _, _, _, _, _, _, _, _, _, _, _, _, _, _, _, _, _, _, _, _, _, _, _, _, _, _, _, _, _, _, _, _, _, _, _, _, _, _, _, _, _, _, _, _, _, _, _, _, _, _, _, _, _, _, _, _, _, _, _, _, _, _, _, _, _, _, _, _], defers := [] }) rfl ?_
      refine wpList_store_mid rfl 37 (.tmp 8) (.tmp 38) rfl g0 0 m0.cells.toArray rfl rfl HT1.out size37 (all_oneCell_toArray (Mg.one _)) ?_
      dsimp only
      rw [← HU.out]
      clear HU HT1 HV HGYE
      have B3 := Lib.hid (HJ.out.below HUB.out)
      clear HUB HJ hw32 hw33
      go_wp2_with (first | (refine wpList_load_row rfl 37 (.tmp 8) rfl g0 rfl 37 _ (0, 0) _ HY.out Tryd.underlying37 rfl size37 ?_; refine Hid.out ?_) | go_in)
      refine Lib.hid ?_
      clear HY
      go_wp2_with fail
      refine Calls.mono (send16 U0 B g ((List.range j).map tkM) m0 B3.out.bag (by rw [HM0.out]; exact cmM_nil _) (B3.out.tab HTA.out)) ?_
      rintro e w4 ⟨r, g4, l', rfl, h1, h2, h3⟩
      obtain ⟨rfl, rfl⟩ : r = 0 ∧ l' = (List.range (j + 1)).map tkM := by
        rcases h3 with ⟨e, _⟩ | ⟨_, ⟨e, _⟩ | ⟨_, e1, e2⟩⟩
        · rw [HM0.out, tkM_is (by omega)] at e; cases e
        · simp at e; omega
        · exact ⟨e1, by rw [e2, HM0.out, List.range_succ]; simp⟩
      have B4 := Lib.hid (B3.out.step h1 h2)
      clear h1 h2 h3 B3 HM0
      go_wp2_with fail
      go_round
      case rel => exact ⟨j + 1, by omega, by go_num, g4, B4⟩
      case measure => simp [intOf]; omega
    · obtain rfl : j = k := by omega
      go_wp2_with fail
      have hTS : Ts w1 (wr.alloc (.cells #[.bool false, .bool false, .bool false, .bool false, .bool false, .bool false, .bool false, .bool false, .bool false, .bool false, .bool false, .bool false, .bool false, .bool false, .bool false, .bool false, .bool false, .bool false, .bool false, .bool false, .bool false, .bool false, .bool false, .bool false, .bool false, .bool false, .bool false, .bool false, .bool false, .bool false, .bool false, .bool false, .bool false, .bool false, .bool false, .bool false, .bool false, .bool false, .bool false, .bool false, .bool false, .bool false, .bool false, .bool false, .bool false, .bool false, .bool false, .bool false, .bool false, .bool false, .bool false, .bool false, .bool false, .bool false, .bool false, .bool false, .bool false, .bool false, .bool false, .bool false] 64)) B g wr.heap.size 64 ((List.range j).map tkM) (fun _ => true) := by
        refine ⟨HJ.out.below ((Below.refl _ _).alloc (Nat.le_refl _) _), ⟨Array.replicate 60 (.bool false), heap_alloc_new _ _, fun i hi => by rw [Array.getElem?_replicate, if_pos hi]; rfl⟩, HJ.out.bel.size, ?_, fun e => ?_⟩
        · have := HJ.out.bag.lt.1; omega
        · have := HJ.out.bag.lt.2 _ e; omega
      obtain ⟨W0, hW0⟩ : ∃ W0, W0 = wr.alloc (.cells #[.bool false, .bool false, .bool false, .bool false, .bool false, .bool false, .bool false, .bool false, .bool false, .bool false, .bool false, .bool false, .bool false, .bool false, .bool false, .bool false, .bool false, .bool false, .bool false, .bool false, .bool false, .bool false, .bool false, .bool false, .bool false, .bool false, .bool false, .bool false, .bool false, .bool false, .bool false, .bool false, .bool false, .bool false, .bool false, .bool false, .bool false, .bool false, .bool false, .bool false, .bool false, .bool false, .bool false, .bool false, .bool false, .bool false, .bool false, .bool false, .bool false, .bool false, .bool false, .bool false, .bool false, .bool false, .bool false, .bool false, .bool false, .bool false, .bool false, .bool false] 64) := ⟨_, rfl⟩
      obtain ⟨S, hS⟩ : ∃ S, S = wr.heap.size := ⟨_, rfl⟩
      rw [← hW0, ← hS] at hTS ⊢
      have HJ0 := Lib.hid (show Ts w1 W0 B g S 64 ((List.range j).map tkM) (fun _ => true) ∧ Pk j (List.range j) (fun _ => true) ∧ (List.range j).length = j from ⟨hTS, Pk.first j, List.length_range⟩)
      clear hTS hW0 hS HJ hlt hj
      generalize j = k at *
      go_loopw [10] (fun vi wr => ∃ (i q : Nat) (ss : List Nat) (g : Option Nat) (un : Nat → Bool), vi = .int .i64 i ∧ i + q = k ∧ Hid (Ts w1 wr B g S 64 (ss.map tkM) un ∧ Pk k ss un ∧ ss.length = q)) (fun i _ => k - (intOf i).toNat)
      case atStart => exact ⟨0, k, List.range k, g, fun _ => true, rfl, by omega, HJ0⟩
      case round =>
        clear HJ0
        obtain ⟨i, q, ss, g, un, rfl, hiq, HJ⟩ := hrel
        have HTS := Lib.hid HJ.out.1
        have HPK := Lib.hid HJ.out.2.1
        have HL := Lib.hid HJ.out.2.2
        have HIQ := Lib.hid hiq
        have hi60 : i ≤ 60 := by omega
        have hq60 : q ≤ 60 := by omega
        clear HJ hiq
        go_wp2_with fail
        refine Calls.mono (len25 wr B g (ss.map tkM) HTS.out.bo.bag) ?_
        rintro e w3 ⟨rfl, rfl⟩
        rw [List.length_map, HL.out]
        by_cases hq0 : 0 < q
        · by_cases him : i < m
          · have := HM0.out; omega
          · have hpq : 0 < q := hq0
            obtain ⟨s, hs⟩ : ∃ s, ss[0]? = some s := ⟨_, List.getElem?_eq_getElem (by rw [HL.out]; exact hpq)⟩
            have hmm : (ss.map tkM)[0]? = some (tkM s) := by rw [List.getElem?_map, hs]; rfl
            obtain ⟨hsk, hun⟩ := HPK.out.inn s (List.mem_of_getElem? hs)
            have HPN := Lib.hid (HPK.out.next hs)
            have HMM := Lib.hid hmm
            have HUN := Lib.hid hun
            have hs60 : s < 60 := by omega
            clear hs hmm hun HPK
            go_wp2_with fail
            refine Calls.mono (at_yes _ B g (ss.map tkM) 0 (tkM s) HTS.out.bo.bag HMM.out) ?_
            rintro e w4 ⟨rfl, hb4⟩
            have T4 := Lib.hid (HTS.out.below hb4)
            clear hb4 HTS
            obtain ⟨m1, hm1⟩ : ∃ m1, m1 = tkM s := ⟨_, rfl⟩
            rw [← hm1]
            have HM1 := Lib.hid hm1
            clear hm1
            obtain ⟨V, hV⟩ : ∃ V, V = w4.alloc (.cells Vz.toArray 37) := ⟨_, rfl⟩
            obtain ⟨U, hU⟩ : ∃ U, U = V.setCells w4.heap.size 0 m1.cells := ⟨_, rfl⟩
            obtain ⟨u1, u2, u3⟩ := msg_new w4 m1 (show U = (w4.alloc (.cells Vz.toArray 37)).setCells w4.heap.size 0 m1.cells by rw [hU, hV])
            rw [← hV] at u3
            have HV := Lib.hid hV
            obtain ⟨gy, hgy⟩ : ∃ gy, gy = w4.heap.size := ⟨_, rfl⟩
            have HGYE := Lib.hid hgy
            rw [← hgy] at hU u3 u1
            have HU := Lib.hid hU
            have HT1 := Lib.hid u3
            have HY := Lib.hid u1
            have HUB := Lib.hid u2
            have HNG := Lib.hid (show gy ≠ B ∧ g ≠ some gy from ⟨by have := T4.out.bo.bag.lt.1; omega, fun e => by have := T4.out.bo.bag.lt.2 _ e; omega⟩)
            clear hU u1 u2 u3 hV hgy
            rename_i K1 hK1 K2 hK2
            refine hK2 _ _ ?_
            clear hK2 K2
            refine wpl_val (v := .tuple #[.agg m1.cells.toArray, .bool true]) (w1 := w4) rfl (by go_simp) ({ tmps := #[_, _, _, _, _, _, _, _, _, _, _, _, _, _, _, _, _, _, _, _, _, _, _, _, _, _, _, _, _, _, _, _, _, _, _, _, _, _, _, _, _, _, _, _, _, _, _, _, _, _, _, _, _, _, _, _, _, _, _, _, .tuple #[.agg m1.cells.toArray, .bool true], _, _, .tuple #[.agg m1.cells.toArray, .bool true], _, _, _, _, _, _, _, _, _, _, _, _, _, _, _, _, _, _, _, _, _, _, _, _, _, _, _, _, _, _, _, _, _, _, _, _, _, _, _, _, _, _, _, _, _, _, _, _, _, _, _, _, _, _, _, _, _, _, _, _, _, _, _, _, _, _, _, _, _, _, _, _, _], defers := [] }) rfl ?_
            refine wpl_val (v := .agg m1.cells.toArray) (w1 := w4) rfl (by go_simp) ({ tmps := #[_, _, _, _, _, _, _, _, _, _, _, _, _, _, _, _, _, _, _, _, _, _, _, _, _, _, _, _, _, _, _, _, _, _, _, _, _, _, _, _, _, _, _, _, _, _, _, _, _, _, _, _, _, _, _, _, _, _, _, _, .tuple #[.agg m1.cells.toArray, .bool true], _, _, .tuple #[.agg m1.cells.toArray, .bool true], .agg m1.cells.toArray, _, _, _, _, _, _, _, _, _, _, _, _, _, _, _, _, _, _, _, _, _, _, _, _, _, _, _, _, _, _, _, _, _, _, _, _, _, _, _, _, _, _, _, _, _, _, _, _, _, _, _, _, _, _, _, _, _, _, _, _, _, _, _, _, _, _, _, _, _, _, _, _], defers := [] }) rfl ?_
            refine wpl_val (v := .bool true) (w1 := w4) rfl (by go_simp) ({ tmps := #[_, _, _, _, _, _, _, _, _, _, _, _, _, _, _, _, _, _, _, _, _, _, _, _, _, _, _, _, _, _, _, _, _, _, _, _, _, _, _, _, _, _, _, _, _, _, _, _, _, _, _, _, _, _, _, _, _, _, _, _, .tuple #[.agg m1.cells.toArray, .bool true], _, _, .tuple #[.agg m1.cells.toArray, .bool true], .agg m1.cells.toArray, .bool true, _, _, _, _, _, _, _, _, _, _, _, _, _, _, _, _, _, _, _, _, _, _, _, _, _, _, _, _, _, _, _, _, _, _, _, _, _, _, _, _, _, _, _, _, _, _, _, _, _, _, _, _, _, _, _, _, _, _, _, _, _, _, _, _, _, _, _, _, _, _, _], defers := [] }) rfl ?_
            refine wpl_val (v := .pointer (some ⟨gy, 0, none⟩)) (w1 := V) rfl (by have e1 := HV.out; simp only [Vz] at e1; rw [e1, HGYE.out]; go_simp) ({ tmps := #[_, _, _, _, _, _, _, _, _, _, _, _, .pointer (some ⟨gy, 0, none⟩), _, _, _, _, _, _, _, _, _, _, _, _, _, _, _, _, _, _, _, _, _, _, _, _, _, _, _, _, _, _, _, _, _, _, _, _, _, _, _, _, _, _, _, _, _, _, _, .tuple #[.agg m1.cells.toArray, .bool true], _, _, .tuple #[.agg m1.cells.toArray, .bool true], .agg m1.cells.toArray, .bool true, _, _, _, _, _, _, _, _, _, _, _, _, _, _, _, _, _, _, _, _, _, _, _, _, _, _, _, _, _, _, _, _, _, _, _, _, _, _, _, _, _, _, _, _, _, _, _, _, _, _, _, _, _, _, _, _, _, _, _, _, _, _, _, _, _, _, _, _, _, _, _], defers := [] }) rfl ?_
            refine wpList_store_mid rfl 37 (.tmp 12) (.tmp 64) rfl gy 0 m1.cells.toArray rfl rfl HT1.out size37 (all_oneCell_toArray (Mg.one _)) ?_
            dsimp only
            rw [← HU.out]
            clear HU HT1 HV HGYE
            have HQ := Lib.hid (tk_seq HY.out HM1.out)
            have T5 := Lib.hid (T4.out.below HUB.out)
            clear HY HUB T4
            go_wp2_with fail
            refine Calls.mono (take_yes U B g (ss.map tkM) 0 (tkM s) T5.out.bo.bag HMM.out) ?_
            rintro e w6 ⟨rfl, h1, h2⟩
            have HQ6 := Lib.hid (show w6.cell? ⟨gy, 5, none⟩ = some (.int .u32 ((s : Int) + 1)) by
              rw [World.cell?_of_block (h2.far (k := gy) (cell_block HQ.out) HNG.out.1 HNG.out.2).1]; exact HQ.out)
            rw [← HM1.out]
            have T6 := Lib.hid (show Ts w1 w6 B g S 64 ((ss.eraseIdx 0).map tkM) un by rw [← erase_map]; exact T5.out.step h1 h2)
            clear h1 h2 T5 HQ HNG
            obtain ⟨Y, hV⟩ : ∃ Y, Y = w6.alloc (.cells Vz.toArray 37) := ⟨_, rfl⟩
            obtain ⟨X, hU⟩ : ∃ X, X = Y.setCells w6.heap.size 0 m1.cells := ⟨_, rfl⟩
            obtain ⟨u1, u2, u3⟩ := msg_new w6 m1 (show X = (w6.alloc (.cells Vz.toArray 37)).setCells w6.heap.size 0 m1.cells by rw [hU, hV])
            rw [← hV] at u3
            have HV := Lib.hid hV
            obtain ⟨gz, hgy⟩ : ∃ gz, gz = w6.heap.size := ⟨_, rfl⟩
            have HGYE := Lib.hid hgy
            rw [← hgy] at hU u3 u1
            have HU := Lib.hid hU
            have HT1 := Lib.hid u3
            have HY := Lib.hid u1
            have HUB := Lib.hid u2
            clear hU u1 u2 u3 hV hgy
            rename_i K1 hK1 K2 hK2
            refine hK2 _ _ ?_
            clear hK2 K2
            refine wpl_val (v := .tuple #[.agg m1.cells.toArray, .int .i64 0]) (w1 := w6) rfl (by go_simp) ({ tmps := #[_, _, _, _, _, _, _, _, _, _, _, _, _, _, _, _, _, _, _, _, _, _, _, _, _, _, _, _, _, _, _, _, _, _, _, _, _, _, _, _, _, _, _, _, _, _, _, _, _, _, _, _, _, _, _, _, _, _, _, _, _, _, _, _, _, _, .tuple #[.agg m1.cells.toArray, .int .i64 0], _, _, .tuple #[.agg m1.cells.toArray, .int .i64 0], _, _, _, _, _, _, _, _, _, _, _, _, _, _, _, _, _, _, _, _, _, _, _, _, _, _, _, _, _, _, _, _, _, _, _, _, _, _, _, _, _, _, _, _, _, _, _, _, _, _, _, _, _, _, _, _, _, _, _, _, _, _, _, _, _, _, _], defers := [] }) rfl ?_
            refine wpl_val (v := .agg m1.cells.toArray) (w1 := w6) rfl (by go_simp) ({ tmps := #[_, _, _, _, _, _, _, _, _, _, _, _, _, _, _, _, _, _, _, _, _, _, _, _, _, _, _, _, _, _, _, _, _, _, _, _, _, _, _, _, _, _, _, _, _, _, _, _, _, _, _, _, _, _, _, _, _, _, _, _, _, _, _, _, _, _, .tuple #[.agg m1.cells.toArray, .int .i64 0], _, _, .tuple #[.agg m1.cells.toArray, .int .i64 0], .agg m1.cells.toArray, _, _, _, _, _, _, _, _, _, _, _, _, _, _, _, _, _, _, _, _, _, _, _, _, _, _, _, _, _, _, _, _, _, _, _, _, _, _, _, _, _, _, _, _, _, _, _, _, _, _, _, _, _, _, _, _, _, _, _, _, _, _, _, _, _, _], defers := [] }) rfl ?_
            refine wpl_val (v := .int .i64 0) (w1 := w6) rfl (by go_simp) ({ tmps := #[_, _, _, _, _, _, _, _, _, _, _, _, _, _, _, _, _, _, _, _, _, _, _, _, _, _, _, _, _, _, _, _, _, _, _, _, _, _, _, _, _, _, _, _, _, _, _, _, _, _, _, _, _, _, _, _, _, _, _, _, _, _, _, _, _, _, .tuple #[.agg m1.cells.toArray, .int .i64 0], _, _, .tuple #[.agg m1.cells.toArray, .int .i64 0], .agg m1.cells.toArray, .int .i64 0, _, _, _, _, _, _, _, _, _, _, _, _, _, _, _, _, _, _, _, _, _, _, _, _, _, _, _, _, _, _, _, _, _, _, _, _, _, _, _, _, _, _, _, _, _, _, _, _, _, _, _, _, _, _, _, _, _, _, _, _, _, _, _, _, _], defers := [] }) rfl ?_
            refine wpl_val (v := .pointer (some ⟨gz, 0, none⟩)) (w1 := Y) rfl (by have e1 := HV.out; simp only [Vz] at e1; rw [e1, HGYE.out]; go_simp) ({ tmps := #[_, _, _, _, _, _, _, _, _, _, _, _, _, _, .pointer (some ⟨gz, 0, none⟩), _, _, _, _, _, _, _, _, _, _, _, _, _, _, _, _, _, _, _, _, _, _, _, _, _, _, _, _, _, _, _, _, _, _, _, _, _, _, _, _, _, _, _, _, _, _, _, _, _, _, _, .tuple #[.agg m1.cells.toArray, .int .i64 0], _, _, .tuple #[.agg m1.cells.toArray, .int .i64 0], .agg m1.cells.toArray, .int .i64 0, _, _, _, _, _, _, _, _, _, _, _, _, _, _, _, _, _, _, _, _, _, _, _, _, _, _, _, _, _, _, _, _, _, _, _, _, _, _, _, _, _, _, _, _, _, _, _, _, _, _, _, _, _, _, _, _, _, _, _, _, _, _, _, _, _], defers := [] }) rfl ?_
            refine wpList_store_mid rfl 37 (.tmp 14) (.tmp 70) rfl gz 0 m1.cells.toArray rfl rfl HT1.out size37 (all_oneCell_toArray (Mg.one _)) ?_
            dsimp only
            rw [← HU.out]
            clear HU HT1 HV HGYE
            have q5 := (HUB.out.cell (cell_block HQ6.out)).trans HQ6.out
            have r5 := tk_seq HY.out HM1.out
            have T7 := Lib.hid (T6.out.below HUB.out)
            have s5 : X.cell? ⟨S, s, none⟩ = some (.bool false) := by rw [T7.out.cell hs60, HUN.out]; rfl
            have z5 := T7.out.free s
            clear HY HUB T6 HQ6
            have hs0 : ¬ (s : Int) < 0 := by omega
            have hsk0 : ¬ (k : Int) ≤ s := by omega
            go_wp2_with fail
            have T9 := Lib.hid (T7.out.set hs60)
            generalize X.setCell ⟨S, s, none⟩ (.bool true) = X9 at *
            clear T7 q5 r5 s5 z5
            go_loopw [17, 18] (fun vc vj wr => ∃ j : Nat, j ≤ k ∧ vj = .int .i64 j ∧ vc = .int .i64 (cnt (less un s) j) ∧ wr = X9) (fun _ j _ => k - (intOf j).toNat)
            case atStart => exact ⟨0, Nat.zero_le _, rfl, rfl, rfl⟩
            case round =>
              obtain ⟨j, hj, rfl, rfl, rfl⟩ := hrel
              by_cases hjk : j < k
              · have hcj := T9.out.cell (j := j) (by omega)
                have hcn : cnt (less un s) (j + 1) = cnt (less un s) j + (if less un s j then 1 else 0) := rfl
                have HCN := Lib.hid hcn
                clear hcn
                have hcb : cnt (less un s) j ≤ 60 := Nat.le_trans (cnt_le _ _) (by omega)
                generalize cnt (less un s) j = c at *
                cases hb : less un s j with
                | true =>
                  rw [hb] at hcj
                  have HHB := Lib.hid hb
                  clear hb
                  go_wp2_with fail
                  go_round
                  case rel => exact ⟨j + 1, by omega, by go_num, by rw [HCN.out, HHB.out]; go_num, by first | rfl | trivial⟩
                  case measure => simp [intOf]; omega
                | false =>
                  rw [hb] at hcj
                  have HHB := Lib.hid hb
                  clear hb
                  go_wp2_with fail
                  go_round
                  case rel => exact ⟨j + 1, by omega, by go_num, by rw [HCN.out, HHB.out]; go_num, by first | rfl | trivial⟩
                  case measure => simp [intOf]; omega
              · obtain rfl : j = k := by omega
                have hcn : cnt (less un s) j = q - 1 := by rw [HPN.out.cn, List.length_eraseIdx_of_lt (by rw [HL.out]; exact hpq), HL.out]
                rw [hcn]
                have HLE := Lib.hid (show ((ss.eraseIdx 0).map tkM).length = q - 1 by rw [List.length_map, List.length_eraseIdx_of_lt (by rw [HL.out]; exact hpq), HL.out])
                clear hcn
                obtain ⟨q1, hq1⟩ : ∃ q1, q1 = q - 1 := ⟨_, rfl⟩
                rw [← hq1] at HLE ⊢
                have HQ1 := Lib.hid hq1
                clear hq1
                go_wp2_with fail
                refine Calls.mono (len25 wr B g _ T9.out.bo.bag) ?_
                rintro e w8 ⟨rfl, rfl⟩
                rw [HLE.out]
                go_wp2_with fail
                go_round
                case rel => exact ⟨i + 1, q1, ss.eraseIdx 0, g, _, by go_num, by have := HQ1.out; have := HIQ.out; omega, Lib.hid ⟨T9.out, HPN.out, by have := HLE.out; rw [List.length_map] at this; exact this⟩⟩
                case measure => have := HIQ.out; simp [intOf]; omega
        · obtain rfl : q = 0 := by omega
          obtain rfl : ss = [] := List.eq_nil_of_length_eq_zero HL.out
          have HTS2 := Lib.hid (show Ts w1 w3 B g S 64 [] un from HTS.out)
          clear HTS HPK
          go_wp2_with fail
          refine Calls.mono (take_no w3 B g [] 0 HTS2.out.bo.bag (by decide)) ?_
          rintro e w4 ⟨rfl, hb⟩
          have T4 := Lib.hid (HTS2.out.below hb)
          clear hb HTS2
          obtain ⟨m2, hm2⟩ : ∃ m2, m2 = zeroM := ⟨_, rfl⟩
          rw [← hm2]
          clear hm2
          obtain ⟨V, hV⟩ : ∃ V, V = w4.alloc (.cells Vz.toArray 37) := ⟨_, rfl⟩
          obtain ⟨U, hU⟩ : ∃ U, U = V.setCells w4.heap.size 0 m2.cells := ⟨_, rfl⟩
          obtain ⟨u1, u2, u3⟩ := msg_new w4 m2 (show U = (w4.alloc (.cells Vz.toArray 37)).setCells w4.heap.size 0 m2.cells by rw [hU, hV])
          rw [← hV] at u3
          have HV := Lib.hid hV
          obtain ⟨gy, hgy⟩ : ∃ gy, gy = w4.heap.size := ⟨_, rfl⟩
          have HGYE := Lib.hid hgy
          rw [← hgy] at hU u3 u1
          have HU := Lib.hid hU
          have HT1 := Lib.hid u3
          have HY := Lib.hid u1
          have HUB := Lib.hid u2
          clear hU u1 u2 u3 hV hgy
          rename_i K1 hK1 K2 hK2
          refine hK2 _ _ ?_
          clear hK2 K2
          refine wpl_val (v := .tuple #[.agg m2.cells.toArray, .int .i64 61]) (w1 := w4) rfl (by go_simp) ({ tmps := #[_, _, _, _, _, _, _, _, _, _, _, _, _, _, _, _, _, _, _, _, _, _, _, _, _, _, _, _, _, _, _, _, _, _, _, _, _, _, _, _, _, _, _, _, _, _, _, _, _, _, _, _, _, _, _, _, _, _, _, _, _, _, _, _, _, _, _, _, _, _, _, _, _, _, _, _, _, _, _, _, _, _, _, _, _, _, _, _, _, _, _, _, _, _, _, _, _, _, _, _, _, _, _, _, _, _, _, _, _, _, _, _, _, _, _, _, _, _, _, _, .tuple #[.agg m2.cells.toArray, .int .i64 61], _, .tuple #[.agg m2.cells.toArray, .int .i64 61], _, _, _, _, _, _, _, _, _, _, _, _, _, _], defers := [] }) rfl ?_
          refine wpl_val (v := .agg m2.cells.toArray) (w1 := w4) rfl (by go_simp) ({ tmps := #[_, _, _, _, _, _, _, _, _, _, _, _, _, _, _, _, _, _, _, _, _, _, _, _, _, _, _, _, _, _, _, _, _, _, _, _, _, _, _, _, _, _, _, _, _, _, _, _, _, _, _, _, _, _, _, _, _, _, _, _, _, _, _, _, _, _, _, _, _, _, _, _, _, _, _, _, _, _, _, _, _, _, _, _, _, _, _, _, _, _, _, _, _, _, _, _, _, _, _, _, _, _, _, _, _, _, _, _, _, _, _, _, _, _, _, _, _, _, _, _, .tuple #[.agg m2.cells.toArray, .int .i64 61], _, .tuple #[.agg m2.cells.toArray, .int .i64 61], .agg m2.cells.toArray, _, _, _, _, _, _, _, _, _, _, _, _, _], defers := [] }) rfl ?_
          refine wpl_val (v := .int .i64 61) (w1 := w4) rfl (by go_simp) ({ tmps := #[_, _, _, _, _, _, _, _, _, _, _, _, _, _, _, _, _, _, _, _, _, _, _, _, _, _, _, _, _, _, _, _, _, _, _, _, _, _, _, _, _, _, _, _, _, _, _, _, _, _, _, _, _, _, _, _, _, _, _, _, _, _, _, _, _, _, _, _, _, _, _, _, _, _, _, _, _, _, _, _, _, _, _, _, _, _, _, _, _, _, _, _, _, _, _, _, _, _, _, _, _, _, _, _, _, _, _, _, _, _, _, _, _, _, _, _, _, _, _, _, .tuple #[.agg m2.cells.toArray, .int .i64 61], _, .tuple #[.agg m2.cells.toArray, .int .i64 61], .agg m2.cells.toArray, .int .i64 61, _, _, _, _, _, _, _, _, _, _, _, _], defers := [] }) rfl ?_
          refine wpl_val (v := .pointer (some ⟨gy, 0, none⟩)) (w1 := V) rfl (by have e1 := HV.out; simp only [Vz] at e1; rw [e1, HGYE.out]; go_simp) ({ tmps := #[_, _, _, _, _, _, _, _, _, _, _, _, _, _, _, _, _, _, _, .pointer (some ⟨gy, 0, none⟩), _, _, _, _, _, _, _, _, _, _, _, _, _, _, _, _, _, _, _, _, _, _, _, _, _, _, _, _, _, _, _, _, _, _, _, _, _, _, _, _, _, _, _, _, _, _, _, _, _, _, _, _, _, _, _, _, _, _, _, _, _, _, _, _, _, _, _, _, _, _, _, _, _, _, _, _, _, _, _, _, _, _, _, _, _, _, _, _, _, _, _, _, _, _, _, _, _, _, _, _, .tuple #[.agg m2.cells.toArray, .int .i64 61], _, .tuple #[.agg m2.cells.toArray, .int .i64 61], .agg m2.cells.toArray, .int .i64 61, _, _, _, _, _, _, _, _, _, _, _, _], defers := [] }) rfl ?_
          refine wpList_store_mid rfl 37 (.tmp 19) (.tmp 123) rfl gy 0 m2.cells.toArray rfl rfl HT1.out size37 (all_oneCell_toArray (Mg.one _)) ?_
          dsimp only
          rw [← HU.out]
          clear HU HT1 HV HGYE
          have T5 := Lib.hid (T4.out.below HUB.out)
          clear HY HUB T4
          go_wp2_with fail
          refine Calls.mono (drop_no U B g [] 0 T5.out.bo.bag (by decide)) ?_
          rintro e w5 ⟨rfl, rfl⟩
          go_wp2_with fail
          refine Calls.mono (double_no w5 B g [] 0 T5.out.bo.bag (by decide)) ?_
          rintro e w6 ⟨rfl, rfl⟩
          go_wp2_with fail
          go_ret
          exact ⟨rfl, HB1.out.trans (T5.out.bo.bel.mono HB1.out.size)⟩
theorem takes_any (n : Int) (ao : Option Addr) (cap : Nat) (l : List Int) (w : World) (n0 : 0 ≤ n) (n1 : n ≤ 255) (hby : ∀ y ∈ l, isByte y) (hb : Bytes w ao l) (ht : Tab w) :
    Calls Tryd.prog 6 #[.int .u8 n, .slice ao l.length cap] w fun e w' => e = .returned (.bool true) ∧ Below w.heap.size w w' := by
  cases ao with
  | some ad => exact takes_some n ad cap l w n0 n1 hby hb ht
  | none =>
    refine takes_none n cap l w n0 n1 ?_ ht
    rcases Nat.eq_zero_or_pos l.length with h | h
    · exact h
    · obtain ⟨_, e, _⟩ := hb 0 h
      cases e
end Go.Proofs.YtmkeckablkccnaaDoor
