/- NetDoubles: the walk. -/
import Derived.Test.YtmkeckablkccnaaDoorNd2
import Derived.BigQuiet
namespace Go.Proofs.YtmkeckablkccnaaDoor
open Go.RowKit
set_option maxRecDepth 100000

theorem row_ck {w : World} {gr n cap : Nat} {l : List Mg} {i : Nat} {x : Int} (h : Row w 25 Mg.cells (.slice (some ⟨gr, 0, none⟩) n cap) l) (hi : l[i]? = some (ckM x)) : w.cell? ⟨gr, 0 + i * 25, none⟩ = some (.int .u8 5) ∧ w.cell? ⟨gr, 0 + i * 25 + 5, none⟩ = some (.int .u32 x) := by
  obtain ⟨ao, c, e, _, _, _, h⟩ := h
  injection e with e1 e2 e3
  obtain ⟨b, off, e, hc⟩ := h i _ hi
  rw [e] at e1
  injection e1 with e1
  injection e1 with e1 e2
  subst e1 e2
  exact ⟨hc 0 _ rfl, hc 5 _ rfl⟩
theorem belN (w : World) (n : Nat) : Below w.heap.size w (w.drewN n) := ((Kept.refl (fun _ => False) w).drewN n).below (Nat.le_refl _) (fun _ h => h.elim)
set_option maxHeartbeats 8000000 in
theorem doubles_some (n : Int) (ad : Addr) (cap : Nat) (l : List Int) (w : World) (n0 : 0 ≤ n) (n1 : n ≤ 255) (hby : ∀ y ∈ l, isByte y) (hb : Bytes w (some ad) l) (ht : Tab w) :
    Calls Tryd.prog 7 #[.int .u8 n, .slice (some ad) l.length cap] w fun e w' => e = .returned (.bool true) ∧ Below w.heap.size w w' := by
  have HT := Lib.hid ht
  have HY := Lib.hid hb
  have HBY := Lib.hid hby
  obtain ⟨i0, hi0, hz0, hz1, hz2⟩ := info_parts info22
  have HI := Lib.hid hi0
  have HZ0 := Lib.hid hz0
  have HZ1 := Lib.hid hz1
  have HZ2 := Lib.hid hz2
  obtain ⟨k, hk⟩ : ∃ k : Nat, n % 20 = k := ⟨(n % 20).toNat, by omega⟩
  have hk5 : k < 20 := by omega
  clear ht hb hby hi0 hz0 hz1 hz2
  generalize hm : l.length = m at *
  have HM := Lib.hid hm
  clear hm
  go_enter Tryd.func7, Tryd.ntmps7
  go_wp2_with fail
  refine Calls.mono (known14 w HT.out) ?_
  rintro e w1 ⟨rfl, hb1⟩
  have HB1 := Lib.hid hb1
  clear hb1
  by_cases hm60 : 60 < m
  · go_wp2_with fail
    go_ret
    exact ⟨rfl, HB1.out⟩
  go_wp2_with fail
  refine Calls.mono (new15 w1) ?_
  rintro e w2 ⟨rfl, hb, hbl⟩
  have BO := Lib.hid (show Dbl w1 w2 w1.heap.size none (.slice none 0 0) (rng 0) (rng 0) from ⟨⟨hb, hbl, Nat.le_refl _, fun x e => by cases e⟩, World.ownsRow_nil _ _ _ _, fun k e => by cases e⟩)
  clear hb hbl
  obtain ⟨B, hB⟩ : ∃ B, B = w1.heap.size := ⟨_, rfl⟩
  rw [← hB] at BO ⊢
  have HTA := Lib.hid (show Tab w1 from Tab.on HT.out HB1.out)
  clear hB
  go_wp2_with fail
  have hn20 : n % 20 = (k : Int) := hk
  clear hk
  go_loopw [6, 7] (fun vm vi wr => ∃ j : Nat, j ≤ k + 1 ∧ vi = .int .i64 j ∧ ∃ a c g, vm = .slice a j c ∧ Hid (Dbl w1 wr B g (.slice a j c) (rng j) (rng j))) (fun _ i _ => k + 1 - (intOf i).toNat)
  case atStart => exact ⟨0, Nat.zero_le _, rfl, none, 0, none, rfl, Lib.hid BO.out⟩
  case round =>
    obtain ⟨j, hj, rfl, a, c, g, rfl, HJ⟩ := hrel
    clear BO
    by_cases hlt : j ≤ k
    · have hj20 : j < 20 := by omega
      have hw32 : (j : Int) % 4294967296 = j := by omega
      go_wp2_with fail
      refine Calls.mono (send16 wr B g ((rng j).map ckM) (ckM j) HJ.out.bo.bag (ckM_nil j) (HJ.out.bo.tab HTA.out)) ?_
      rintro e w4 ⟨r, g4, l', rfl, h1, h2, h3⟩
      obtain ⟨rfl, rfl⟩ : r = 0 ∧ l' = (rng (j + 1)).map ckM := by
        rcases h3 with ⟨e, _⟩ | ⟨_, ⟨e, _⟩ | ⟨_, e1, e2⟩⟩
        · rw [ckM_is hj20] at e; cases e
        · simp [rng_len] at e; omega
        · exact ⟨e1, by rw [e2, rng_succ]; simp⟩
      have D4 := Lib.hid (HJ.out.step h1 h2)
      clear h1 h2 h3 HJ
      have HX := Lib.hid (D4.out.below ((Below.refl w4.heap.size w4).alloc (Nat.le_refl _) (.cells #[.int .u32 (j : Int)] 22)))
      have HR1 := Lib.hid (row_u32 w4 j)
      have hjm : j ≤ 1000000 := by omega
      have HLN := Lib.hid (rng_len j)
      clear D4
      go_wp2_with (at_builtin
                   refine wpList_appR (fun x : Int => [Value.int .u32 x]) 1 66 22 4 i0 _ _ rfl (.tmp 31) (.tmp 34) rfl Tryd.underlying66 HI.out HZ0.out HZ1.out HZ2.out rfl (by decide) (by decide) (.slice a j c) j (us (rng j)) rfl (by have h := HX.out.own; rw [HLN.out] at h; exact h) (some ⟨w4.heap.size, 0, none⟩) 1 1 [(j : Int)] rfl HR1.out (fun x _ => rfl) (fun x _ u hu => by simp at hu; subst hu; rfl) hjm ?_
                   intro ao' cap' w' ho' hk' hg'
                   have hD := HX.out.grow (ys' := rng (j + 1)) (by rw [rng_succ]; simpa [us] using ho') hk' hg'
                   have HD := Lib.hid hD
                   clear ho' hk' hg' hD)
      go_round
      case rel => exact ⟨j + 1, by omega, by go_num, ao', cap', g4, rfl, HD⟩
      case measure => simp [intOf]; omega
    · go_wp2_with fail
      have HJ0 := Lib.hid (show Dbl w1 wr B g (.slice a j c) (rng j) (rng j) ∧ (rng j).length = j from ⟨HJ.out, rng_len _⟩)
      have hj20 : j ≤ 20 := by omega
      have hj1 : 1 ≤ j := by omega
      clear HJ hlt hj hn20 n0 n1
      generalize j = k1 at *
      go_loopw [6, 8] (fun vm vi wr => ∃ j : Nat, j ≤ m ∧ vi = .int .i64 j ∧ ∃ a c g q xs, vm = .slice a q c ∧ q = k1 + j ∧ Hid (Dbl w1 wr B g (.slice a q c) xs xs ∧ xs.length = q)) (fun _ i _ => m - (intOf i).toNat)
      case atStart => exact ⟨0, Nat.zero_le _, rfl, a, c, g, k1, _, rfl, rfl, HJ0⟩
      case round =>
        clear HJ0
        obtain ⟨j, hj, rfl, a, c, g, q, xs, rfl, hq, HJ⟩ := hrel
        by_cases hlt : j < m
        · obtain ⟨ad', had, hcell⟩ := HY.out j (by rw [HM.out]; exact hlt)
          obtain rfl : ad = ad' := Option.some.inj had
          clear had
          have hcell1 : wr.cell? (ad.add j) = some (.int .u8 (l.getD j 0)) := by
            have h1 := HB1.out.trans (HJ.out.1.bo.bel.mono HB1.out.size)
            rw [h1.cell (cell_block hcell)]; exact hcell
          have hyb : isByte (l.getD j 0) := HBY.out _ (by
            rw [List.getD_eq_getElem?_getD, List.getElem?_eq_getElem (by rw [HM.out]; exact hlt)]
            exact List.getElem_mem _)
          obtain ⟨y, hy⟩ : ∃ y, y = l.getD j 0 := ⟨_, rfl⟩
          rw [← hy] at hyb hcell1
          have y0 : 0 ≤ y := hyb.1
          have y1 : y ≤ 255 := hyb.2
          clear hcell hyb hy
          have hq0 : 0 < q := by omega
          have hqi : (q : Int) ≠ 0 := by omega
          obtain ⟨p, hp, hpq⟩ : ∃ p : Nat, y % (q : Int) = p ∧ p < q := ⟨(y % (q : Int)).toNat, by have := Int.emod_nonneg y hqi; omega, by have := Int.emod_lt_of_pos y (show (0 : Int) < q by omega); have := Int.emod_nonneg y hqi; omega⟩
          obtain ⟨x, hx⟩ : ∃ x, xs[p]? = some x := ⟨_, List.getElem?_eq_getElem (by rw [HJ.out.2]; exact hpq)⟩
          have HXP := Lib.hid hx
          have HMX := Lib.hid (show (xs.map ckM)[p]? = some (ckM x) by rw [List.getElem?_map, hx]; rfl)
          obtain ⟨b, cb, eb, hcb⟩ := HJ.out.1.at hx
          rw [HJ.out.2] at eb
          injection eb with eb1 eb2 eb3
          subst eb1 eb3
          clear hcb hx
          have HQ := Lib.hid hq
          have hq80 : q ≤ 80 := by omega
          clear hq
          go_wp2_with fail
          refine Calls.mono (double_yes wr B g (xs.map ckM) p (ckM x) HJ.out.1.bo.bag HMX.out) ?_
          rintro e w4 ⟨r, g4, l', rfl, h1, h2, h3⟩
          obtain ⟨rfl, rfl⟩ : r = 0 ∧ l' = (xs ++ [x]).map ckM := by
            rcases h3 with ⟨e, _⟩ | ⟨_, e1, e2⟩
            · have := HJ.out.2; simp at e; omega
            · exact ⟨e1, by rw [e2]; simp⟩
          have D4 := Lib.hid (HJ.out.1.step h1 h2)
          have HL := Lib.hid HJ.out.2
          clear h1 h2 h3 HJ hcell1
          obtain ⟨b', cb', eb, hcb⟩ := D4.out.at HXP.out
          rw [HL.out] at eb
          injection eb with eb1 eb2 eb3
          injection eb1 with eb1
          injection eb1 with eb1
          subst eb1 eb3
          have HX := Lib.hid (D4.out.below ((Below.refl w4.heap.size w4).alloc (Nat.le_refl _) (.cells #[.int .u32 x] 22)))
          have HR1 := Lib.hid (row_u32 w4 x)
          have hjm : q ≤ 1000000 := by omega
          clear D4
          go_wp2_with (at_builtin
                       refine wpList_appR (fun x : Int => [Value.int .u32 x]) 1 66 22 4 i0 _ _ rfl (.tmp 54) (.tmp 59) rfl Tryd.underlying66 HI.out HZ0.out HZ1.out HZ2.out rfl (by decide) (by decide) (.slice (some ⟨b, 0, none⟩) q _) q (us xs) rfl (by have h := HX.out.own; rw [HL.out] at h; exact h) (some ⟨w4.heap.size, 0, none⟩) 1 1 [x] rfl HR1.out (fun x _ => rfl) (fun x _ u hu => by simp at hu; subst hu; rfl) hjm ?_
                       intro ao' cap' w' ho' hk' hg'
                       have hD := HX.out.grow (ys' := xs ++ [x]) (by simpa [us] using ho') hk' hg'
                       have HD := Lib.hid hD
                       clear ho' hk' hg' hD)
          go_round
          case rel => exact ⟨j + 1, by omega, by go_num, ao', cap', g4, q + 1, xs ++ [x], rfl, by have := HQ.out; omega, Lib.hid ⟨HD.out, by simp [HL.out]⟩⟩
          case measure => simp [intOf]; omega
        · obtain rfl : j = m := by omega
          have HQ := Lib.hid hq
          have hq80 : q ≤ 80 := by omega
          clear hq
          have HL := Lib.hid HJ.out.2
          go_wp2_with fail
          refine Calls.mono (all24 wr B g (xs.map ckM) HJ.out.1.bo.bag) ?_
          rintro e w7 ⟨gr, rfl, hrow, hgr, hb⟩
          have D7 := Lib.hid (HJ.out.1.below hb)
          rw [List.length_map, HL.out] at hrow ⊢
          have HROW := Lib.hid hrow
          clear hrow hgr hb HJ
          go_wp2_with fail
          go_loopw [11] (fun vi wr => ∃ i : Nat, i ≤ q ∧ vi = .int .i64 i ∧ Hid (Dbl w1 wr B g (.slice a q c) xs xs ∧ Row wr 25 Mg.cells (.slice (some ⟨gr, 0, none⟩) q q) (xs.map ckM))) (fun i _ => q - (intOf i).toNat)
          case atStart => exact ⟨0, Nat.zero_le _, rfl, Lib.hid ⟨D7.out, HROW.out⟩⟩
          case round =>
            clear D7 HROW
            obtain ⟨i, hi, rfl, HJ⟩ := hrel
            have D7 := Lib.hid HJ.out.1
            have HROW := Lib.hid HJ.out.2
            clear HJ
            by_cases hiq : i < q
            · obtain ⟨x, hx⟩ : ∃ x, xs[i]? = some x := ⟨_, List.getElem?_eq_getElem (by rw [HL.out]; exact hiq)⟩
              obtain ⟨b, cb, eb, hcb⟩ := D7.out.at hx
              rw [HL.out] at eb
              injection eb with eb1 eb2 eb3
              subst eb1 eb3
              obtain ⟨hc0, hc5⟩ := row_ck HROW.out (show (xs.map ckM)[i]? = some (ckM x) by rw [List.getElem?_map, hx]; rfl)
              rw [Nat.zero_add] at hc0 hc5
              clear hx eb2
              go_upto_region 26 with fail
              go_quiet (fail)
              go_wp2_with fail
              go_round
              case rel => exact ⟨i + 1, by omega, by go_num, Lib.hid ⟨D7.out.below (belN _ _), HROW.out.below (belN _ _)⟩⟩
              case measure => simp [intOf]; omega
            · obtain rfl : i = q := by omega
              go_wp2_with fail
              go_ret
              exact ⟨rfl, HB1.out.trans (D7.out.bo.bel.mono HB1.out.size)⟩
set_option maxHeartbeats 8000000 in
theorem doubles_none (n : Int) (cap : Nat) (l : List Int) (w : World) (n0 : 0 ≤ n) (n1 : n ≤ 255) (hl0 : l.length = 0) (ht : Tab w) :
    Calls Tryd.prog 7 #[.int .u8 n, .slice none l.length cap] w fun e w' => e = .returned (.bool true) ∧ Below w.heap.size w w' := by
  have HT := Lib.hid ht
  have HM0 := Lib.hid hl0
  obtain ⟨i0, hi0, hz0, hz1, hz2⟩ := info_parts info22
  have HI := Lib.hid hi0
  have HZ0 := Lib.hid hz0
  have HZ1 := Lib.hid hz1
  have HZ2 := Lib.hid hz2
  obtain ⟨k, hk⟩ : ∃ k : Nat, n % 20 = k := ⟨(n % 20).toNat, by omega⟩
  have hk5 : k < 20 := by omega
  clear ht hl0 hi0 hz0 hz1 hz2
  generalize l.length = m at *
  go_enter Tryd.func7, Tryd.ntmps7
  go_wp2_with fail
  refine Calls.mono (known14 w HT.out) ?_
  rintro e w1 ⟨rfl, hb1⟩
  have HB1 := Lib.hid hb1
  clear hb1
  by_cases hm60 : 60 < m
  · go_wp2_with fail
    go_ret
    exact ⟨rfl, HB1.out⟩
  go_wp2_with fail
  refine Calls.mono (new15 w1) ?_
  rintro e w2 ⟨rfl, hb, hbl⟩
  have BO := Lib.hid (show Dbl w1 w2 w1.heap.size none (.slice none 0 0) (rng 0) (rng 0) from ⟨⟨hb, hbl, Nat.le_refl _, fun x e => by cases e⟩, World.ownsRow_nil _ _ _ _, fun k e => by cases e⟩)
  clear hb hbl
  obtain ⟨B, hB⟩ : ∃ B, B = w1.heap.size := ⟨_, rfl⟩
  rw [← hB] at BO ⊢
  have HTA := Lib.hid (show Tab w1 from Tab.on HT.out HB1.out)
  clear hB
  go_wp2_with fail
  have hn20 : n % 20 = (k : Int) := hk
  clear hk
  go_loopw [6, 7] (fun vm vi wr => ∃ j : Nat, j ≤ k + 1 ∧ vi = .int .i64 j ∧ ∃ a c g, vm = .slice a j c ∧ Hid (Dbl w1 wr B g (.slice a j c) (rng j) (rng j))) (fun _ i _ => k + 1 - (intOf i).toNat)
  case atStart => exact ⟨0, Nat.zero_le _, rfl, none, 0, none, rfl, Lib.hid BO.out⟩
  case round =>
    obtain ⟨j, hj, rfl, a, c, g, rfl, HJ⟩ := hrel
    clear BO
    by_cases hlt : j ≤ k
    · have hj20 : j < 20 := by omega
      have hw32 : (j : Int) % 4294967296 = j := by omega
      go_wp2_with fail
      refine Calls.mono (send16 wr B g ((rng j).map ckM) (ckM j) HJ.out.bo.bag (ckM_nil j) (HJ.out.bo.tab HTA.out)) ?_
      rintro e w4 ⟨r, g4, l', rfl, h1, h2, h3⟩
      obtain ⟨rfl, rfl⟩ : r = 0 ∧ l' = (rng (j + 1)).map ckM := by
        rcases h3 with ⟨e, _⟩ | ⟨_, ⟨e, _⟩ | ⟨_, e1, e2⟩⟩
        · rw [ckM_is hj20] at e; cases e
        · simp [rng_len] at e; omega
        · exact ⟨e1, by rw [e2, rng_succ]; simp⟩
      have D4 := Lib.hid (HJ.out.step h1 h2)
      clear h1 h2 h3 HJ
      have HX := Lib.hid (D4.out.below ((Below.refl w4.heap.size w4).alloc (Nat.le_refl _) (.cells #[.int .u32 (j : Int)] 22)))
      have HR1 := Lib.hid (row_u32 w4 j)
      have hjm : j ≤ 1000000 := by omega
      have HLN := Lib.hid (rng_len j)
      clear D4
      go_wp2_with (at_builtin
                   refine wpList_appR (fun x : Int => [Value.int .u32 x]) 1 66 22 4 i0 _ _ rfl (.tmp 31) (.tmp 34) rfl Tryd.underlying66 HI.out HZ0.out HZ1.out HZ2.out rfl (by decide) (by decide) (.slice a j c) j (us (rng j)) rfl (by have h := HX.out.own; rw [HLN.out] at h; exact h) (some ⟨w4.heap.size, 0, none⟩) 1 1 [(j : Int)] rfl HR1.out (fun x _ => rfl) (fun x _ u hu => by simp at hu; subst hu; rfl) hjm ?_
                   intro ao' cap' w' ho' hk' hg'
                   have hD := HX.out.grow (ys' := rng (j + 1)) (by rw [rng_succ]; simpa [us] using ho') hk' hg'
                   have HD := Lib.hid hD
                   clear ho' hk' hg' hD)
      go_round
      case rel => exact ⟨j + 1, by omega, by go_num, ao', cap', g4, rfl, HD⟩
      case measure => simp [intOf]; omega
    · go_wp2_with fail
      have HJ0 := Lib.hid (show Dbl w1 wr B g (.slice a j c) (rng j) (rng j) ∧ (rng j).length = j from ⟨HJ.out, rng_len _⟩)
      have hj20 : j ≤ 20 := by omega
      have hj1 : 1 ≤ j := by omega
      clear HJ hlt hj hn20 n0 n1
      generalize j = k1 at *
      go_loopw [6, 8] (fun vm vi wr => ∃ j : Nat, j ≤ m ∧ vi = .int .i64 j ∧ ∃ a c g q xs, vm = .slice a q c ∧ q = k1 + j ∧ Hid (Dbl w1 wr B g (.slice a q c) xs xs ∧ xs.length = q)) (fun _ i _ => m - (intOf i).toNat)
      case atStart => exact ⟨0, Nat.zero_le _, rfl, a, c, g, k1, _, rfl, rfl, HJ0⟩
      case round =>
        clear HJ0
        obtain ⟨j, hj, rfl, a, c, g, q, xs, rfl, hq, HJ⟩ := hrel
        by_cases hlt : j < m
        · have := HM0.out; omega
        · obtain rfl : j = m := by omega
          have HQ := Lib.hid hq
          have hq80 : q ≤ 80 := by omega
          clear hq
          have HL := Lib.hid HJ.out.2
          go_wp2_with fail
          refine Calls.mono (all24 wr B g (xs.map ckM) HJ.out.1.bo.bag) ?_
          rintro e w7 ⟨gr, rfl, hrow, hgr, hb⟩
          have D7 := Lib.hid (HJ.out.1.below hb)
          rw [List.length_map, HL.out] at hrow ⊢
          have HROW := Lib.hid hrow
          clear hrow hgr hb HJ
          go_wp2_with fail
          go_loopw [11] (fun vi wr => ∃ i : Nat, i ≤ q ∧ vi = .int .i64 i ∧ Hid (Dbl w1 wr B g (.slice a q c) xs xs ∧ Row wr 25 Mg.cells (.slice (some ⟨gr, 0, none⟩) q q) (xs.map ckM))) (fun i _ => q - (intOf i).toNat)
          case atStart => exact ⟨0, Nat.zero_le _, rfl, Lib.hid ⟨D7.out, HROW.out⟩⟩
          case round =>
            clear D7 HROW
            obtain ⟨i, hi, rfl, HJ⟩ := hrel
            have D7 := Lib.hid HJ.out.1
            have HROW := Lib.hid HJ.out.2
            clear HJ
            by_cases hiq : i < q
            · obtain ⟨x, hx⟩ : ∃ x, xs[i]? = some x := ⟨_, List.getElem?_eq_getElem (by rw [HL.out]; exact hiq)⟩
              obtain ⟨b, cb, eb, hcb⟩ := D7.out.at hx
              rw [HL.out] at eb
              injection eb with eb1 eb2 eb3
              subst eb1 eb3
              obtain ⟨hc0, hc5⟩ := row_ck HROW.out (show (xs.map ckM)[i]? = some (ckM x) by rw [List.getElem?_map, hx]; rfl)
              rw [Nat.zero_add] at hc0 hc5
              clear hx eb2
              go_upto_region 26 with fail
              go_quiet (fail)
              go_wp2_with fail
              go_round
              case rel => exact ⟨i + 1, by omega, by go_num, Lib.hid ⟨D7.out.below (belN _ _), HROW.out.below (belN _ _)⟩⟩
              case measure => simp [intOf]; omega
            · obtain rfl : i = q := by omega
              go_wp2_with fail
              go_ret
              exact ⟨rfl, HB1.out.trans (D7.out.bo.bel.mono HB1.out.size)⟩
theorem doubles_any (n : Int) (ao : Option Addr) (cap : Nat) (l : List Int) (w : World) (n0 : 0 ≤ n) (n1 : n ≤ 255) (hby : ∀ y ∈ l, isByte y) (hb : Bytes w ao l) (ht : Tab w) :
    Calls Tryd.prog 7 #[.int .u8 n, .slice ao l.length cap] w fun e w' => e = .returned (.bool true) ∧ Below w.heap.size w w' := by
  cases ao with
  | some ad => exact doubles_some n ad cap l w n0 n1 hby hb ht
  | none =>
    refine doubles_none n cap l w n0 n1 ?_ ht
    rcases Nat.eq_zero_or_pos l.length with h | h
    · exact h
    · obtain ⟨_, e, _⟩ := hb 0 h
      cases e
end Go.Proofs.YtmkeckablkccnaaDoor
