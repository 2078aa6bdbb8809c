/- NetFull: the walk. -/
import Derived.Test.YtmkeckablkccnaaDoorNc12
namespace Go.Proofs.YtmkeckablkccnaaDoor
open Go.RowKit
set_option maxRecDepth 100000

theorem qM_is (t : Int) (h : t = 1 ∨ t = 2 ∨ t = 3) : isM (qM t) Mc.nil = true := by
  rcases h with rfl | rfl | rfl
  · exact qM_is1
  · exact qM_is2
  · exact qM_is3

set_option maxHeartbeats 8000000 in
theorem full_any (n o : Int) (n0 : 0 ≤ n) (n1 : n ≤ 65535) (o0 : 0 ≤ o) (o1 : o ≤ 255) (w : World) (ht : Tab w) :
    Calls Tryd.prog 5 #[.int .u16 n, .int .u8 o] w fun e w' => e = .returned (.bool true) ∧ Below w.heap.size w w' := by
  have HT := Lib.hid ht
  obtain ⟨k, hk⟩ : ∃ k : Nat, n % 500 = k := ⟨(n % 500).toNat, by omega⟩
  have hk5 : k < 500 := by omega
  obtain ⟨p, hp⟩ : ∃ p : Nat, o = p := ⟨o.toNat, by omega⟩
  subst hp
  have hp5 : p ≤ 255 := by omega
  clear ht
  go_enter Tryd.func5, Tryd.ntmps5
  go_wp2_with fail
  refine Calls.mono (known14 w HT.out) ?_
  rintro e w1 ⟨rfl, hb1⟩
  have HB1 := Lib.hid hb1
  clear hb1
  go_wp2_with fail
  refine Calls.mono (new15 w1) ?_
  rintro e w2 ⟨rfl, hb, hbl⟩
  have BO := Lib.hid (show Bo w1 w2 w1.heap.size none [] from ⟨hb, hbl, Nat.le_refl _, fun x e => by cases e⟩)
  clear hb hbl
  obtain ⟨B, hB⟩ : ∃ B, B = w1.heap.size := ⟨_, rfl⟩
  rw [← hB] at BO ⊢
  have HTA := Lib.hid (show Tab w1 from Tab.on HT.out HB1.out)
  clear hB
  go_wp2_with fail
  clear hk n0 n1 o0 o1
  go_loopw [7] (fun vi wr => ∃ j : Nat, j ≤ k ∧ vi = .int .i64 j ∧ ∃ g l, Hid (Bo w1 wr B g l ∧ l.length = min j 400)) (fun i _ => k - (intOf i).toNat)
  case atStart => exact ⟨0, Nat.zero_le _, rfl, none, [], Lib.hid ⟨BO.out, by simp⟩⟩
  case round =>
    obtain ⟨j, hj, rfl, g, l, HJ⟩ := hrel
    clear BO
    by_cases hlt : j < k
    · go_wp2_with fail
      refine Calls.mono (query26 wr _) ?_
      rintro e w3 ⟨rfl, hb⟩
      have h3 : (j : Int) % 3 + 1 = 1 ∨ (j : Int) % 3 + 1 = 2 ∨ (j : Int) % 3 + 1 = 3 := by omega
      have HI := Lib.hid (qM_is _ h3)
      have B3 := Lib.hid (HJ.out.1.below hb)
      have HL := Lib.hid HJ.out.2
      clear hb h3 HJ
      obtain ⟨t, ht⟩ : ∃ t : Int, t = (j : Int) % 3 + 1 := ⟨_, rfl⟩
      rw [← ht] at HI ⊢
      clear ht
      go_wp2_with fail
      refine Calls.mono (send16 w3 B g l (qM t) B3.out.bag (qM_nil t) (B3.out.tab HTA.out)) ?_
      rintro e w4 ⟨r, g4, l', rfl, h1, h2, h3⟩
      have B4 := Lib.hid (B3.out.step h1 h2)
      clear h1 h2 B3
      have h3 : Ad (qM t) l r l' := by
        rcases h3 with ⟨e, _⟩ | ⟨_, e⟩
        · rw [HI.out] at e; cases e
        · exact e
      by_cases h4 : j < 400
      · obtain ⟨rfl, rfl⟩ : r = 0 ∧ l' = l ++ [qM t] := by
          rcases h3 with ⟨e, _⟩ | ⟨_, e1, e2⟩
          · have := HL.out; omega
          · exact ⟨e1, e2⟩
        clear h3
        go_wp2_with fail
        go_round
        case rel => exact ⟨j + 1, by omega, by go_num, g4, _, Lib.hid ⟨B4.out, by have := HL.out; simp; omega⟩⟩
        case measure => simp [intOf]; omega
      · obtain ⟨rfl, rfl⟩ : r = 60 ∧ l' = l := by
          rcases h3 with ⟨_, e1, e2⟩ | ⟨e, _⟩
          · exact ⟨e1, e2⟩
          · have := HL.out; omega
        clear h3
        go_wp2_with fail
        go_round
        case rel => exact ⟨j + 1, by omega, by go_num, g4, _, Lib.hid ⟨B4.out, by have := HL.out; omega⟩⟩
        case measure => simp [intOf]; omega
    · obtain rfl : j = k := by omega
      go_wp2_with fail
      obtain ⟨q0, hq0⟩ : ∃ q0 : Nat, min (j : Int) 400 = q0 := ⟨min j 400, by omega⟩
      have hqm : min j 400 = q0 := by omega
      rw [hq0]
      have HL := Lib.hid (HJ.out.2.trans hqm)
      have HJ1 := Lib.hid HJ.out.1
      have hq4 : q0 ≤ 400 := by omega
      clear HJ hq0 hqm hlt hj hk5
      go_loopw [6, 9] (fun vq vi wr => ∃ (i q : Nat), vq = .int .i64 q ∧ vi = .int .i64 i ∧ i ≤ p ∧ q ≤ 400 ∧ ∃ g l, Hid (Bo w1 wr B g l ∧ l.length = q)) (fun _ i _ => p - (intOf i).toNat)
      case atStart => exact ⟨0, q0, rfl, rfl, Nat.zero_le _, hq4, g, l, Lib.hid ⟨HJ1.out, HL.out⟩⟩
      case round =>
        clear HL HJ1 hq4
        obtain ⟨i, q, rfl, rfl, hi, hq, g, l, HJ⟩ := hrel
        by_cases hip : i < p
        · by_cases hq0 : 0 < q
          · have hdd : ∃ d : Nat, (p : Int) % (q : Int) = d ∧ d < q := ⟨p % q, rfl, Nat.mod_lt _ hq0⟩
            obtain ⟨d, hd, hdq⟩ := hdd
            obtain ⟨m, hm⟩ : ∃ m, l[0]? = some m := ⟨_, List.getElem?_eq_getElem (by have := HJ.out.2; omega)⟩
            have HM := Lib.hid hm
            clear hm
            have hq9 : (q : Int) ≠ 0 := by omega
            by_cases h4 : q = 400
            · subst h4
              go_wp2_with fail
              refine Calls.mono (double_yes _ B g l 0 m HJ.out.1.bag HM.out) ?_
              rintro e w4 ⟨r, g4, l', rfl, h1, h2, h3⟩
              have B4 := Lib.hid (HJ.out.1.step h1 h2)
              obtain ⟨rfl, rfl⟩ : r = 60 ∧ l' = l := by
                rcases h3 with ⟨_, e1, e2⟩ | ⟨e, _⟩
                · exact ⟨e1, e2⟩
                · have := HJ.out.2; omega
              have HL := Lib.hid HJ.out.2
              clear h1 h2 h3 HJ
              have hd2 : (p : Int) % 400 = d := hd
              clear hd
              go_wp2_with fail
              refine Calls.mono (drop_yes _ B g4 l' d B4.out.bag (by rw [HL.out]; exact hdq)) ?_
              rintro e w5 ⟨rfl, h1, h2⟩
              have B5 := Lib.hid (B4.out.step h1 h2)
              clear h1 h2
              go_wp2_with fail
              go_round
              case rel => exact ⟨i + 1, 400 - 1, by go_num, by go_num, by omega, by omega, g4, _, Lib.hid ⟨B5.out, by rw [List.length_eraseIdx_of_lt (by rw [HL.out]; exact hdq), HL.out]⟩⟩
              case measure => simp [intOf]; omega
            · have hne : (q : Int) ≠ 400 := by omega
              have HL := Lib.hid HJ.out.2
              go_wp2_with fail
              refine Calls.mono (drop_yes _ B g l d HJ.out.1.bag (by rw [HL.out]; exact hdq)) ?_
              rintro e w5 ⟨rfl, h1, h2⟩
              have B5 := Lib.hid (HJ.out.1.step h1 h2)
              clear h1 h2
              go_wp2_with fail
              go_round
              case rel => exact ⟨i + 1, q - 1, by go_num, by go_num, by omega, by omega, g, _, Lib.hid ⟨B5.out, by rw [List.length_eraseIdx_of_lt (by rw [HL.out]; exact hdq), HL.out]⟩⟩
              case measure => simp [intOf]; omega
          · obtain rfl : q = 0 := by omega
            have HL := Lib.hid HJ.out.2
            have B9 := Lib.hid HJ.out.1
            clear HJ
            go_wp2_with fail
            refine Calls.mono (len25 _ B g l B9.out.bag) ?_
            rintro e w6 ⟨rfl, rfl⟩
            rw [HL.out]
            go_wp2_with fail
            refine Calls.mono (all24 w6 B g l B9.out.bag) ?_
            rintro e w7 ⟨gr, rfl, _, _, hb⟩
            rw [HL.out]
            have HBB := Lib.hid (HB1.out.trans ((B9.out.bel.trans (hb.mono B9.out.bel.size)).mono HB1.out.size))
            clear hb
            go_wp2_with fail
            go_ret
            exact ⟨rfl, HBB.out⟩
        · skip
          have HL := Lib.hid HJ.out.2
          have B9 := Lib.hid HJ.out.1
          clear HJ
          go_wp2_with fail
          refine Calls.mono (len25 _ B g l B9.out.bag) ?_
          rintro e w6 ⟨rfl, rfl⟩
          rw [HL.out]
          go_wp2_with fail
          refine Calls.mono (all24 w6 B g l B9.out.bag) ?_
          rintro e w7 ⟨gr, rfl, _, _, hb⟩
          rw [HL.out]
          have HBB := Lib.hid (HB1.out.trans ((B9.out.bel.trans (hb.mono B9.out.bel.size)).mono HB1.out.size))
          clear hb
          go_wp2_with fail
          go_ret
          exact ⟨rfl, HBB.out⟩
end Go.Proofs.YtmkeckablkccnaaDoor
