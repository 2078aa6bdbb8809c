/- For every row of bytes and every row of things WireReads returns true and leaves its arguments as they were: no condition. -/
import Derived.Test.YthnebpbmhgmcmaaGet
import Derived.Below
namespace Go.Proofs.Ythnebpbmhgmcmaa.wireReads
open Go.ChangeShapes Go.WideShapes Go.ChangeAt Go.RowKit
set_option linter.unusedVariables false

theorem i64_and7 (n : Int) : 0 ≤ bits .and .i64 n 7 ∧ bits .and .i64 n 7 ≤ 7 := by
  have h7 : (BitVec.ofInt 64 7).toNat = 7 := by decide
  have key : (BitVec.ofInt 64 n &&& BitVec.ofInt 64 7).toNat ≤ 7 := by rw [BitVec.toNat_and, h7]; exact Nat.and_le_right
  show 0 ≤ IntKind.i64.wrap ((BitVec.ofInt 64 n &&& BitVec.ofInt 64 7).toNat : Nat) ∧ IntKind.i64.wrap ((BitVec.ofInt 64 n &&& BitVec.ofInt 64 7).toNat : Nat) ≤ 7
  rw [IntKind.wrap_i64]
  omega

theorem bytes_takeN {w : World} {ao : Option Addr} {l : List Int} (h : Bytes w ao l) (k : Nat) : Bytes w ao (l.take k) := by
  intro i hi
  simp only [List.length_take] at hi
  obtain ⟨ad, e, hc⟩ := h i (by omega)
  exact ⟨ad, e, by rw [hc, getD_take l k i (by omega)]⟩

theorem bytes_behind {w : World} {b off : Nat} {l : List Int} (hB : Bytes w (some ⟨b, off, none⟩) l) (n : Nat) : Bytes w (some ⟨b, off + n, none⟩) (l.drop n) := by
  intro i hi
  rw [List.length_drop] at hi
  refine ⟨_, rfl, ?_⟩
  obtain ⟨g', off', e, hcell⟩ := bytes_at hB (by omega)
  injection e with e
  injection e with e1 e2 e3
  subst e1 e2
  have h := hcell (n + i) (by omega)
  have hadd : (⟨b, off + n, none⟩ : Addr).add i = ⟨b, off + (n + i), none⟩ := by unfold Addr.add; split <;> simp_all <;> omega
  rw [hadd, h]
  simp [List.getD_eq_getElem?_getD]

theorem bytes_gone {w : World} {ao : Option Addr} {l : List Int} {n : Nat} (h : l.length ≤ n) : Bytes w ao (l.drop n) := by
  intro i hi
  rw [List.length_drop] at hi
  omega

theorem new_below {H : Nat} {w w' : World} {ao : Option Addr} {c : Nat} {l : List Int} (h : New H w ao c l) (hk : Below w.heap.size w w') : New H w' ao c l :=
  ⟨own_kept h.1 (Kept.ofBelow (S := fun _ => False) hk) (fun _ _ h => h), h.2⟩

set_option maxRecDepth 100000 in
set_option maxHeartbeats 8000000 in
theorem core (a0 : Option Addr) (cap0 : Nat) (l0 : List Int) (a1 : Option Addr) (cap1 : Nat) (its : List It) (w : World) (hb : Bytes w a0 l0) (hby : ∀ x ∈ l0, isByte x) (hcap : l0.length ≤ cap0) (hnone : a0 = none → cap0 = 0) (hi : Items w a1 its) (h3 : its.length ≤ 40) (h4 : l0.length ≤ 400) :
    Calls Try.prog 4 #[.slice a0 l0.length cap0, .slice a1 its.length cap1] w fun e w' => e = .returned (.bool true) ∧ Below w.heap.size w w' := by
  have HB := Lib.hid hb
  have HY := Lib.hid hby
  have HC := Lib.hid hcap
  have HN := Lib.hid hnone
  have HI := Lib.hid hi
  clear hb hby hcap hnone hi
  generalize hm : its.length = m at *
  have HM := Lib.hid hm
  generalize hn0 : l0.length = n0 at *
  have HN0 := Lib.hid hn0
  clear hm hn0
  have t1 : decide ((400 : Int) < (n0 : Int)) = false := decide_eq_false (by omega)
  have t2 : decide ((40 : Int) < (m : Int)) = false := decide_eq_false (by omega)
  go_enter Try.func4, Try.ntmps4
  go_wp2_with fail
  refine (known_any w).mono ?_
  rintro e w1 ⟨rfl, k1⟩
  have K1 := Lib.hid k1
  have HB1 := Lib.hid (bytes_below HB.out k1 (Nat.le_refl _))
  clear k1
  go_wp2_with (at_builtin
               refine wpList_app _ rfl (.const (.slice none 0 0)) (.tmp 35) rfl (.slice none 0 0) 0 [] rfl ⟨rfl, .inl ⟨rfl, rfl⟩⟩ a0 n0 cap0 l0 rfl HN0.out HB1.out (fun e => ⟨by have := HN.out e; have := HC.out; omega, HN.out e⟩) (by omega) ?_
               intro ao2 c2 w2 ho2 hk2 hg2
               rw [Nat.zero_add] at ho2 hg2 ⊢
               rw [List.nil_append] at ho2
               have HO2 := Lib.hid ho2
               have HK2 := Lib.hid hk2
               clear ho2 hk2 hg2)
  have hb2 := K1.out.trans ((HK2.out.below (Nat.le_refl _) (fun k e => by cases e)).mono K1.out.size)
  have hnn2 : ao2 = none → l0 = [] ∧ c2 = 0 := by
    intro e; subst e
    obtain ⟨ao', c', e, h⟩ := own_form HO2.out
    injection e with e1 e2 e3
    subst e1 e3
    obtain ⟨q1, q2⟩ := h rfl
    exact ⟨List.eq_nil_of_length_eq_zero (by rw [HN0.out]; exact q1), q2⟩
  have O0 := open_own w.heap.size w w2 ao2 c2 l0 hb2 (by have := hb2.size; omega) (own_bytes HO2.out) hnn2 (by rw [HN0.out]; omega) HY.out
  rw [HN0.out] at O0
  have O := Lib.hid O0
  clear hb2 hnn2 O0
  go_wp2_with fail
  refine O.out.mono ?_
  rintro e w3 ⟨R, rfl, r3⟩
  have R3 := Lib.hid r3
  clear r3
  have hnil : ∀ w, (convert 26 9 (.slice none 0 0)).run Try.prog w = .ok (.string ByteArray.empty) w := fun w => run_convert_bytes_nil w 26 5 Try.underlying26 Try.underlying5 0 0 9 Try.underlying9
  go_wp2_with fail
  go_loopw [6, 7] (fun vl vi wr => ∃ (j n lc : Nat) (la : Option Addr) (l : List Int), j ≤ m ∧ vi = .int .i64 j ∧ vl = .slice la n lc ∧ l.length = n ∧ n ≤ 400 ∧ n ≤ lc ∧ (la = none → lc = 0) ∧ Bytes w la l ∧ (∀ x ∈ l, isByte x) ∧ Lft w.heap.size w wr R l) (fun _ i _ => m - (intOf i).toNat)
  case atStart => exact ⟨0, n0, cap0, a0, l0, by omega, rfl, rfl, HN0.out, by omega, HC.out, HN.out, HB.out, HY.out, R3.out⟩
  case round =>
    obtain ⟨j, n, lc, la, l, hj, rfl, rfl, hn, hn4, hlc, hln, hlb, hly, hL⟩ := hrel
    have HLN := Lib.hid hn
    have HLB := Lib.hid hlb
    have HLY := Lib.hid hly
    have HL := Lib.hid hL
    have HLO := Lib.hid hln
    clear hn hlb hly hL hln
    by_cases hlt : j < m
    · obtain ⟨b1, off1, rfl, hx⟩ := HI.out j (by rw [HM.out]; exact hlt)
      have hx' := hx.below HL.out.2.1
      obtain ⟨x, hxe⟩ : ∃ x, x = its[j]'(by rw [HM.out]; exact hlt) := ⟨_, rfl⟩
      rw [← hxe] at hx hx'
      have q0 := hx'.c0
      have q3 := hx'.c3
      have q3' := Lib.hid hx.c3
      have hmost := hx.most
      have hb1 : b1 < w.heap.size := cell_block hx.c3
      obtain ⟨what, N, bo, bs, bcap, most⟩ := x
      simp only at q0 q3 q3' hmost
      clear hx hx' hxe
      by_cases e0 : bits .and .i64 what 7 = 0
      · by_cases hsh : n < 1
        · have U := Lib.hid (r8_short wr R l HL.out.1 (by rw [HLN.out]; exact hsh))
          have E0 := left_any wr R l HL.out.1
          rw [HLN.out] at E0
          have E := Lib.hid E0
          clear E0
          go_wp2_with fail
          refine U.out.mono ?_
          rintro e w7 ⟨rfl, rfl⟩
          go_wp2_with fail
          refine E.out.mono ?_
          rintro e w8 ⟨rfl, rfl⟩
          go_wp2_with fail
          exact ⟨⟨j + 1, n, lc, la, l, by omega, by go_num, rfl, HLN.out, hn4, hlc, HLO.out, HLB.out, HLY.out, HL.out⟩, by simp [intOf]; omega⟩
        · obtain ⟨v, hv⟩ : ∃ v, v = l.getD 0 0 := ⟨_, rfl⟩
          have hvr : 0 ≤ v ∧ v ≤ 255 := by
            have := num_range l HLY.out 1 (by rw [HLN.out]; omega)
            rw [num_one, ← hv] at this
            omega
          obtain ⟨hv0, hv1⟩ := hvr
          have U0 := r8_any wr R l HL.out.1 (by rw [HLN.out]; omega) (by rw [HLN.out]; omega)
          rw [← hv] at U0
          have U := Lib.hid U0
          have HV := Lib.hid hv
          obtain ⟨b, off, rfl, -⟩ := bytes_at HLB.out (by rw [HLN.out]; omega)
          obtain ⟨A, hA, hAB⟩ := bytes_drop (n := 1) HLB.out (by rw [HLN.out]; exact hlc)
          have HAB := Lib.hid hAB
          clear U0 hv hAB
          go_wp2_with fail
          refine U.out.mono ?_
          rintro e w7 ⟨rfl, r7, k7⟩
          have l7 := HL.out.step r7 k7
          have G0 := get_law w7 b off n l lc 1 HLN.out (bytes_below HLB.out l7.2.1 (Nat.le_refl _)) HLY.out (by omega) (by omega) hlc (by omega)
          rw [num_one, ← HV.out] at G0
          have G := Lib.hid G0
          have L7 := Lib.hid l7
          clear r7 k7 l7 G0
          go_wp2_with fail
          refine G.out.mono ?_
          rintro e w8 ⟨rfl, k8⟩
          have l8 := L7.out.below k8
          have E0 := left_any w8 R _ l8.1
          rw [List.length_drop, HLN.out] at E0
          have E := Lib.hid E0
          have L8 := Lib.hid l8
          clear k8 l8 E0
          go_wp2_with fail
          refine E.out.mono ?_
          rintro e w9 ⟨rfl, rfl⟩
          go_wp2_with fail
          exact ⟨⟨j + 1, n - 1, lc - 1, some A, l.drop 1, by omega, by go_num, rfl, by rw [List.length_drop, HLN.out], by omega, by omega, (fun e => by cases e), HAB.out, fun x hx => HLY.out x (List.mem_of_mem_drop hx), L8.out⟩, by simp [intOf]; omega⟩
      · by_cases e1 : bits .and .i64 what 7 = 1
        · by_cases hsh : n < 2
          · have U := Lib.hid (r16_short wr R l HL.out.1 (by rw [HLN.out]; exact hsh))
            have E0 := left_any wr R l HL.out.1
            rw [HLN.out] at E0
            have E := Lib.hid E0
            clear E0
            go_wp2_with fail
            refine U.out.mono ?_
            rintro e w7 ⟨rfl, rfl⟩
            go_wp2_with fail
            refine E.out.mono ?_
            rintro e w8 ⟨rfl, rfl⟩
            go_wp2_with fail
            exact ⟨⟨j + 1, n, lc, la, l, by omega, by go_num, rfl, HLN.out, hn4, hlc, HLO.out, HLB.out, HLY.out, HL.out⟩, by simp [intOf]; omega⟩
          · obtain ⟨v, hv⟩ : ∃ v, v = rd16 l := ⟨_, rfl⟩
            have hvr : 0 ≤ v ∧ v ≤ 65535 := by
              have := num_range l HLY.out 2 (by rw [HLN.out]; omega)
              rw [num_two, ← hv] at this
              omega
            obtain ⟨hv0, hv1⟩ := hvr
            have U0 := r16_any wr R l HL.out.1 (by rw [HLN.out]; omega) (by rw [HLN.out]; omega)
            rw [← hv] at U0
            have U := Lib.hid U0
            have HV := Lib.hid hv
            obtain ⟨b, off, rfl, -⟩ := bytes_at HLB.out (by rw [HLN.out]; omega)
            obtain ⟨A, hA, hAB⟩ := bytes_drop (n := 2) HLB.out (by rw [HLN.out]; exact hlc)
            have HAB := Lib.hid hAB
            clear U0 hv hAB
            go_wp2_with fail
            refine U.out.mono ?_
            rintro e w7 ⟨rfl, r7, k7⟩
            have l7 := HL.out.step r7 k7
            have G0 := get_law w7 b off n l lc 2 HLN.out (bytes_below HLB.out l7.2.1 (Nat.le_refl _)) HLY.out (by omega) (by omega) hlc (by omega)
            rw [num_two, ← HV.out] at G0
            have G := Lib.hid G0
            have L7 := Lib.hid l7
            clear r7 k7 l7 G0
            go_wp2_with fail
            refine G.out.mono ?_
            rintro e w8 ⟨rfl, k8⟩
            have l8 := L7.out.below k8
            have E0 := left_any w8 R _ l8.1
            rw [List.length_drop, HLN.out] at E0
            have E := Lib.hid E0
            have L8 := Lib.hid l8
            clear k8 l8 E0
            go_wp2_with fail
            refine E.out.mono ?_
            rintro e w9 ⟨rfl, rfl⟩
            go_wp2_with fail
            exact ⟨⟨j + 1, n - 2, lc - 2, some A, l.drop 2, by omega, by go_num, rfl, by rw [List.length_drop, HLN.out], by omega, by omega, (fun e => by cases e), HAB.out, fun x hx => HLY.out x (List.mem_of_mem_drop hx), L8.out⟩, by simp [intOf]; omega⟩
        · by_cases e2 : bits .and .i64 what 7 = 2
          · by_cases hsh : n < 4
            · have U := Lib.hid (r32_short wr R l HL.out.1 (by rw [HLN.out]; exact hsh))
              have E0 := left_any wr R l HL.out.1
              rw [HLN.out] at E0
              have E := Lib.hid E0
              clear E0
              go_wp2_with fail
              refine U.out.mono ?_
              rintro e w7 ⟨rfl, rfl⟩
              go_wp2_with fail
              refine E.out.mono ?_
              rintro e w8 ⟨rfl, rfl⟩
              go_wp2_with fail
              exact ⟨⟨j + 1, n, lc, la, l, by omega, by go_num, rfl, HLN.out, hn4, hlc, HLO.out, HLB.out, HLY.out, HL.out⟩, by simp [intOf]; omega⟩
            · obtain ⟨v, hv⟩ : ∃ v, v = rd32 l := ⟨_, rfl⟩
              have hvr : 0 ≤ v ∧ v ≤ 4294967295 := by
                have := num_range l HLY.out 4 (by rw [HLN.out]; omega)
                rw [num_four, ← hv] at this
                omega
              obtain ⟨hv0, hv1⟩ := hvr
              have U0 := r32_any wr R l HL.out.1 (by rw [HLN.out]; omega) (by rw [HLN.out]; omega)
              rw [← hv] at U0
              have U := Lib.hid U0
              have HV := Lib.hid hv
              obtain ⟨b, off, rfl, -⟩ := bytes_at HLB.out (by rw [HLN.out]; omega)
              obtain ⟨A, hA, hAB⟩ := bytes_drop (n := 4) HLB.out (by rw [HLN.out]; exact hlc)
              have HAB := Lib.hid hAB
              clear U0 hv hAB
              go_wp2_with fail
              refine U.out.mono ?_
              rintro e w7 ⟨rfl, r7, k7⟩
              have l7 := HL.out.step r7 k7
              have G0 := get_law w7 b off n l lc 4 HLN.out (bytes_below HLB.out l7.2.1 (Nat.le_refl _)) HLY.out (by omega) (by omega) hlc (by omega)
              rw [num_four, ← HV.out] at G0
              have G := Lib.hid G0
              have L7 := Lib.hid l7
              clear r7 k7 l7 G0
              go_wp2_with fail
              refine G.out.mono ?_
              rintro e w8 ⟨rfl, k8⟩
              have l8 := L7.out.below k8
              have E0 := left_any w8 R _ l8.1
              rw [List.length_drop, HLN.out] at E0
              have E := Lib.hid E0
              have L8 := Lib.hid l8
              clear k8 l8 E0
              go_wp2_with fail
              refine E.out.mono ?_
              rintro e w9 ⟨rfl, rfl⟩
              go_wp2_with fail
              exact ⟨⟨j + 1, n - 4, lc - 4, some A, l.drop 4, by omega, by go_num, rfl, by rw [List.length_drop, HLN.out], by omega, by omega, (fun e => by cases e), HAB.out, fun x hx => HLY.out x (List.mem_of_mem_drop hx), L8.out⟩, by simp [intOf]; omega⟩
          · by_cases e3 : bits .and .i64 what 7 = 3
            · by_cases hsh : n < 8
              · have U := Lib.hid (r64_short wr R l HL.out.1 (by rw [HLN.out]; exact hsh))
                have E0 := left_any wr R l HL.out.1
                rw [HLN.out] at E0
                have E := Lib.hid E0
                clear E0
                go_wp2_with fail
                refine U.out.mono ?_
                rintro e w7 ⟨rfl, rfl⟩
                go_wp2_with fail
                refine E.out.mono ?_
                rintro e w8 ⟨rfl, rfl⟩
                go_wp2_with fail
                exact ⟨⟨j + 1, n, lc, la, l, by omega, by go_num, rfl, HLN.out, hn4, hlc, HLO.out, HLB.out, HLY.out, HL.out⟩, by simp [intOf]; omega⟩
              · obtain ⟨v, hv⟩ : ∃ v, v = rd64 l := ⟨_, rfl⟩
                have hvr : 0 ≤ v ∧ v ≤ 18446744073709551615 := by
                  have := num_range l HLY.out 8 (by rw [HLN.out]; omega)
                  rw [num_eight, ← hv] at this
                  omega
                obtain ⟨hv0, hv1⟩ := hvr
                have U0 := r64_any wr R l HL.out.1 (by rw [HLN.out]; omega) (by rw [HLN.out]; omega)
                rw [← hv] at U0
                have U := Lib.hid U0
                have HV := Lib.hid hv
                obtain ⟨b, off, rfl, -⟩ := bytes_at HLB.out (by rw [HLN.out]; omega)
                obtain ⟨A, hA, hAB⟩ := bytes_drop (n := 8) HLB.out (by rw [HLN.out]; exact hlc)
                have HAB := Lib.hid hAB
                clear U0 hv hAB
                go_wp2_with fail
                refine U.out.mono ?_
                rintro e w7 ⟨rfl, r7, k7⟩
                have l7 := HL.out.step r7 k7
                have G0 := get_law w7 b off n l lc 8 HLN.out (bytes_below HLB.out l7.2.1 (Nat.le_refl _)) HLY.out (by omega) (by omega) hlc (by omega)
                rw [num_eight, ← HV.out] at G0
                have G := Lib.hid G0
                have L7 := Lib.hid l7
                clear r7 k7 l7 G0
                go_wp2_with fail
                refine G.out.mono ?_
                rintro e w8 ⟨rfl, k8⟩
                have l8 := L7.out.below k8
                have E0 := left_any w8 R _ l8.1
                rw [List.length_drop, HLN.out] at E0
                have E := Lib.hid E0
                have L8 := Lib.hid l8
                clear k8 l8 E0
                go_wp2_with fail
                refine E.out.mono ?_
                rintro e w9 ⟨rfl, rfl⟩
                go_wp2_with fail
                exact ⟨⟨j + 1, n - 8, lc - 8, some A, l.drop 8, by omega, by go_num, rfl, by rw [List.length_drop, HLN.out], by omega, by omega, (fun e => by cases e), HAB.out, fun x hx => HLY.out x (List.mem_of_mem_drop hx), L8.out⟩, by simp [intOf]; omega⟩
            · have hr := i64_and7 what
              obtain ⟨K, hK⟩ : ∃ K, bits BinOp.and IntKind.i64 what 7 = K := ⟨_, rfl⟩
              rw [hK] at e0 e1 e2 e3 hr
              have hK4 : 4 ≤ K := by omega
              have f0 : (K == 0) = false := by simpa using e0
              have f1 : (K == 1) = false := by simpa using e1
              have f2 : (K == 2) = false := by simpa using e2
              have f3 : (K == 3) = false := by simpa using e3
              have f4 : decide (3 < K) = true := decide_eq_true (by omega)
              have f5 : decide (K ≤ 3) = false := decide_eq_false (by omega)
              clear e0 e1 e2 e3 hr
              by_cases hsh : n < 2
              · have U := Lib.hid (rb_short wr R l most HL.out.1 (by rw [HLN.out]; exact hsh))
                have E0 := left_any wr R l HL.out.1
                rw [HLN.out] at E0
                have E := Lib.hid E0
                clear E0
                go_wp2_with fail
                refine U.out.mono ?_
                rintro e w7 ⟨rfl, rfl⟩
                go_wp2_with fail
                refine E.out.mono ?_
                rintro e w8 ⟨rfl, rfl⟩
                go_wp2_with fail
                exact ⟨⟨j + 1, n, lc, la, l, by omega, by go_num, rfl, HLN.out, hn4, hlc, HLO.out, HLB.out, HLY.out, HL.out⟩, by simp [intOf]; omega⟩
              · have hvr := rd16_range HL.out.1 (by rw [HLN.out]; omega)
                obtain ⟨kb, hkb⟩ : ∃ kb : Nat, rd16 l = (kb : Int) := ⟨(rd16 l).toNat, by omega⟩
                have hkr : kb ≤ 65535 := by omega
                obtain ⟨b, off, rfl, -⟩ := bytes_at HLB.out (by rw [HLN.out]; omega)
                have HV := Lib.hid hkb
                clear hvr hkb
                by_cases hlong : most < (kb : Int)
                · have U := Lib.hid (rb_long wr R l most HL.out.1 (by rw [HLN.out]; omega) (by rw [HLN.out]; omega) kb HV.out hlong)
                  by_cases hneg : most < 0
                  · go_wp2_with fail
                    refine U.out.mono ?_
                    rintro e w7 ⟨rfl, q, hq⟩
                    have l7 := HL.out.drewN q
                    rw [← hq] at l7
                    have G0 := get_law w7 b off n l lc 2 HLN.out (bytes_below HLB.out l7.2.1 (Nat.le_refl _)) HLY.out (by omega) (by omega) hlc (by omega)
                    rw [num_two, HV.out] at G0
                    have G := Lib.hid G0
                    have L7 := Lib.hid l7
                    clear hq l7 G0
                    go_wp2_with fail
                    refine G.out.mono ?_
                    rintro e w8 ⟨rfl, k8⟩
                    have l8 := L7.out.below k8
                    have q3b := (l8.2.1.cell hb1).trans q3'.out
                    have E0 := left_any w8 R _ l8.1
                    rw [HLN.out] at E0
                    have E := Lib.hid E0
                    have L8 := Lib.hid l8
                    clear k8 l8 E0
                    go_wp2_with fail
                    refine E.out.mono ?_
                    rintro e w9 ⟨rfl, rfl⟩
                    go_wp2_with fail
                    exact ⟨⟨j + 1, n, lc, some ⟨b, off, none⟩, l, by omega, by go_num, rfl, HLN.out, hn4, hlc, (fun e => by cases e), HLB.out, HLY.out, L8.out⟩, by simp [intOf]; omega⟩
                  · go_wp2_with fail
                    refine U.out.mono ?_
                    rintro e w7 ⟨rfl, q, hq⟩
                    have l7 := HL.out.drewN q
                    rw [← hq] at l7
                    have G0 := get_law w7 b off n l lc 2 HLN.out (bytes_below HLB.out l7.2.1 (Nat.le_refl _)) HLY.out (by omega) (by omega) hlc (by omega)
                    rw [num_two, HV.out] at G0
                    have G := Lib.hid G0
                    have L7 := Lib.hid l7
                    clear hq l7 G0
                    go_wp2_with fail
                    refine G.out.mono ?_
                    rintro e w8 ⟨rfl, k8⟩
                    have l8 := L7.out.below k8
                    have q3b := (l8.2.1.cell hb1).trans q3'.out
                    have E0 := left_any w8 R _ l8.1
                    rw [HLN.out] at E0
                    have E := Lib.hid E0
                    have L8 := Lib.hid l8
                    clear k8 l8 E0
                    go_wp2_with fail
                    refine E.out.mono ?_
                    rintro e w9 ⟨rfl, rfl⟩
                    go_wp2_with fail
                    exact ⟨⟨j + 1, n, lc, some ⟨b, off, none⟩, l, by omega, by go_num, rfl, HLN.out, hn4, hlc, (fun e => by cases e), HLB.out, HLY.out, L8.out⟩, by simp [intOf]; omega⟩
                · by_cases hcut : n < 2 + kb
                  · have U := Lib.hid (rb_cut wr R l most HL.out.1 (by rw [HLN.out]; omega) (by rw [HLN.out]; omega) kb HV.out (by omega) (by rw [HLN.out]; omega))
                    have hpos : 0 ≤ most := by omega
                    go_wp2_with fail
                    refine U.out.mono ?_
                    rintro e w7 ⟨rfl, q, hq⟩
                    have l7 := HL.out.drewN q
                    rw [← hq] at l7
                    have G0 := get_law w7 b off n l lc 2 HLN.out (bytes_below HLB.out l7.2.1 (Nat.le_refl _)) HLY.out (by omega) (by omega) hlc (by omega)
                    rw [num_two, HV.out] at G0
                    have G := Lib.hid G0
                    have L7 := Lib.hid l7
                    clear hq l7 G0
                    go_wp2_with fail
                    refine G.out.mono ?_
                    rintro e w8 ⟨rfl, k8⟩
                    have l8 := L7.out.below k8
                    have q3b := (l8.2.1.cell hb1).trans q3'.out
                    have E0 := left_any w8 R _ l8.1
                    rw [HLN.out] at E0
                    have E := Lib.hid E0
                    have L8 := Lib.hid l8
                    clear k8 l8 E0
                    go_wp2_with fail
                    refine E.out.mono ?_
                    rintro e w9 ⟨rfl, rfl⟩
                    go_wp2_with fail
                    exact ⟨⟨j + 1, n, lc, some ⟨b, off, none⟩, l, by omega, by go_num, rfl, HLN.out, hn4, hlc, (fun e => by cases e), HLB.out, HLY.out, L8.out⟩, by simp [intOf]; omega⟩
                  · have U := Lib.hid (rb_any wr R l most HL.out.1 (by rw [HLN.out]; omega) (by rw [HLN.out]; omega) kb HV.out (by omega) (by rw [HLN.out]; omega))
                    have hpos : 0 ≤ most := by omega
                    obtain ⟨A2, hA2, hAB2⟩ := bytes_drop (n := 2) HLB.out (by rw [HLN.out]; exact hlc)
                    have hAB := bytes_behind HLB.out (2 + kb)
                    have HAB2 := Lib.hid (bytes_takeN hAB2 kb)
                    have HAB := Lib.hid hAB
                    have hlen : ((l.drop 2).take kb).length = kb := by rw [List.length_take, List.length_drop, HLN.out]; omega
                    have HLEN := Lib.hid hlen
                    clear hAB2 hAB hlen
                    go_wp2_with fail
                    refine U.out.mono ?_
                    rintro e w7 ⟨ao7, c7, rfl, n7, r7, k7⟩
                    have l7 := HL.out.step r7 k7
                    have G0 := get_law w7 b off n l lc 2 HLN.out (bytes_below HLB.out l7.2.1 (Nat.le_refl _)) HLY.out (by omega) (by omega) hlc (by omega)
                    rw [num_two, HV.out] at G0
                    have G := Lib.hid G0
                    have L7 := Lib.hid l7
                    have N7 := Lib.hid n7
                    clear r7 k7 l7 n7 G0
                    go_wp2_with fail
                    refine G.out.mono ?_
                    rintro e w8 ⟨rfl, k8⟩
                    have l8 := L7.out.below k8
                    have q3b := (l8.2.1.cell hb1).trans q3'.out
                    have hs1 := str_new (new_below N7.out k8)
                    have hs2 := str_bytes (c := lc - 2) (bytes_below HAB2.out l8.2.1 (Nat.le_refl _)) (fun e => by cases e)
                    rw [HLEN.out] at hs1 hs2
                    have E0 := left_any w8 R _ l8.1
                    rw [List.length_drop, HLN.out] at E0
                    have E := Lib.hid E0
                    have L8 := Lib.hid l8
                    clear k8 l8 E0
                    go_wp2_with fail
                    all_goals
                      refine E.out.mono ?_
                      rintro e w9 ⟨rfl, rfl⟩
                      go_wp2_with fail
                      first
                        | exact ⟨⟨j + 1, n - (2 + kb), lc - (2 + kb), some ⟨b, off + (2 + kb), none⟩, l.drop (2 + kb), by omega, by go_num, rfl, by rw [List.length_drop, HLN.out], by omega, by omega, (fun e => by cases e), HAB.out, fun x hx => HLY.out x (List.mem_of_mem_drop hx), L8.out⟩, by simp [intOf]; omega⟩
                        | exact ⟨⟨j + 1, n - (2 + kb), 0, some ⟨b, off, none⟩, l.drop (2 + kb), by omega, by go_num, rfl, by rw [List.length_drop, HLN.out], by omega, by omega, (fun e => by cases e), bytes_gone (by rw [HLN.out]; omega), fun x hx => HLY.out x (List.mem_of_mem_drop hx), L8.out⟩, by simp [intOf]; omega⟩
    · obtain rfl : j = m := by omega
      go_wp2_with fail
      go_ret
      exact ⟨rfl, HL.out.2.1⟩

theorem own : ownKnob Try.prog.godebug = none := by kernel_rfl
theorem laidOut : laidOutB Try.prog = true := by kernel_rfl

set_option maxRecDepth 100000 in
set_option maxHeartbeats 1000000 in
theorem walk (a0 : Option Addr) (cap0 : Nat) (l0 : List Int) (a1 : Option Addr) (len1 cap1 : Nat) (its : List It) (w : World) (hb : Bytes w a0 l0) (hby : ∀ x ∈ l0, isByte x) (hcap : l0.length ≤ cap0) (hnone : a0 = none → cap0 = 0) (hl : its.length = len1) (hi : Items w a1 its) :
    Calls Try.prog 4 #[.slice a0 l0.length cap0, .slice a1 len1 cap1] w fun e w' => e = .returned (.bool true) ∧ Below w.heap.size w w' := by
  subst hl
  by_cases h4 : l0.length ≤ 400
  · by_cases h3 : its.length ≤ 40
    · exact core a0 cap0 l0 a1 cap1 its w hb hby hcap hnone hi h3 h4
    · have t1 : decide ((400 : Int) < (l0.length : Int)) = false := decide_eq_false (by omega)
      have t2 : decide ((40 : Int) < (its.length : Int)) = true := decide_eq_true (by omega)
      clear hb hby hcap hnone hi
      go_enter Try.func4, Try.ntmps4
      go_wp2_with fail
      refine (known_any w).mono ?_
      rintro e w1 ⟨rfl, k1⟩
      have K1 := Lib.hid k1
      clear k1
      go_wp2_with fail
      go_ret
      exact ⟨rfl, K1.out⟩
  · have t1 : decide ((400 : Int) < (l0.length : Int)) = true := decide_eq_true (by omega)
    clear hb hby hcap hnone hi
    go_enter Try.func4, Try.ntmps4
    go_wp2_with fail
    refine (known_any w).mono ?_
    rintro e w1 ⟨rfl, k1⟩
    have K1 := Lib.hid k1
    clear k1
    go_wp2_with fail
    go_ret
    exact ⟨rfl, K1.out⟩

set_option maxRecDepth 100000 in
theorem lifted (os : Os) (started : os.Started) (H : Type) (enc : TypeId × Value → H) :
    ReturnsInHanded {} Try.checked os 4 .any (Rows.wireReadsSpec.pre6 enc Try.prog Try.f4 Rows.wireReadsRow.domain false) (Rows.wireReadsSpec.post enc Try.prog Try.f4 false true false false) := by
  refine returnsInHanded_of_change (C := Try.checked) own started (by kernel_rfl) Try.func4
    (ChangeSpec.witness6 (enc := enc) (C := Try.checked) false ⟨#[], #[.slice none 0 0, .slice none 0 0], []⟩ 8 (by kernel_rfl) (by kernel_rfl) (by kernel_rfl) (by kernel_rfl)) ?_
  intro W base args ds gs before hval0 hW hcnd _
  have hval : ∀ (j : Nat) t v, Try.f4.params[j]? = some t → args[j]? = some v → Value.okWide Try.prog W .any base t v := hval0
  have hW' := hW
  obtain ⟨p, q, hA0, hV, rfl, hfz, hnd⟩ := hW
  have hA : DataW.TrodAll enc Try.prog W 0 (fun _ => true) true Try.f4.params.toList args.toList ds p := hA0
  rw [Try.params4] at hA hval
  obtain ⟨v0, vs0, d0, ds0, p0, q0, hargs, rfl, rfl, h0, r0⟩ := trodAll_cons hA
  obtain ⟨v1, vs1, d1, ds1, p1, q1, rfl, rfl, rfl, h1, r1⟩ := trodAll_cons r0
  obtain ⟨rfl, rfl, rfl⟩ := trodAll_nil r1
  obtain rfl : args = #[v0, v1] := by cases args; simp_all
  obtain ⟨rfl, rfl⟩ := trodVars_none hV
  obtain ⟨a0', len0, cap0', rfl⟩ := okWide_slice Try.underlying26 (hval 0 26 v0 rfl rfl)
  obtain ⟨a1, len1, cap1, rfl⟩ := okWide_slice Try.underlying22 (hval 1 22 v1 rfl rfl)
  have k0 := h0
  have lt0 : ∀ x ∈ p0, x.block < W.heap.size := by obtain ⟨m, hm⟩ := k0; exact DataW.trod_lt m _ _ _ hm
  have k1 := h1
  have lt1 : ∀ x ∈ p1, x.block < W.heap.size := by obtain ⟨m, hm⟩ := k1; exact DataW.trod_lt m _ _ _ hm
  obtain ⟨a0, l0, cap0, hv, hb, hby, hcap, hnone⟩ : ∃ (ao : Option Addr) (l : List Int) (cap : Nat), Value.slice a0' len0 cap0' = .slice ao l.length cap ∧ Bytes W ao l ∧ (∀ y ∈ l, isByte y) ∧ l.length ≤ cap ∧ (ao = none → cap = 0) := by
    obtain ⟨fuel, hf⟩ := h0
    exact open_bytes (by simpa [Value.cells] using hf)
  injection hv with hv1 hv2 hv3
  subst hv1 hv2 hv3
  obtain ⟨its, hl, hi⟩ : ∃ its : List It, its.length = len1 ∧ Items W a1 its := by
    obtain ⟨fuel, hf⟩ := h1
    exact open_items (by simpa [Value.cells] using hf)
  clear hA0 hval0
  refine (walk a0' cap0' l0 a1 len1 cap1 its W hb hby hcap hnone hl hi).mono fun e W' ⟨he, bel⟩ => ?_
  subst he
  exact ⟨_, rfl, _, _, _, [], _, [], hW', trodAll_mk1 (shut_bool Try.underlying4 _), (trodAll_cons_mk (Below.trod laidOut (by kernel_rfl) (of_decide_eq_true (by kernel_rfl)) k0 bel lt0) (trodAll_cons_mk (Below.trod laidOut (by kernel_rfl) (of_decide_eq_true (by kernel_rfl)) k1 bel lt1) trodAll_mk0)), rfl, bel.frame _, fun h => by cases h⟩

theorem over : Rows.wireReadsRow.holds Try.pinned (OpenSpec.ofChange Rows.wireReadsSpec) :=
  OpenClaim.holds_of_wide 4 Try.f4 rfl rfl rfl rfl rfl rfl rfl ⟨rfl, rfl, rfl, rfl, rfl⟩ rfl rfl rfl rfl rfl (by kernel_rfl) Try.func4 (by kernel_rfl)
    (of_decide_eq_true (by kernel_rfl)) (by unfold Func.isWrapper; first | (rw [if_pos (by decide +kernel)]; kernel_rfl) | (rw [if_neg (by decide +kernel)]; exact ⟨rfl, rfl⟩))
    (fun os started H enc _ => lifted os started H enc)

theorem proved : Rows.WireReadsSaid := over
#print axioms proved
end Go.Proofs.Ythnebpbmhgmcmaa.wireReads
