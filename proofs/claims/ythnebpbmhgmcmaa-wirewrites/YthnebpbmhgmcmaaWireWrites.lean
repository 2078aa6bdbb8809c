/- For every row of things WireWrites returns true and leaves its argument as it was: no condition. -/
import Derived.Test.YthnebpbmhgmcmaaStep
import Derived.Below
import Derived.Deep.RegionHeld3
import Derived.Deep.RegionWith
import Derived.Deep.Cut
namespace Go.Proofs.Ythnebpbmhgmcmaa.wireWrites
open Go.ChangeShapes Go.WideShapes Go.ChangeAt Go.RowKit
set_option linter.unusedVariables false

theorem put_len {H : Nat} {w0 w : World} {B n n' c : Nat} {ao : Option Addr} {xs ys : List Int} {x : Int} {m X : Nat} {o : Obj} (_h : BothX H w0 w B (.slice ao n' c) xs (ys ++ be x m) X o) (hn : n = ys.length) : (ys ++ be x m).length = n + m := by
  rw [List.length_append, be_length, hn]

set_option maxRecDepth 100000 in
set_option maxHeartbeats 8000000 in
theorem core (a0 : Option Addr) (cap : Nat) (its : List It) (w : World) (hi : Items w a0 its) (h3 : its.length ≤ 40) :
    Calls Try.prog 3 #[.slice a0 its.length cap] w fun e w' => e = .returned (.bool true) ∧ Below w.heap.size w w' := by
  have HI := Lib.hid hi
  clear hi
  generalize hm : its.length = m at *
  have HM := Lib.hid hm
  clear hm
  go_enter Try.func3, Try.ntmps3
  go_wp2_with fail
  refine (known_any w).mono ?_
  rintro e w1 ⟨rfl, k1⟩
  have K1 := Lib.hid k1
  clear k1
  go_wp2_with fail
  refine (new_own w.heap.size w w1 K1.out K1.out.size).mono ?_
  rintro e w2 ⟨B, rfl, o2⟩
  have B2 := Lib.hid (Both.start o2)
  clear o2
  go_wp2_with fail
  go_loopw [4, 5, 6] (fun vb vi _ wr => ∃ (k n c : Nat) (ao : Option Addr), k ≤ m ∧ vi = .int .i64 k ∧ vb = .slice ao n c ∧ n = (encs (its.take k)).length ∧ n ≤ 302 * k ∧ Both w.heap.size w wr B (.slice ao n c) (encs (its.take k)) (encs (its.take k)) ∧ Small its k) (fun _ i _ _ => m - (intOf i).toNat)
  case atStart => exact ⟨0, 0, 0, none, by omega, rfl, rfl, rfl, by omega, B2.out, fun i hi => by omega⟩
  case round =>
    obtain ⟨k, n, c, ao, hk, rfl, rfl, hn, hn2, hB, hS⟩ := hrel
    have HS := Lib.hid hS
    have HB := Lib.hid hB
    have HN := Lib.hid hn
    clear hB hn hS
    by_cases hlt : k < m
    · obtain ⟨b, off, rfl, hx⟩ := HI.out k (by rw [HM.out]; exact hlt)
      have hx' := hx.below HB.out.own.bel
      obtain ⟨x, hxe⟩ : ∃ x, x = its[k]'(by rw [HM.out]; exact hlt) := ⟨_, rfl⟩
      rw [← hxe] at hx hx'
      have q0 := hx'.c0
      have q1 := hx'.c1
      have q2 := hx'.c2
      have q3 := hx'.c3
      obtain ⟨what, N, bo, bs, bcap, most⟩ := x
      simp only at q0 q1 q2 q3
      have HX := Lib.hid hx'
      have HBW := Lib.hid hx.bytes
      have HBC := Lib.hid hx.cap
      have HBO := Lib.hid hx.room
      have HXE := Lib.hid hxe
      clear hx hx' hxe
      generalize hbl : bs.length = bl at *
      have HBL := Lib.hid hbl
      clear hbl
      have HBX := Lib.hid (HB.out.alloc (.cells #[.int .i64 what, .int .u64 N, .slice bo bl bcap, .int .i64 most] 29))
      by_cases hlong : 300 < bl
      · go_wp2_with fail
        go_ret
        exact ⟨rfl, HBX.out.drop.own.bel⟩
      · have hle : bl ≤ 300 := by omega
        clear hlong
        by_cases e0 : bits .and .i64 what 7 = 0
        · have HE0 := Lib.hid e0
          have U := Lib.hid (u8_both HBX.out (N % 256) (by rw [← HN.out]; omega))
          go_wp2_with fail
          refine U.out.mono ?_
          rintro e w3 ⟨rfl, h3⟩
          rw [be_one] at h3
          obtain ⟨-, hq1, -, -⟩ := cell29 h3.block
          have P := Lib.hid (put_both h3 HN.out.symm (N % 256) 1 (by omega) (by omega))
          clear h3
          go_wp2_with fail
          refine P.out.mono ?_
          rintro e w4 ⟨ao4, c4, rfl, h4⟩
          have he : be (N % 256) 1 = enc1 ⟨what, N, bo, bs, bcap, most⟩ := enc1_0 (x := ⟨what, N, bo, bs, bcap, most⟩) HE0.out
          obtain ⟨hn4, hb4⟩ := both_next h4 (by rw [HM.out]; exact hlt) HXE.out (enc1_0' (x := ⟨what, N, bo, bs, bcap, most⟩) HE0.out) he HN.out
          rw [← he, be_length] at hn4
          have HN4 := Lib.hid hn4
          have HB4 := Lib.hid hb4
          have HS4 := Lib.hid (small_next its k ⟨what, N, bo, bs, bcap, most⟩ HS.out (by rw [HM.out]; exact hlt) HXE.out (by show bs.length ≤ 300; rw [HBL.out]; exact hle))
          clear h4 hn4 hb4 he
          go_wp2_with fail
          exact ⟨⟨k + 1, n + 1, c4, ao4, by omega, by go_num, rfl, HN4.out, by omega, HB4.out, HS4.out⟩, by simp [intOf]; omega⟩
        · by_cases e1 : bits .and .i64 what 7 = 1
          · have HE1 := Lib.hid e1
            have U := Lib.hid (u16_both HBX.out (IntKind.u16.wrap N) (by rw [← HN.out]; omega))
            go_wp2_with fail
            refine U.out.mono ?_
            rintro e w3 ⟨rfl, h3⟩
            rw [be_two] at h3
            obtain ⟨-, hq1, -, -⟩ := cell29 h3.block
            have P := Lib.hid (put_both h3 HN.out.symm (IntKind.u64.wrap (IntKind.u16.wrap N)) 2 (by omega) (by omega))
            clear h3
            go_wp2_with fail
            refine P.out.mono ?_
            rintro e w4 ⟨ao4, c4, rfl, h4⟩
            have he : be (IntKind.u64.wrap (IntKind.u16.wrap N)) 2 = enc1 ⟨what, N, bo, bs, bcap, most⟩ := enc1_1 (x := ⟨what, N, bo, bs, bcap, most⟩) HE1.out
            obtain ⟨hn4, hb4⟩ := both_next h4 (by rw [HM.out]; exact hlt) HXE.out (enc1_1' (x := ⟨what, N, bo, bs, bcap, most⟩) HE1.out) he HN.out
            rw [← he, be_length] at hn4
            have HN4 := Lib.hid hn4
            have HB4 := Lib.hid hb4
            have HS4 := Lib.hid (small_next its k ⟨what, N, bo, bs, bcap, most⟩ HS.out (by rw [HM.out]; exact hlt) HXE.out (by show bs.length ≤ 300; rw [HBL.out]; exact hle))
            clear h4 hn4 hb4 he
            go_wp2_with fail
            exact ⟨⟨k + 1, n + 2, c4, ao4, by omega, by go_num, rfl, HN4.out, by omega, HB4.out, HS4.out⟩, by simp [intOf]; omega⟩
          · by_cases e2 : bits .and .i64 what 7 = 2
            · have HE2 := Lib.hid e2
              have U := Lib.hid (u32_both HBX.out (N % 4294967296) (by rw [← HN.out]; omega))
              go_wp2_with fail
              refine U.out.mono ?_
              rintro e w3 ⟨rfl, h3⟩
              rw [be_four] at h3
              obtain ⟨-, hq1, -, -⟩ := cell29 h3.block
              have P := Lib.hid (put_both h3 HN.out.symm (N % 4294967296) 4 (by omega) (by omega))
              clear h3
              go_wp2_with fail
              refine P.out.mono ?_
              rintro e w4 ⟨ao4, c4, rfl, h4⟩
              have he : be (N % 4294967296) 4 = enc1 ⟨what, N, bo, bs, bcap, most⟩ := enc1_2 (x := ⟨what, N, bo, bs, bcap, most⟩) HE2.out
              obtain ⟨hn4, hb4⟩ := both_next h4 (by rw [HM.out]; exact hlt) HXE.out (enc1_2' (x := ⟨what, N, bo, bs, bcap, most⟩) HE2.out) he HN.out
              rw [← he, be_length] at hn4
              have HN4 := Lib.hid hn4
              have HB4 := Lib.hid hb4
              have HS4 := Lib.hid (small_next its k ⟨what, N, bo, bs, bcap, most⟩ HS.out (by rw [HM.out]; exact hlt) HXE.out (by show bs.length ≤ 300; rw [HBL.out]; exact hle))
              clear h4 hn4 hb4 he
              go_wp2_with fail
              exact ⟨⟨k + 1, n + 4, c4, ao4, by omega, by go_num, rfl, HN4.out, by omega, HB4.out, HS4.out⟩, by simp [intOf]; omega⟩
            · by_cases e3 : bits .and .i64 what 7 = 3
              · have HE3 := Lib.hid e3
                have U := Lib.hid (u64_both HBX.out (N) (by rw [← HN.out]; omega))
                go_wp2_with fail
                refine U.out.mono ?_
                rintro e w3 ⟨rfl, h3⟩
                rw [be_eight] at h3
                obtain ⟨-, hq1, -, -⟩ := cell29 h3.block
                have P := Lib.hid (put_both h3 HN.out.symm (N) 8 (by omega) (by omega))
                clear h3
                go_wp2_with fail
                refine P.out.mono ?_
                rintro e w4 ⟨ao4, c4, rfl, h4⟩
                have he : be (N) 8 = enc1 ⟨what, N, bo, bs, bcap, most⟩ := enc1_3 (x := ⟨what, N, bo, bs, bcap, most⟩) HE3.out
                obtain ⟨hn4, hb4⟩ := both_next h4 (by rw [HM.out]; exact hlt) HXE.out (enc1_3' (x := ⟨what, N, bo, bs, bcap, most⟩) HE3.out) he HN.out
                rw [← he, be_length] at hn4
                have HN4 := Lib.hid hn4
                have HB4 := Lib.hid hb4
                have HS4 := Lib.hid (small_next its k ⟨what, N, bo, bs, bcap, most⟩ HS.out (by rw [HM.out]; exact hlt) HXE.out (by show bs.length ≤ 300; rw [HBL.out]; exact hle))
                clear h4 hn4 hb4 he
                go_wp2_with fail
                exact ⟨⟨k + 1, n + 8, c4, ao4, by omega, by go_num, rfl, HN4.out, by omega, HB4.out, HS4.out⟩, by simp [intOf]; omega⟩
              · have f0 : (bits BinOp.and IntKind.i64 what 7 == 0) = false := by simpa using e0
                have f1 : (bits BinOp.and IntKind.i64 what 7 == 1) = false := by simpa using e1
                have f2 : (bits BinOp.and IntKind.i64 what 7 == 2) = false := by simpa using e2
                have f3 : (bits BinOp.and IntKind.i64 what 7 == 3) = false := by simpa using e3
                have HBN := Lib.hid (fun e => ⟨by have := HBO.out e; have := HBC.out; omega, HBO.out e⟩ : bo = none → bl = 0 ∧ bcap = 0)
                have HED := Lib.hid (enc1_d (x := ⟨what, N, bo, bs, bcap, most⟩) e0 e1 e2 e3)
                clear e0 e1 e2 e3
                have U0 := bytes_both HBX.out bo bcap bs rfl HBW.out (by rw [HBL.out]; exact HBC.out) HBO.out (by rw [← HN.out]; omega) (by rw [HBL.out]; omega)
                rw [HBL.out] at U0
                have U := Lib.hid U0
                clear U0
                go_wp2_with fail
                refine U.out.mono ?_
                rintro e w3 ⟨rfl, h3⟩
                rw [be_len, HBL.out] at h3
                obtain ⟨-, -, hq2, -⟩ := cell29 h3.block
                have P := Lib.hid (put_both h3.drew HN.out.symm (IntKind.u64.wrap (bl : Int)) 2 (by omega) (by omega))
                clear h3
                go_wp2_with fail
                go_region_held3 (fun w' => w'.cell? ⟨wr.heap.size, 2, none⟩ = some (.slice bo bl bcap)) (first | go_keep | exact (cell29 h4.block).2.2.1 | exact (cell29 h5.block).2.2.1)
                  (first
                    | (refine step_app (by rfl) _ _ (by rfl) h4 h4n (by rfl) bo bl bcap bs (by rfl) HBL.out h4b HBN.out (by omega) ?_; intro ao5 c5 w5 h5)
                    | (go_at_call 11; refine P.out.mono ?_; rintro e w4 ⟨ao4, c4, rfl, h4⟩; have h4n := put_len h4 HN.out; have h4b := bytes_below HBW.out h4.drop.own.bel (Nat.le_refl _)))
                rw [List.append_assoc] at h5
                have hd : be (bl : Int) 2 ++ bs = enc1 ⟨what, N, bo, bs, bcap, most⟩ := by rw [← HED.out, HBL.out]
                have hu : IntKind.u64.wrap (bl : Int) = (bl : Int) := by rw [IntKind.wrap_u64]; omega
                rw [hu] at h5
                obtain ⟨hn5, hb5⟩ := both_next h5 (by rw [HM.out]; exact hlt) HXE.out hd hd HN.out
                rw [← hd, List.length_append, be_length, HBL.out, ← Nat.add_assoc] at hn5
                have HN5 := Lib.hid hn5
                have HB5 := Lib.hid hb5
                have HS5 := Lib.hid (small_next its k ⟨what, N, bo, bs, bcap, most⟩ HS.out (by rw [HM.out]; exact hlt) HXE.out (by show bs.length ≤ 300; rw [HBL.out]; exact hle))
                clear h4 h4n h4b h5 hn5 hb5 hd hu
                go_wp2_with fail
                exact ⟨⟨k + 1, n + 2 + bl, c5, ao5, by omega, by go_num, rfl, HN5.out, by omega, HB5.out, HS5.out⟩, by simp [intOf]; omega⟩
    · obtain rfl : k = m := by omega
      have htk : its.take k = its := List.take_of_length_le (by rw [HM.out]; exact Nat.le_refl _)
      rw [htk] at HB HN
      have A := Lib.hid (all_both HB.out.drew n HN.out (by omega))
      have hs0 := Lib.hid (HB.out.drew.str HN.out)
      clear htk hlt
      go_wp2_with fail
      go_cut [111] from 106 (fun s wc => s = .bool false ∧ Both w.heap.size w wc B (.slice ao n c) (encs its) (encs its))
      case first =>
        have hs1 := hs0.out
        go_region_with (go_at_call 16; refine A.out.mono ?_; rintro e w4 ⟨ao4, c4, rfl, ⟨n4, hs4⟩, b4⟩; have hs5 := b4.str HN.out)
        all_goals (go_wp2_with fail; go_meet; exact ⟨rfl, b4⟩)
      case rest =>
        obtain ⟨rfl, b4⟩ := hcut
        have A4 := Lib.hid (all_both b4 n HN.out (by omega))
        clear b4
        go_wp2_with fail
        refine A4.out.mono ?_
        rintro e w5 ⟨ao5, c5, rfl, ⟨n5, hs5⟩, b5⟩
        have O0 := open_own w.heap.size w w5 ao5 c5 (encs its) b5.own.bel b5.own.lt (own_bytes n5.1) n5.none (by rw [← HN.out]; omega) HI.out.byte
        rw [← HN.out] at O0
        have O5 := Lib.hid O0
        clear n5 hs5 b5 O0
        go_wp2_with fail
        refine O5.out.mono ?_
        rintro e w6 ⟨R, rfl, r6⟩
        have R6 := Lib.hid r6
        clear r6
        go_wp2_with fail
        go_loopw [8] (fun vi wl => ∃ j : Nat, j ≤ k ∧ vi = .int .i64 j ∧ Lft w.heap.size w wl R (encs (its.drop j))) (fun i _ => k - (intOf i).toNat)
        case atStart => exact ⟨0, by omega, rfl, R6.out⟩
        case round =>
          obtain ⟨j, hj, rfl, hL⟩ := hrel
          have HL := Lib.hid hL
          clear hL
          by_cases hlt : j < k
          · obtain ⟨b, off, rfl, hx⟩ := HI.out j (by rw [HM.out]; exact hlt)
            have hx' := hx.below HL.out.2.1
            obtain ⟨x, hxe⟩ : ∃ x, x = its[j]'(by rw [HM.out]; exact hlt) := ⟨_, rfl⟩
            have hsm := HS.out j hlt (by rw [HM.out]; exact hlt)
            have hen := encs_drop its j x (by rw [HM.out]; exact hlt) hxe
            rw [← hxe] at hx hx' hsm
            have q0 := hx'.c0
            have q1 := hx'.c1
            have q2 := hx'.c2
            have q3 := hx'.c3
            obtain ⟨what, N, bo, bs, bcap, most⟩ := x
            simp only at q0 q1 q2 q3 hsm
            have HNN := Lib.hid hx.n
            have HBW := Lib.hid hx.bytes
            have HBN := Lib.hid (fun e => List.eq_nil_of_length_eq_zero (by have := hx.room e; have := hx.cap; simp only at *; omega) : bo = none → bs = [])
            have HXE := Lib.hid hxe
            have HEN := Lib.hid hen
            have hln := encs_split its j
            rw [← HN.out] at hln
            have HLN := Lib.hid (by omega : (encs (its.drop j)).length ≤ n)
            clear hx hx' hxe hen hln
            generalize hbl : bs.length = bl at *
            have HBL := Lib.hid hbl
            clear hbl
            by_cases e0 : bits .and .i64 what 7 = 0
            · have hl := HL.out.alloc (.cells #[.int .i64 what, .int .u64 N, .slice bo bl bcap, .int .i64 most] 29)
              rw [HEN.out, ← enc1_0' (x := ⟨what, N, bo, bs, bcap, most⟩) e0] at hl
              have U0 := r8_any _ R _ hl.1 (by rw [List.length_append, be_length]; omega) (by rw [enc1_0' (x := ⟨what, N, bo, bs, bcap, most⟩) e0, ← HEN.out]; have := HLN.out; omega)
              rw [rd_one, be_drop] at U0
              have U := Lib.hid U0
              clear hl U0
              go_wp2_with fail
              refine U.out.mono ?_
              rintro e w7 ⟨rfl, r7, k7⟩
              obtain ⟨l7, b7⟩ := lft_read HL.out r7 k7
              obtain ⟨-, hq1, -, -⟩ := cell29 b7
              have L7 := Lib.hid l7
              clear r7 k7 l7 b7
              go_wp2_with fail
              exact ⟨⟨j + 1, by omega, by go_num, L7.out⟩, by simp [intOf]; omega⟩
            · by_cases e1 : bits .and .i64 what 7 = 1
              · have hl := HL.out.alloc (.cells #[.int .i64 what, .int .u64 N, .slice bo bl bcap, .int .i64 most] 29)
                rw [HEN.out, ← enc1_1' (x := ⟨what, N, bo, bs, bcap, most⟩) e1] at hl
                have U0 := r16_any _ R _ hl.1 (by rw [List.length_append, be_length]; omega) (by rw [enc1_1' (x := ⟨what, N, bo, bs, bcap, most⟩) e1, ← HEN.out]; have := HLN.out; omega)
                rw [rd_two, be_drop] at U0
                have U := Lib.hid U0
                clear hl U0
                go_wp2_with fail
                refine U.out.mono ?_
                rintro e w7 ⟨rfl, r7, k7⟩
                obtain ⟨l7, b7⟩ := lft_read HL.out r7 k7
                obtain ⟨-, hq1, -, -⟩ := cell29 b7
                have L7 := Lib.hid l7
                clear r7 k7 l7 b7
                go_wp2_with fail
                exact ⟨⟨j + 1, by omega, by go_num, L7.out⟩, by simp [intOf]; omega⟩
              · by_cases e2 : bits .and .i64 what 7 = 2
                · have hl := HL.out.alloc (.cells #[.int .i64 what, .int .u64 N, .slice bo bl bcap, .int .i64 most] 29)
                  rw [HEN.out, ← enc1_2' (x := ⟨what, N, bo, bs, bcap, most⟩) e2] at hl
                  have U0 := r32_any _ R _ hl.1 (by rw [List.length_append, be_length]; omega) (by rw [enc1_2' (x := ⟨what, N, bo, bs, bcap, most⟩) e2, ← HEN.out]; have := HLN.out; omega)
                  rw [rd_four, be_drop] at U0
                  have U := Lib.hid U0
                  clear hl U0
                  go_wp2_with fail
                  refine U.out.mono ?_
                  rintro e w7 ⟨rfl, r7, k7⟩
                  obtain ⟨l7, b7⟩ := lft_read HL.out r7 k7
                  obtain ⟨-, hq1, -, -⟩ := cell29 b7
                  have L7 := Lib.hid l7
                  clear r7 k7 l7 b7
                  go_wp2_with fail
                  exact ⟨⟨j + 1, by omega, by go_num, L7.out⟩, by simp [intOf]; omega⟩
                · by_cases e3 : bits .and .i64 what 7 = 3
                  · have hl := HL.out.alloc (.cells #[.int .i64 what, .int .u64 N, .slice bo bl bcap, .int .i64 most] 29)
                    rw [HEN.out, ← enc1_3' (x := ⟨what, N, bo, bs, bcap, most⟩) e3] at hl
                    have U0 := r64_any _ R _ hl.1 (by rw [List.length_append, be_length]; omega) (by rw [enc1_3' (x := ⟨what, N, bo, bs, bcap, most⟩) e3, ← HEN.out]; have := HLN.out; omega)
                    rw [rd_eight N HNN.out, be_drop] at U0
                    have U := Lib.hid U0
                    clear hl U0
                    go_wp2_with fail
                    refine U.out.mono ?_
                    rintro e w7 ⟨rfl, r7, k7⟩
                    obtain ⟨l7, b7⟩ := lft_read HL.out r7 k7
                    obtain ⟨-, hq1, -, -⟩ := cell29 b7
                    have L7 := Lib.hid l7
                    clear r7 k7 l7 b7
                    go_wp2_with fail
                    exact ⟨⟨j + 1, by omega, by go_num, L7.out⟩, by simp [intOf]; omega⟩
                  · have f0 : (bits BinOp.and IntKind.i64 what 7 == 0) = false := by simpa using e0
                    have f1 : (bits BinOp.and IntKind.i64 what 7 == 1) = false := by simpa using e1
                    have f2 : (bits BinOp.and IntKind.i64 what 7 == 2) = false := by simpa using e2
                    have f3 : (bits BinOp.and IntKind.i64 what 7 == 3) = false := by simpa using e3
                    have hl := HL.out.alloc (.cells #[.int .i64 what, .int .u64 N, .slice bo bl bcap, .int .i64 most] 29)
                    have hd : be (bl : Int) 2 ++ bs = enc1 ⟨what, N, bo, bs, bcap, most⟩ := by rw [← enc1_d (x := ⟨what, N, bo, bs, bcap, most⟩) e0 e1 e2 e3, HBL.out]
                    rw [HEN.out, ← hd] at hl
                    have U0 := rb_any _ R _ 300 hl.1 (by rw [List.length_append, List.length_append, be_length]; omega) (by rw [hd, ← HEN.out]; have := HLN.out; omega) bl (by rw [List.append_assoc, rd_len bl hsm]) (by omega) (by rw [List.length_append, List.length_append, be_length, HBL.out]; omega)
                    rw [take_bytes bl bs _ HBL.out, drop_bytes bl bs _ HBL.out] at U0
                    have U := Lib.hid U0
                    clear hl U0 hd e0 e1 e2 e3
                    go_wp2_with fail
                    refine U.out.mono ?_
                    rintro e w7 ⟨ao7, c7, rfl, n7, r7, k7⟩
                    obtain ⟨l7, b7⟩ := lft_read HL.out r7 k7
                    obtain ⟨-, -, hq2, -⟩ := cell29 b7
                    have hs1 := str_new n7
                    have hs2 := str_bytes (c := bcap) (bytes_below HBW.out l7.2.1 (Nat.le_refl _)) HBN.out
                    rw [HBL.out] at hs1 hs2
                    have L7 := Lib.hid l7
                    clear n7 r7 k7 l7 b7
                    go_wp2_with fail
                    exact ⟨⟨j + 1, by omega, by go_num, L7.out⟩, by simp [intOf]; omega⟩
          · obtain rfl : j = k := by omega
            have hend : encs (its.drop j) = [] := by rw [List.drop_of_length_le (by rw [HM.out]; exact Nat.le_refl _)]; rfl
            have hl := HL.out
            rw [hend] at hl
            have E := Lib.hid (left_any wr R [] hl.1)
            clear hend hl
            go_wp2_with fail
            refine E.out.mono ?_
            rintro e w7 ⟨rfl, rfl⟩
            go_wp2_with fail
            go_ret
            exact ⟨rfl, HL.out.2.1⟩

theorem own : ownKnob Try.prog.godebug = none := by kernel_rfl
theorem laidOut : laidOutB Try.prog = true := by kernel_rfl

set_option maxRecDepth 100000 in
set_option maxHeartbeats 1000000 in
theorem walk (a0 : Option Addr) (len0 cap0 : Nat) (its : List It) (w : World) (hl : its.length = len0) (hi : Items w a0 its) :
    Calls Try.prog 3 #[.slice a0 len0 cap0] w fun e w' => e = .returned (.bool true) ∧ Below w.heap.size w w' := by
  subst hl
  by_cases h3 : its.length ≤ 40
  · exact core a0 cap0 its w hi h3
  · have h3' : 40 < its.length := by omega
    clear hi
    go_enter Try.func3, Try.ntmps3
    go_wp2_with fail
    refine (known_any w).mono ?_
    rintro e w1 ⟨rfl, k1⟩
    have K1 := Lib.hid k1
    clear k1
    go_wp2_with fail
    go_ret
    exact ⟨rfl, K1.out⟩

set_option maxRecDepth 100000 in
theorem lifted (os : Os) (started : os.Started) (H : Type) (enc : TypeId × Value → H) :
    ReturnsInHanded {} Try.checked os 3 .any (Rows.wireWritesSpec.pre6 enc Try.prog Try.f3 Rows.wireWritesRow.domain false) (Rows.wireWritesSpec.post enc Try.prog Try.f3 false true false false) := by
  refine returnsInHanded_of_change (C := Try.checked) own started (by kernel_rfl) Try.func3
    (ChangeSpec.witness6 (enc := enc) (C := Try.checked) false ⟨#[], #[.slice none 0 0], []⟩ 8 (by kernel_rfl) (by kernel_rfl) (by kernel_rfl) (by kernel_rfl)) ?_
  intro W base args ds gs before hval0 hW hcnd _
  have hval : ∀ (j : Nat) t v, Try.f3.params[j]? = some t → args[j]? = some v → Value.okWide Try.prog W .any base t v := hval0
  have hW' := hW
  obtain ⟨p, q, hA0, hV, rfl, hfz, hnd⟩ := hW
  have hA : DataW.TrodAll enc Try.prog W 0 (fun _ => true) true Try.f3.params.toList args.toList ds p := hA0
  rw [Try.params3] at hA hval
  obtain ⟨v0, vs0, d0, ds0, p0, q0, hargs, rfl, rfl, h0, r0⟩ := trodAll_cons hA
  obtain ⟨rfl, rfl, rfl⟩ := trodAll_nil r0
  obtain rfl : args = #[v0] := by cases args; simp_all
  obtain ⟨rfl, rfl⟩ := trodVars_none hV
  obtain ⟨a0, len0, cap0, rfl⟩ := okWide_slice Try.underlying22 (hval 0 22 v0 rfl rfl)
  have k0 := h0
  have lt0 : ∀ x ∈ p0, x.block < W.heap.size := by obtain ⟨m, hm⟩ := k0; exact DataW.trod_lt m _ _ _ hm
  obtain ⟨its, hl, hi⟩ : ∃ its : List It, its.length = len0 ∧ Items W a0 its := by
    obtain ⟨fuel, hf⟩ := h0
    exact open_items (by simpa [Value.cells] using hf)
  clear hA0 hval0
  refine (walk a0 len0 cap0 its W hl hi).mono fun e W' ⟨he, bel⟩ => ?_
  subst he
  exact ⟨_, rfl, _, _, _, [], _, [], hW', trodAll_mk1 (shut_bool Try.underlying4 _), (trodAll_cons_mk (Below.trod laidOut (by kernel_rfl) (of_decide_eq_true (by kernel_rfl)) k0 bel lt0) trodAll_mk0), rfl, bel.frame _, fun h => by cases h⟩

theorem over : Rows.wireWritesRow.holds Try.pinned (OpenSpec.ofChange Rows.wireWritesSpec) :=
  OpenClaim.holds_of_wide 3 Try.f3 rfl rfl rfl rfl rfl rfl rfl ⟨rfl, rfl, rfl, rfl, rfl⟩ rfl rfl rfl rfl rfl (by kernel_rfl) Try.func3 (by kernel_rfl)
    (of_decide_eq_true (by kernel_rfl)) (by unfold Func.isWrapper; first | (rw [if_pos (by decide +kernel)]; kernel_rfl) | (rw [if_neg (by decide +kernel)]; exact ⟨rfl, rfl⟩))
    (fun os started H enc _ => lifted os started H enc)

theorem proved : Rows.WireWritesSaid := over
#print axioms proved
end Go.Proofs.Ythnebpbmhgmcmaa.wireWrites
