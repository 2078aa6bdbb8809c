/- readValues, readClients: what they put. -/
import Derived.Test.YtfbcjigekmgbnaaByt
namespace Go.Proofs.Ytfbcjigekmgbnaa
open Go.RowKit
set_option maxRecDepth 100000

theorem rdV_more {V : Nat → Int} {l : List Int} (h : 3 ≤ l.length) : rdV V l = rdV (if l.getD 0 0 < 64 then upd V (l.getD 0 0).toNat (rd16 (l.drop 1)) else V) (l.drop 3) := by rw [rdV.eq_1 V l, if_pos h]
theorem rdV_end {V : Nat → Int} {l : List Int} (h : ¬ 3 ≤ l.length) : rdV V l = V := by rw [rdV.eq_1 V l, if_neg h]

/-- how much the reader at X has left -/
def lenAt (w : World) (X : Nat) : Nat := match w.cell? ⟨X, 0, none⟩ with
  | some (.slice _ n _) => n
  | _ => 0
theorem Rb.lenAt {G : Nat} {w : World} {X : Nat} {l : List Int} (h : Rb G w X l) : lenAt w X = l.length := by
  obtain ⟨_, ao, cap, hb, _⟩ := h
  unfold Ytfbcjigekmgbnaa.lenAt
  rw [cell_of_one hb]

set_option maxHeartbeats 1600000 in
theorem readValues_any (w : World) (B : Nat) (V T R : Nat → Int) (h : Mp w B V T R) (ao : Option Addr) (cap : Nat) (l : List Int) (hb : Bytes w ao l) (hnone : ao = none → l = [] ∧ cap = 0) (hl : l.length ≤ 1000) (hby : ∀ x ∈ l, isByte x) :
    Calls Try.prog 44 #[.pointer (some ⟨B, 0, none⟩), .slice ao l.length cap] w fun e w' => e = .returned (.tuple #[]) ∧ Kept (fun i => i = B) w w' ∧ Mp w' B (rdV V l) T R := by
  have N := Lib.hid (open_b w ao cap l hb hnone (by omega) hby)
  have hlt := Lib.hid h.lt
  have HM := Lib.hid h
  have HL := Lib.hid hl
  obtain ⟨n, hn⟩ : ∃ n, n = l.length := ⟨_, rfl⟩
  rw [← hn] at N ⊢
  have HN := Lib.hid hn
  clear h hb hnone hby hn hl
  go_enter Try.func44, Try.ntmps44
  go_wp2_with fail
  refine N.out.mono ?_
  rintro e w1 ⟨X, rfl, hX1, hX2, hX3⟩
  have HX := Lib.hid (And.intro hX1 (And.intro hX2 hX3))
  clear hX1 hX2 hX3 N
  go_wp2_with fail
  go_loopw [5, 6, 7, 8] (fun _ _ _ _ wr => ∃ (l' : List Int) (V' : Nat → Int), Hid (Rb w.heap.size wr X l' ∧ Mp wr B V' T R ∧ rdV V' l' = rdV V l ∧ Kept (fun i => i = B) w wr ∧ w.heap.size ≤ X ∧ l'.length ≤ 1000)) (fun _ _ _ _ wr => lenAt wr X)
  case atStart =>
    obtain ⟨a, b, c⟩ := HX.out
    exact ⟨l, V, Lib.hid ⟨b, HM.out.below c hlt.out, rfl, Kept.ofBelow c, a, HL.out⟩⟩
  case round =>
    obtain ⟨l', V', I⟩ := hrel
    rename_i wr
    have LF := Lib.hid (left_any wr X l' I.out.1.toRd)
    by_cases h3 : 3 ≤ l'.length
    · have h3' : (3 : Int) ≤ l'.length := by omega
      have RA := Lib.hid (r8_b wr X l' I.out.1 (by omega) (by have := I.out.2.2.2.2.2; omega))
      obtain ⟨k, hk⟩ : ∃ k, k = l'.getD 0 0 := ⟨_, rfl⟩
      rw [← hk] at RA
      obtain ⟨m, hm⟩ : ∃ m, m = l'.length := ⟨_, rfl⟩
      rw [← hm] at LF h3 h3'
      have HK := Lib.hid hk
      have HMM := Lib.hid hm
      clear hk hm
      go_wp2_with fail
      refine LF.out.mono ?_
      rintro e w2 ⟨rfl, rfl⟩
      go_wp2_with fail
      refine RA.out.mono ?_
      rintro e w2 ⟨rfl, hr, hkp⟩
      have H2 := Lib.hid (And.intro hr hkp)
      have RB := Lib.hid (r16_b w2 X (l'.drop 1) hr (by rw [List.length_drop, ← HMM.out]; omega) (by rw [List.length_drop]; have := I.out.2.2.2.2.2; omega))
      obtain ⟨v, hv⟩ : ∃ v, v = rd16 (l'.drop 1) := ⟨_, rfl⟩
      rw [← hv] at RB
      have HV := Lib.hid hv
      clear hr hkp RA LF hv
      go_wp2_with fail
      refine RB.out.mono ?_
      rintro e w3 ⟨rfl, hr, hkp⟩
      have H3 := Lib.hid (And.intro hr hkp)
      clear hr hkp RB
      obtain ⟨kn, hkn⟩ : ∃ kn : Nat, (kn : Int) = k := by
        have := I.out.1.byte 0 (by have := HMM.out; omega)
        unfold isByte at this
        exact ⟨k.toNat, by rw [HK.out] ; omega⟩
      subst hkn
      have hXB : ¬ B = X := by have := I.out.2.2.2.2.1; have := hlt.out; omega
      have M3 := (I.out.2.1.kept H2.out.2 hXB).kept H3.out.2 hXB
      have P := Lib.hid (put_any w3 B kn v V' T R M3)
      clear M3
      go_wp2_with fail
      refine P.out.mono ?_
      rintro e w4 ⟨rfl, hkp, hM⟩
      have H4 := Lib.hid (And.intro hkp hM)
      clear hkp hM P
      go_wp2_with fail
      have hXs := I.out.2.2.2.2.1
      have hB := hlt.out
      have hb4 : Rb w.heap.size w4 X (l'.drop 3) := by
        have := H3.out.1.kept H4.out.1 (fun k hk e => by omega)
        rwa [List.drop_drop] at this
      have hm := HMM.out
      have hk4 := ((I.out.2.2.2.1.trans H2.out.2 (fun i hi e => by omega)).trans H3.out.2 (fun i hi e => by omega)).trans H4.out.1 (fun i hi e => e)
      refine ⟨⟨l'.drop 3, (if kn < 64 then upd V' kn v else V'), Lib.hid ⟨hb4, H4.out.2, ?_, hk4, hXs, ?_⟩⟩, ?_⟩
      · have e := I.out.2.2.1
        rw [rdV_more (by omega), ← HK.out, ← HV.out, Int.toNat_natCast] at e
        rw [← e]
        by_cases h64 : kn < 64
        · rw [if_pos h64, if_pos (by omega)]
        · rw [if_neg h64, if_neg (by omega)]
      · have := I.out.2.2.2.2.2
        rw [List.length_drop]; omega
      · rw [hb4.lenAt, I.out.1.lenAt, List.length_drop]; omega
    · have h3' : ¬ (3 : Int) ≤ l'.length := by omega
      have hV := I.out.2.2.1
      rw [rdV_end h3] at hV
      have HV := Lib.hid hV
      obtain ⟨m, hm⟩ : ∃ m, m = l'.length := ⟨_, rfl⟩
      rw [← hm] at LF h3 h3'
      clear hm hV
      go_wp2_with fail
      refine LF.out.mono ?_
      rintro e w2 ⟨rfl, rfl⟩
      go_wp2_with fail
      go_end0
      refine ⟨rfl, I.out.2.2.2.1, ?_⟩
      rw [← HV.out]
      exact I.out.2.1
theorem rdC_more {S : (Nat → Int) × (Nat → Int)} {l : List Int} (h : 9 ≤ l.length) : rdC S l = rdC (putC S (l.getD 0 0) (rd32 (l.drop 1)) (rd32 (l.drop 5))) (l.drop 9) := by rw [rdC.eq_1 S l, if_pos h]
theorem rdC_end {S : (Nat → Int) × (Nat → Int)} {l : List Int} (h : ¬ 9 ≤ l.length) : rdC S l = S := by rw [rdC.eq_1 S l, if_neg h]

theorem setClient_any (w : World) (B : Nat) (k : Nat) (ts rs : Int) (V : Nat → Int) (S : (Nat → Int) × (Nat → Int)) (h : Mp w B V S.1 S.2) :
    Calls Try.prog 12 #[.pointer (some ⟨B, 0, none⟩), .int .u8 k, .int .u32 ts, .int .u32 rs] w fun e w' => e = .returned (.tuple #[]) ∧ Kept (fun i => i = B) w w' ∧
      Mp w' B V (putC S k ts rs).1 (putC S k ts rs).2 := by
  unfold putC
  by_cases hk : 1 ≤ k ∧ k ≤ 4
  · rw [if_pos (by omega)]
    exact setClient_some w B k ts rs V S.1 S.2 h hk
  · rw [if_neg (by omega)]
    refine (setClient_none w B k ts rs hk).mono ?_
    rintro e w' ⟨rfl, rfl⟩
    exact ⟨rfl, Kept.refl _ _, h⟩

set_option maxHeartbeats 1600000 in
theorem readClients_any (w : World) (B : Nat) (V : Nat → Int) (S : (Nat → Int) × (Nat → Int)) (h : Mp w B V S.1 S.2) (ao : Option Addr) (cap : Nat) (l : List Int) (hb : Bytes w ao l) (hnone : ao = none → l = [] ∧ cap = 0) (hl : l.length ≤ 1000) (hby : ∀ x ∈ l, isByte x) :
    Calls Try.prog 43 #[.pointer (some ⟨B, 0, none⟩), .slice ao l.length cap] w fun e w' => e = .returned (.tuple #[]) ∧ Kept (fun i => i = B) w w' ∧ Mp w' B V (rdC S l).1 (rdC S l).2 := by
  have N := Lib.hid (open_b w ao cap l hb hnone (by omega) hby)
  have hlt := Lib.hid h.lt
  have HM := Lib.hid h
  have HL := Lib.hid hl
  obtain ⟨n, hn⟩ : ∃ n, n = l.length := ⟨_, rfl⟩
  rw [← hn] at N ⊢
  have HN := Lib.hid hn
  clear h hb hnone hby hn hl
  go_enter Try.func43, Try.ntmps43
  go_wp2_with fail
  refine N.out.mono ?_
  rintro e w1 ⟨X, rfl, hX1, hX2, hX3⟩
  have HX := Lib.hid (And.intro hX1 (And.intro hX2 hX3))
  clear hX1 hX2 hX3 N
  go_wp2_with fail
  go_loopw [5, 6, 7, 8, 9, 10] (fun _ _ _ _ _ _ wr => ∃ (l' : List Int) (S' : (Nat → Int) × (Nat → Int)), Hid (Rb w.heap.size wr X l' ∧ Mp wr B V S'.1 S'.2 ∧ rdC S' l' = rdC S l ∧ Kept (fun i => i = B) w wr ∧ w.heap.size ≤ X ∧ l'.length ≤ 1000)) (fun _ _ _ _ _ _ wr => lenAt wr X)
  case atStart =>
    obtain ⟨a, b, c⟩ := HX.out
    exact ⟨l, S, Lib.hid ⟨b, HM.out.below c hlt.out, rfl, Kept.ofBelow c, a, HL.out⟩⟩
  case round =>
    obtain ⟨l', S', I⟩ := hrel
    rename_i wr
    have LF := Lib.hid (left_any wr X l' I.out.1.toRd)
    by_cases h3 : 9 ≤ l'.length
    · have h3' : (9 : Int) ≤ l'.length := by omega
      have RA := Lib.hid (r8_b wr X l' I.out.1 (by omega) (by have := I.out.2.2.2.2.2; omega))
      obtain ⟨k, hk⟩ : ∃ k, k = l'.getD 0 0 := ⟨_, rfl⟩
      rw [← hk] at RA
      obtain ⟨m, hm⟩ : ∃ m, m = l'.length := ⟨_, rfl⟩
      rw [← hm] at LF h3 h3'
      have HK := Lib.hid hk
      have HMM := Lib.hid hm
      clear hk hm
      go_wp2_with fail
      refine LF.out.mono ?_
      rintro e w2 ⟨rfl, rfl⟩
      go_wp2_with fail
      refine RA.out.mono ?_
      rintro e w2 ⟨rfl, hr, hkp⟩
      have H2 := Lib.hid (And.intro hr hkp)
      have RB := Lib.hid (r32_b w2 X (l'.drop 1) hr (by rw [List.length_drop, ← HMM.out]; omega) (by rw [List.length_drop]; have := I.out.2.2.2.2.2; omega))
      obtain ⟨v, hv⟩ : ∃ v, v = rd32 (l'.drop 1) := ⟨_, rfl⟩
      rw [← hv] at RB
      have HV := Lib.hid hv
      clear hr hkp RA LF hv
      go_wp2_with fail
      refine RB.out.mono ?_
      rintro e w3 ⟨rfl, hr, hkp⟩
      rw [List.drop_drop] at hr
      have H3 := Lib.hid (And.intro hr hkp)
      have RC := Lib.hid (r32_b w3 X (l'.drop 5) hr (by rw [List.length_drop, ← HMM.out]; omega) (by rw [List.length_drop]; have := I.out.2.2.2.2.2; omega))
      obtain ⟨v2, hv2⟩ : ∃ v2, v2 = rd32 (l'.drop 5) := ⟨_, rfl⟩
      rw [← hv2] at RC
      have HV2 := Lib.hid hv2
      clear hr hkp RB hv2
      go_wp2_with fail
      refine RC.out.mono ?_
      rintro e w3b ⟨rfl, hr, hkp⟩
      rw [List.drop_drop] at hr
      have H3b := Lib.hid (And.intro hr hkp)
      clear hr hkp RC
      obtain ⟨kn, hkn⟩ : ∃ kn : Nat, (kn : Int) = k := by
        have := I.out.1.byte 0 (by have := HMM.out; omega)
        unfold isByte at this
        exact ⟨k.toNat, by rw [HK.out] ; omega⟩
      subst hkn
      have hXB : ¬ B = X := by have := I.out.2.2.2.2.1; have := hlt.out; omega
      have M3 := ((I.out.2.1.kept H2.out.2 hXB).kept H3.out.2 hXB).kept H3b.out.2 hXB
      have P := Lib.hid (setClient_any w3b B kn v v2 V S' M3)
      clear M3
      go_wp2_with fail
      refine P.out.mono ?_
      rintro e w4 ⟨rfl, hkp, hM⟩
      have H4 := Lib.hid (And.intro hkp hM)
      clear hkp hM P
      go_wp2_with fail
      have hXs := I.out.2.2.2.2.1
      have hB := hlt.out
      have hb4 : Rb w.heap.size w4 X (l'.drop 9) := H3b.out.1.kept H4.out.1 (fun k hk e => by omega)
      have hm := HMM.out
      have hk4 := (((I.out.2.2.2.1.trans H2.out.2 (fun i hi e => by omega)).trans H3.out.2 (fun i hi e => by omega)).trans H3b.out.2 (fun i hi e => by omega)).trans H4.out.1 (fun i hi e => e)
      refine ⟨⟨l'.drop 9, putC S' kn v v2, Lib.hid ⟨hb4, H4.out.2, ?_, hk4, hXs, ?_⟩⟩, ?_⟩
      · have e := I.out.2.2.1
        rw [rdC_more (by omega), ← HK.out, ← HV.out, ← HV2.out] at e
        exact e
      · have := I.out.2.2.2.2.2
        rw [List.length_drop]; omega
      · rw [hb4.lenAt, I.out.1.lenAt, List.length_drop]; omega
    · have h3' : ¬ (9 : Int) ≤ l'.length := by omega
      have hV := I.out.2.2.1
      rw [rdC_end h3] at hV
      have HV := Lib.hid hV
      obtain ⟨m, hm⟩ : ∃ m, m = l'.length := ⟨_, rfl⟩
      rw [← hm] at LF h3 h3'
      clear hm hV
      go_wp2_with fail
      refine LF.out.mono ?_
      rintro e w2 ⟨rfl, rfl⟩
      go_wp2_with fail
      go_end0
      refine ⟨rfl, I.out.2.2.2.1, ?_⟩
      rw [← HV.out]
      exact I.out.2.1
end Go.Proofs.Ytfbcjigekmgbnaa
