/- Parse: what it answers, for whatever bytes. -/
import Derived.Test.YtibbomeeoobgkaaFrame
import Derived.Lib.Bytes
namespace Go.Proofs.Ytibbomeeoobgkaa
open Go.RowKit
set_option maxRecDepth 100000

theorem bytesOf_inj : ∀ (a b : List Int), (∀ y ∈ a, isByte y) → (∀ y ∈ b, isByte y) → Lib.bytesOf a = Lib.bytesOf b → a = b := by
  intro a
  induction a with
  | nil => intro b _ _ h; cases b with
    | nil => rfl
    | cons => simp [Lib.bytesOf] at h
  | cons x a ih =>
    intro b ha hb h
    cases b with
    | nil => simp [Lib.bytesOf] at h
    | cons y b =>
      simp only [Lib.bytesOf, List.map_cons, List.cons.injEq] at h
      have hx := ha x (by simp)
      have hy := hb y (by simp)
      have e := congrArg UInt8.toNat h.1
      simp only [UInt8.toNat_ofNat'] at e
      unfold isByte at hx hy
      rw [show x = y by omega, ih b (fun z hz => ha z (by simp [hz])) (fun z hz => hb z (by simp [hz])) h.2]

theorem str_beq {a b : List Int} (ha : ∀ y ∈ a, isByte y) (hb : ∀ y ∈ b, isByte y) : ((strOfNums a).toList == (strOfNums b).toList) = decide (a = b) := by
  rw [Lib.strOfNums_toList, Lib.strOfNums_toList]
  by_cases h : a = b
  · subst h; simp
  · rw [decide_eq_false h, beq_eq_false_iff_ne]
    exact fun e => h (bytesOf_inj a b ha hb e)

theorem bytes_some (w : World) (ao : Option Addr) (l : List Int) (hb : Bytes w ao l) (hl : 0 < l.length) : ∃ g off, ao = some ⟨g, off, none⟩ := by
  obtain ⟨g, off, e, _⟩ := bytes_at hb hl
  exact ⟨g, off, e⟩

theorem bytes_take {w : World} {ao : Option Addr} {l : List Int} (hb : Bytes w ao l) (n : Nat) : Bytes w ao (l.take n) := by
  intro i hi
  rw [List.length_take] at hi
  obtain ⟨ad, e, hc⟩ := hb i (by omega)
  exact ⟨ad, e, by rw [hc, getD_take l n i (by omega)]⟩

theorem bytes_off {w : World} {g off : Nat} {l : List Int} (hb : Bytes w (some ⟨g, off, none⟩) l) (n : Nat) : Bytes w (some ⟨g, off + n, none⟩) (l.drop n) := by
  intro i hi
  rw [List.length_drop] at hi
  obtain ⟨g', off', e, hcell⟩ := bytes_at hb (by omega)
  injection e with e
  injection e with e1 e2 e3
  subst e1 e2
  refine ⟨_, rfl, ?_⟩
  have h := hcell (n + i) (by omega)
  have hadd : (⟨g, off + n, none⟩ : Addr).add i = ⟨g, off + (n + i), none⟩ := by unfold Addr.add; split <;> simp_all <;> omega
  rw [hadd, h]
  simp [List.getD_eq_getElem?_getD]

theorem New.told {H : Nat} {w : World} {ao : Option Addr} {c : Nat} {l : List Int} (h : New H w ao c l) : Told H w ao c l := by
  refine ⟨own_bytes h.1, h.none, ?_, h.2⟩
  rcases h.1.2 with ⟨hv, h0⟩ | ⟨g, c3, cur, hv, _, _, h1, _⟩
  · omega
  · injection hv with _ _ hv; omega

theorem rd32_take (l : List Int) (n : Nat) (h : 4 ≤ n) : rd32 (l.take n) = rd32 l := by
  unfold rd32
  rw [getD_take l n 0 (by omega), getD_take l n 1 (by omega), getD_take l n 2 (by omega), getD_take l n 3 (by omega)]

set_option maxHeartbeats 1000000 in
theorem equal_any (w : World) (p0 p1 : Option Addr) (c0 c1 : Nat) (a b : List Int) (h0 : Bytes w p0 a) (h1 : Bytes w p1 b) (n0 : p0 = none → a = []) (n1 : p1 = none → b = []) (ha : ∀ y ∈ a, isByte y) (hb : ∀ y ∈ b, isByte y) :
    Calls Try.prog 22 #[.slice p0 a.length c0, .slice p1 b.length c1] w fun e w' => e = .returned (.bool (decide (a = b))) ∧ w = w' := by
  have s0 := str_bytes (c := c0) h0 n0
  have s1 := str_bytes (c := c1) h1 n1
  have E := Lib.hid (str_beq ha hb)
  generalize strOfNums a = sa at *
  generalize strOfNums b = sb at *
  generalize a.length = ma at *
  generalize b.length = mb at *
  rw [← E.out]
  clear h0 h1 n0 n1 ha hb E
  go_enter Try.func22, Try.ntmps22
  go_wp2_with fail
  go_ret
  exact ⟨rfl, rfl⟩

set_option maxHeartbeats 4000000 in
theorem parse_short (w : World) (ao : Option Addr) (c : Nat) (m : Nat) (hm : m < 16) :
    Calls Try.prog 9 #[.slice ao m c] w fun e w' => e = .returned (.tuple #[.int .u32 0, .slice none 0 0, .bool false]) ∧ w = w' := by
  go_enter Try.func9, Try.ntmps9
  go_wp2_with fail
  refine bodyPost_ret (v := .tuple #[.int .u32 0, .slice none 0 0, .bool false]) (by simp [results, Try.results9, go_sem]) rfl ⟨rfl, rfl⟩

set_option maxHeartbeats 4000000 in
theorem parse_yes (w : World) (g off : Nat) (c : Nat) (l : List Int) (hb : Bytes w (some ⟨g, off, none⟩) l) (h16 : 16 ≤ l.length) (hl : l.length ≤ 50000) (hc : l.length ≤ c) (hby : ∀ y ∈ l, isByte y) (hF : isFr l = true) :
    Calls Try.prog 9 #[.slice (some ⟨g, off, none⟩) l.length c] w fun e w' => ∃ ao' c', e = .returned (.tuple #[.int .u32 (rd32 l), .slice ao' (l.length - 8 - 8) c', .bool true]) ∧ Told w.heap.size w' ao' c' (midI l) ∧ Below w.heap.size w w' := by
  have HB := Lib.hid hb
  have HF := Lib.hid hF
  clear hF
  have HY := Lib.hid hby
  have e8 : (l.take 8).length = 8 := by rw [List.length_take]; omega
  have O := Lib.hid (open_any w (some ⟨g, off, none⟩) c (l.take 8) (bytes_take hb 8) (fun h => by cases h) (by omega) (fun y h => hby y (List.mem_of_mem_take h)))
  rw [e8] at O
  generalize hm : l.length = m at *
  have HM := Lib.hid hm
  clear hb hby hm
  go_enter Try.func9, Try.ntmps9
  go_wp2_with fail
  refine O.out.mono ?_
  rintro e w1 ⟨R, rfl, hR, rd1, b1⟩
  have RD := Lib.hid (r32_any w1 R _ rd1 (by omega) (by omega))
  rw [rd32_take l 8 (by decide)] at RD
  have B1 := Lib.hid b1
  have HR := Lib.hid hR
  clear rd1 b1 O e8 hR
  go_wp2_with fail
  refine RD.out.mono ?_
  rintro e w2 ⟨rfl, _, k2⟩
  have B2 := Lib.hid (B1.out.trans (k2.below (B := w.heap.size) B1.out.size (fun k h => by have := HR.out; omega)))
  clear k2 RD B1
  have F := Lib.hid (frame_any w2 (rd32 l) (some ⟨g, off + 8, none⟩) (c - 8) (midI l) (bytes_take (bytes_off (bytes_below HB.out B2.out (Nat.le_refl _)) 8) _) (by rw [midI_len, HM.out]; omega) (midI_is HY.out))
  rw [midI_len, HM.out, show m - 16 = m - 8 - 8 by omega] at F
  go_wp2_with fail
  refine F.out.mono ?_
  rintro e w3 ⟨f, rfl, hf, hr, b3⟩
  have B3 := Lib.hid (B2.out.trans (b3.mono B2.out.size))
  have hfl : (frameI (rd32 l) (midI l)).length = 16 + (m - 8 - 8) := by rw [frameI_len, midI_len, HM.out]; omega
  have EQ := Lib.hid (equal_any w3 (some ⟨f, 0, none⟩) (some ⟨g, off, none⟩) (16 + (m - 8 - 8)) c (frameI (rd32 l) (midI l)) l (bytes_row hr) (bytes_below HB.out B3.out (Nat.le_refl _)) (fun h => by cases h) (fun h => by cases h) (frameI_is (midI_is HY.out)) HY.out)
  rw [hfl, HM.out] at EQ
  have hq : isFr l = decide (frameI (rd32 l) (midI l) = l) := by
    unfold isFr
    rw [HM.out]
    simp [h16]
  rw [← hq, HF.out] at EQ
  have C := Lib.hid (clone_any w3 (some ⟨g, off + 8, none⟩) (c - 8) (midI l) (bytes_take (bytes_off (bytes_below HB.out B3.out (Nat.le_refl _)) 8) _) (fun h => by cases h) (by rw [midI_len, HM.out]; omega))
  rw [midI_len, HM.out, show m - 16 = m - 8 - 8 by omega] at C
  clear hf hr b3 F B2 hfl hq
  go_wp2_with fail
  refine EQ.out.mono ?_
  rintro e w' ⟨rfl, rfl⟩
  clear EQ
  go_wp2_with fail
  refine C.out.mono ?_
  rintro e w4 ⟨ao4, c4, rfl, n4, b4⟩
  have T4 := Lib.hid n4.told
  have BB := Lib.hid (B3.out.trans (b4.mono B3.out.size))
  clear n4 b4 C
  go_wp2_with fail
  refine bodyPost_ret (v := .tuple #[.int .u32 (rd32 l), .slice ao4 (m - 8 - 8) c4, .bool true]) (by simp [results, Try.results9, go_sem]) rfl ⟨ao4, c4, rfl, ?_, BB.out⟩
  have t := T4.out
  exact ⟨t.bytes, t.none, t.fits, fun ad e => Nat.le_trans B3.out.size (t.since ad e)⟩

set_option maxHeartbeats 4000000 in
theorem parse_no (w : World) (g off : Nat) (c : Nat) (l : List Int) (hb : Bytes w (some ⟨g, off, none⟩) l) (h16 : 16 ≤ l.length) (hl : l.length ≤ 50000) (hc : l.length ≤ c) (hby : ∀ y ∈ l, isByte y) (hF : isFr l = false) :
    Calls Try.prog 9 #[.slice (some ⟨g, off, none⟩) l.length c] w fun e w' => ∃ ao' c', e = .returned (.tuple #[.int .u32 0, .slice ao' 0 c', .bool false]) ∧ Told w.heap.size w' ao' c' [] ∧ Below w.heap.size w w' := by
  have HB := Lib.hid hb
  have HF := Lib.hid hF
  clear hF
  have HY := Lib.hid hby
  have e8 : (l.take 8).length = 8 := by rw [List.length_take]; omega
  have O := Lib.hid (open_any w (some ⟨g, off, none⟩) c (l.take 8) (bytes_take hb 8) (fun h => by cases h) (by omega) (fun y h => hby y (List.mem_of_mem_take h)))
  rw [e8] at O
  generalize hm : l.length = m at *
  have HM := Lib.hid hm
  clear hb hby hm
  go_enter Try.func9, Try.ntmps9
  go_wp2_with fail
  refine O.out.mono ?_
  rintro e w1 ⟨R, rfl, hR, rd1, b1⟩
  have RD := Lib.hid (r32_any w1 R _ rd1 (by omega) (by omega))
  rw [rd32_take l 8 (by decide)] at RD
  have B1 := Lib.hid b1
  have HR := Lib.hid hR
  clear rd1 b1 O e8 hR
  go_wp2_with fail
  refine RD.out.mono ?_
  rintro e w2 ⟨rfl, _, k2⟩
  have B2 := Lib.hid (B1.out.trans (k2.below (B := w.heap.size) B1.out.size (fun k h => by have := HR.out; omega)))
  clear k2 RD B1
  have F := Lib.hid (frame_any w2 (rd32 l) (some ⟨g, off + 8, none⟩) (c - 8) (midI l) (bytes_take (bytes_off (bytes_below HB.out B2.out (Nat.le_refl _)) 8) _) (by rw [midI_len, HM.out]; omega) (midI_is HY.out))
  rw [midI_len, HM.out, show m - 16 = m - 8 - 8 by omega] at F
  go_wp2_with fail
  refine F.out.mono ?_
  rintro e w3 ⟨f, rfl, hf, hr, b3⟩
  have B3 := Lib.hid (B2.out.trans (b3.mono B2.out.size))
  have hfl : (frameI (rd32 l) (midI l)).length = 16 + (m - 8 - 8) := by rw [frameI_len, midI_len, HM.out]; omega
  have EQ := Lib.hid (equal_any w3 (some ⟨f, 0, none⟩) (some ⟨g, off, none⟩) (16 + (m - 8 - 8)) c (frameI (rd32 l) (midI l)) l (bytes_row hr) (bytes_below HB.out B3.out (Nat.le_refl _)) (fun h => by cases h) (fun h => by cases h) (frameI_is (midI_is HY.out)) HY.out)
  rw [hfl, HM.out] at EQ
  have hq : isFr l = decide (frameI (rd32 l) (midI l) = l) := by
    unfold isFr
    rw [HM.out]
    simp [h16]
  rw [← hq, HF.out] at EQ
  have C := Lib.hid (clone_any w3 (some ⟨g, off + 8, none⟩) (c - 8) (midI l) (bytes_take (bytes_off (bytes_below HB.out B3.out (Nat.le_refl _)) 8) _) (fun h => by cases h) (by rw [midI_len, HM.out]; omega))
  rw [midI_len, HM.out, show m - 16 = m - 8 - 8 by omega] at C
  clear hf hr b3 F B2 hfl hq
  go_wp2_with fail
  refine EQ.out.mono ?_
  rintro e w' ⟨rfl, rfl⟩
  clear EQ
  clear C
  go_wp2_with fail
  refine bodyPost_ret (v := .tuple #[.int .u32 0, .slice none 0 0, .bool false]) (by simp [results, Try.results9, go_sem]) rfl ⟨none, 0, rfl, told_nil _ _, B3.out⟩

theorem parse_long (w : World) (g off : Nat) (c : Nat) (l : List Int) (hb : Bytes w (some ⟨g, off, none⟩) l) (h16 : 16 ≤ l.length) (hl : l.length ≤ 50000) (hc : l.length ≤ c) (hby : ∀ y ∈ l, isByte y) :
    Calls Try.prog 9 #[.slice (some ⟨g, off, none⟩) l.length c] w fun e w' => ∃ ao' c', e = .returned (.tuple #[.int .u32 (parT l), .slice ao' (parB l).length c', .bool (isFr l)]) ∧ Told w.heap.size w' ao' c' (parB l) ∧ Below w.heap.size w w' := by
  cases hF : isFr l with
  | true =>
    unfold parT parB
    rw [hF, if_pos rfl, if_pos rfl, midI_len, show l.length - 16 = l.length - 8 - 8 by omega]
    exact parse_yes w g off c l hb h16 hl hc hby hF
  | false =>
    unfold parT parB
    rw [hF, if_neg (by simp), if_neg (by simp)]
    exact parse_no w g off c l hb h16 hl hc hby hF

theorem parse_any (w : World) (ao : Option Addr) (c : Nat) (l : List Int) (hb : Bytes w ao l) (hl : l.length ≤ 50000) (hc : l.length ≤ c) (hby : ∀ y ∈ l, isByte y) :
    Calls Try.prog 9 #[.slice ao l.length c] w fun e w' => ∃ ao' c', e = .returned (.tuple #[.int .u32 (parT l), .slice ao' (parB l).length c', .bool (isFr l)]) ∧ Told w.heap.size w' ao' c' (parB l) ∧ Below w.heap.size w w' := by
  by_cases h16 : 16 ≤ l.length
  · obtain ⟨g, off, rfl⟩ := bytes_some w ao l hb (by omega)
    exact parse_long w g off c l hb h16 hl hc hby
  · have hF := isFr_short l (by omega)
    refine (parse_short w ao c l.length (by omega)).mono ?_
    rintro e w' ⟨rfl, rfl⟩
    unfold parT parB
    rw [hF, if_neg (by simp), if_neg (by simp)]
    exact ⟨none, 0, rfl, told_nil _ _, Below.refl _ _⟩
end Go.Proofs.Ytibbomeeoobgkaa
