/- What was changed shows in the sum of its page alone, and is gone when it is changed back, for every input (MerkleFinds). -/
import Derived.Test.YtfbcjigekmgbnaaRows
import Derived.Test.YtfbcjigekmgbnaaKno
import Derived.Test.YtfbcjigekmgbnaaPair
import Derived.Test.YtfbcjigekmgbnaaHlp
import Derived.Test.YtfbcjigekmgbnaaOpen
import Derived.WalkKit
import Derived.ProofKit
import Derived.OpenShut
import Derived.ShutString
import Derived.ChangeOld
import Derived.Below
namespace Go.Proofs.Ytfbcjigekmgbnaa.merkleFinds
open Go.ChangeShapes Go.WideShapes Go.ChangeAt Go.RowKit
set_option maxRecDepth 100000

theorem own : ownKnob Try.prog.godebug = none := by kernel_rfl
theorem laidOut : laidOutB Try.prog = true := by kernel_rfl

/-- one place changed -/
theorem pageB_other (V T R : Nat → Int) (k p : Nat) (x : Int) (hk : k < 64) (hp : p < 8) (h : p ≠ k % 7) : pageB (upd V k x) T R p = pageB V T R p := by
  unfold pageB
  split
  · rfl
  · refine pg_ext _ _ p 64 p (by omega) rfl (fun i hi hm => ?_)
    unfold upd
    rw [if_neg]
    intro e
    subst e
    omega
theorem sums_other (V T R : Nat → Int) (k p : Nat) (x : Int) (hk : k < 64) (hp : p < 8) (h : p ≠ k % 7) : (sumsI (upd V k x) T R).getD p 0 = (sumsI V T R).getD p 0 := by
  rw [sumsI_get _ _ _ _ hp, sumsI_get _ _ _ _ hp, pageB_other V T R k p x hk hp h]
theorem upd_same (V : Nat → Int) (k : Nat) : upd V k (V k) = V := by
  funext i
  unfold upd
  split
  · rename_i e; rw [e]
  · rfl
theorem upd_back (V : Nat → Int) (k : Nat) (x : Int) : upd (upd V k x) k (V k) = V := by
  funext i
  unfold upd
  split
  · rename_i e; rw [e]
  · rfl
theorem list_ext8 {a b : List Int} (ha : a.length = 8) (hb : b.length = 8) (h : ∀ p, p < 8 → a.getD p 0 = b.getD p 0) : a = b := by
  refine List.ext_getElem? fun i => ?_
  by_cases hi : i < 8
  · have := h i hi
    have h1 : i < a.length := by omega
    have h2 : i < b.length := by omega
    simp only [List.getD_eq_getElem?_getD, List.getElem?_eq_getElem h1, List.getElem?_eq_getElem h2, Option.getD_some] at this
    rw [List.getElem?_eq_getElem h1, List.getElem?_eq_getElem h2, this]
  · rw [List.getElem?_eq_none (by omega), List.getElem?_eq_none (by omega)]
theorem one_place : ∀ x : Fin 8, ((List.range 8).filter (fun p => decide (p = x.1))) = [x.1] := by decide
theorem unl_one (a b : List Int) (q : Nat) (ha : a.length = 8) (hb : b.length = 8) (hq : q < 8) (h : ∀ p, p < 8 → p ≠ q → a.getD p 0 = b.getD p 0) (hne : a.getD q 0 ≠ b.getD q 0) : unlTo a b 8 = [(q : Int)] := by
  unfold unlTo
  have hf : (List.range 8).filter (unlP a b) = (List.range 8).filter (fun p => decide (p = q)) := by
    refine List.filter_congr fun p hp => ?_
    have hp := List.mem_range.1 hp
    rw [unlP_in ha hb]
    by_cases e : p = q
    · subst e; rw [decide_eq_true rfl]; simp only [bne_iff_ne]; exact hne
    · rw [decide_eq_false e, h p hp e]; simp
  rw [hf, one_place ⟨q, hq⟩]
  rfl
/-- a map in memory -/
def OM (w wr : World) (A : Nat) (V : Nat → Int) : Prop := Mp wr A V nul nul ∧ Below w.heap.size w wr ∧ w.heap.size ≤ A
theorem OM.kept {w wr w' : World} {A : Nat} {V : Nat → Int} (h : OM w wr A V) (b : Below wr.heap.size wr w') : OM w w' A V := ⟨h.1.below b h.1.lt, h.2.1.trans (b.mono h.2.1.size), h.2.2⟩
theorem OM.put {w wr w' : World} {A : Nat} {V V' : Nat → Int} (h : OM w wr A V) (k : Kept (fun i => i = A) wr w') (m : Mp w' A V' nul nul) : OM w w' A V' :=
  ⟨m, h.2.1.trans (k.below h.2.1.size (fun j e => by have := h.2.2; omega)), h.2.2⟩
theorem new_kept {H : Nat} {w w' : World} {ao : Option Addr} {c : Nat} {l : List Int} (h : New H w ao c l) (b : Below w.heap.size w w') : Bytes w' ao l := bytes_kept (own_bytes h.1) (Kept.ofBelow (S := fun _ => False) b) (fun _ _ _ h => h)

set_option maxHeartbeats 16000000 in
theorem core (ak : Option Addr) (l : List Int) (ck : Nat) (key : Nat) (val : Int) (w : World) (hb : Bytes w ak l) (hby : ∀ x ∈ l, isByte x) (hkey : key ≤ 255) (h1 : l.length ≤ 80) :
    Calls Try.prog 4 #[.slice ak l.length ck, .int .u8 key, .int .u16 val] w fun e w' => e = .returned (.bool true) ∧ Below w.heap.size w w' := by
  have KN := Lib.hid (known_any w)
  have d1 : decide (80 < (l.length : Int)) = false := by rw [decide_eq_false_iff_not]; omega
  have HI := Lib.hid (And.intro hb (And.intro hby hkey))
  obtain ⟨n, hn⟩ : ∃ n, n = l.length := ⟨_, rfl⟩
  rw [← hn] at d1 h1
  rw [← hn]
  have HN := Lib.hid (And.intro hn h1)
  obtain ⟨k, hk⟩ : ∃ k, k = key % 64 := ⟨_, rfl⟩
  have ek : ((key : Int) % 64) = (k : Int) := by omega
  have hk64 : k < 64 := by omega
  obtain ⟨q, hq⟩ : ∃ q, q = k % 7 := ⟨_, rfl⟩
  have eq7 : ((k : Int) % 7) = (q : Int) := by omega
  have hq7 : q < 7 := by omega
  have HQ := Lib.hid hq
  clear hb hby h1 hn hk hkey hq
  go_enter Try.func4, Try.ntmps4
  go_wp2_with fail
  refine KN.out.mono ?_
  rintro e w1 ⟨rfl, b1⟩
  have NW := Lib.hid (map_new w1)
  have b2 : Below w.heap.size w (w1.alloc (.cells (mapL nul nul nul).toArray 66)) := b1.alloc b1.size _
  have hA := mp_new w1
  obtain ⟨w2, hw2⟩ : ∃ w2, w2 = w1.alloc (.cells (mapL nul nul nul).toArray 66) := ⟨_, rfl⟩
  rw [← hw2] at b2 hA NW
  have K0 : OM w w2 w1.heap.size nul := ⟨hA, b2, b1.size⟩
  replace K0 := Lib.hid K0
  clear b1 b2 hA hw2
  go_wp2_with fail
  refine NW.out.mono ?_
  rintro e w4 ⟨rfl, rfl⟩
  clear NW KN
  go_wp2_with fail
  generalize w1.heap.size = A at *
  go_loopw [8] (fun v8 wr => ∃ (j : Nat) (V : Nat → Int), v8 = .int .i64 j ∧ j ≤ n ∧ Hid (OM w wr A V)) (fun v8 _ => n - (intOf v8).toNat)
  case atStart => exact ⟨0, _, rfl, by omega, K0⟩
  case round =>
    obtain ⟨j, V, rfl, hj, I⟩ := hrel
    by_cases hjn : j < n
    · have hjn' : (j : Int) < n := by omega
      have hj80 : (j : Int) < 80 := by have := HN.out; omega
      have hlt : j < l.length := by have := HN.out.1; omega
      obtain ⟨g, off, hao, hcell⟩ := bytes_at (bytes_below HI.out.1 I.out.2.1 (Nat.le_refl _)) (by omega)
      subst hao
      have hx := hcell j hlt
      have hx0 : isByte (l.getD j 0) := by
        rw [List.getD_eq_getElem?_getD, List.getElem?_eq_getElem hlt]
        exact HI.out.2.1 _ (List.getElem_mem hlt)
      generalize l.getD j 0 = x at hx hx0
      obtain ⟨kx, rfl⟩ : ∃ kx : Nat, x = kx := ⟨x.toNat, by unfold isByte at hx0; omega⟩
      clear hlt hcell hx0
      have P := fun y : Int => put_any wr A kx y V nul nul I.out.1
      replace P := Lib.hid P
      go_wp2_with fail
      refine (P.out _).mono ?_
      rintro e w4 ⟨rfl, k4, m4⟩
      have I4 := Lib.hid (I.out.put k4 m4)
      clear P k4 m4 hx
      go_wp2_with fail
      exact ⟨⟨j + 1, _, by go_num, by omega, I4⟩, by simp [intOf]; omega⟩
    · have hjn' : ¬ (j : Int) < n := by omega
      have O1 := Lib.hid (sums_any wr A V nul nul I.out.1)
      obtain ⟨s, hs⟩ : ∃ s, s = sumsI V nul nul := ⟨_, rfl⟩
      have hls : s.length = 8 := by rw [hs]; exact sumsI_len _ _ _
      have HS := Lib.hid (And.intro hs hls)
      rw [← hs] at O1
      clear hs hls K0
      go_wp2_with fail
      refine O1.out.mono ?_
      rintro e w5 ⟨E, rfl, hE, hEl, b5⟩
      have HEA : Hid (E ≠ A) := Lib.hid (by have := I.out.1.lt; omega)
      have J5 := Lib.hid (I.out.kept b5)
      have Q5 := Lib.hid (qs_block hE)
      have O5 := of_any w5 A V nul nul J5.out.1
      rw [← HS.out.1] at O5
      replace O5 := Lib.hid O5
      generalize hr : rI s = r at O5
      have HR := Lib.hid hr
      clear O1 I b5 hE hEl hr
      go_wp2_with fail
      refine O5.out.mono ?_
      rintro e w6 ⟨rfl, b6⟩
      have J6 := Lib.hid (J5.out.kept b6)
      have Q6 := Lib.hid (qs_below Q5.out b6)
      have O6 := get_any w6 A k V nul nul J6.out.1
      rw [if_pos hk64] at O6
      replace O6 := Lib.hid O6
      clear O5 J5 Q5 b6
      go_wp2_with fail
      refine O6.out.mono ?_
      rintro e w7 ⟨rfl, rfl⟩
      have O7 := Lib.hid (page_any w7 A q V nul nul J6.out.1 (by omega))
      clear O6
      obtain ⟨old, hold⟩ : ∃ old, old = V k := ⟨_, rfl⟩
      rw [← hold]
      replace hold := Lib.hid hold
      go_wp2_with fail
      refine O7.out.mono ?_
      rintro e w8 ⟨ap, cp, rfl, n8, b8⟩
      have HA7 := Lib.hid J6.out.1.lt
      have J8 := Lib.hid (J6.out.kept b8)
      have Q8 := Lib.hid (qs_below Q6.out b8)
      have N8 := Lib.hid n8
      have O8 := put_any w8 A k val V nul nul J8.out.1
      rw [if_pos hk64] at O8
      replace O8 := Lib.hid O8
      clear O7 J6 Q6 n8 b8
      obtain ⟨pl, hpl⟩ : ∃ pl, pl = (pageB V nul nul q).length := ⟨_, rfl⟩
      rw [← hpl]
      replace hpl := Lib.hid hpl
      go_wp2_with fail
      refine O8.out.mono ?_
      rintro e w9 ⟨rfl, k9, m9⟩
      have J9 := Lib.hid (J8.out.put k9 m9)
      have Q9 := Lib.hid (qs_kept Q8.out k9 (fun ad e _ => by injection e with e; subst e; exact HEA.out))
      have N9 := Lib.hid (bytes_kept (own_bytes N8.out.1) k9 (fun ad e _ h => by have := N8.out.2 ad e; have := HA7.out; omega))
      have O9 := Lib.hid (sums_any w9 A (upd V k val) nul nul J9.out.1)
      obtain ⟨t, ht⟩ : ∃ t, t = sumsI (upd V k val) nul nul := ⟨_, rfl⟩
      have hlt8 : t.length = 8 := by rw [ht]; exact sumsI_len _ _ _
      have HT := Lib.hid (And.intro ht hlt8)
      rw [← ht] at O9
      clear O8 J8 Q8 k9 m9 ht hlt8
      go_wp2_with fail
      refine O9.out.mono ?_
      rintro e x1 ⟨F, rfl, hF, hFl, b1⟩
      have J1 := Lib.hid (J9.out.kept b1)
      have Q1 := Lib.hid (And.intro (qs_below Q9.out b1) (bytes_kept N9.out (Kept.ofBelow (S := fun _ => False) b1) (fun _ _ _ h => h)))
      have O1 := Lib.hid (unlike_any x1 (some ⟨E, 0, none⟩) (some ⟨F, 0, none⟩) 8 8 8 8 s t Q1.out.1 (qs_block hF) HS.out.2 HT.out.2)
      clear O9 J9 Q9 N9 b1 hF hFl
      go_wp2_with fail
      refine O1.out.mono ?_
      rintro e x2 ⟨au, cu, rfl, hu, -, b2⟩
      have J2 := Lib.hid (J1.out.kept b2)
      have Q2 := Lib.hid (And.intro hu (And.intro (qs_below Q1.out.1 b2) (bytes_kept Q1.out.2 (Kept.ofBelow (S := fun _ => False) b2) (fun _ _ _ h => h))))
      clear O1 J1 Q1 b2 hu
      have gs : s.getD q 0 = leafI q (pageB V nul nul q) := by rw [HS.out.1, sumsI_get _ _ _ _ (by omega)]
      have gt : t.getD q 0 = leafI q (pageB (upd V k val) nul nul q) := by rw [HT.out.1, sumsI_get _ _ _ _ (by omega)]
      have hoth : ∀ p, p < 8 → p ≠ q → s.getD p 0 = t.getD p 0 := fun p hp hne => by
        rw [HS.out.1, HT.out.1]
        exact (sums_other V nul nul k p val hk64 hp (by rw [← HQ.out]; exact hne)).symm
      have HO := Lib.hid (And.intro hoth (And.intro gs gt))
      obtain ⟨us, hus⟩ : ∃ us, us = unlTo s t 8 := ⟨_, rfl⟩
      have HU := Lib.hid hus
      rw [← hus] at Q2 ⊢
      clear hoth gs gt hus
      by_cases hov : old = val
      · have hst : s = t := by rw [HS.out.1, HT.out.1, ← hov, hold.out, upd_same]
        obtain rfl : us = [] := by rw [HU.out, ← hst]; exact unl_same s HS.out.2
        have hb : (old == val) = true := by simpa using hov
        have O2 := of_any x2 A (upd V k val) nul nul J2.out.1
        rw [← HT.out.1, ← hst, HR.out] at O2
        replace O2 := Lib.hid O2
        have L0 : ((([] : List Int).length : Nat) : Int) = 0 := rfl
        clear hst hov
        go_wp2_with fail
        refine O2.out.mono ?_
        rintro e x3 ⟨rfl, b3⟩
        have B3 := Lib.hid (J2.out.kept b3).2.1
        clear O2 J2 Q2 b3
        go_wp2_with fail
        go_ret
        exact ⟨rfl, B3.out⟩
      have hb : (old == val) = false := by simpa using hov
      have O2 := leaf_any x2 q ap cp (pageB V nul nul q) Q2.out.2.2 (fun e => N8.out.none e) (by have := pageB_short V nul nul q; omega)
      obtain ⟨sq, hsq⟩ : ∃ sq, sq = s.getD q 0 := ⟨_, rfl⟩
      obtain ⟨tq, htq⟩ : ∃ tq, tq = t.getD q 0 := ⟨_, rfl⟩
      have HSQ := Lib.hid (And.intro hsq htq)
      clear hsq htq
      rw [← HO.out.2.1, ← hpl.out, ← HSQ.out.1] at O2
      replace O2 := Lib.hid O2
      go_wp2_with fail
      refine O2.out.mono ?_
      rintro e x3 ⟨rfl, b3⟩
      have J3 := Lib.hid (J2.out.kept b3)
      have Q3 := Lib.hid (And.intro (ns_below Q2.out.1 b3) (qs_below Q2.out.2.1 b3))
      have O3 := Lib.hid (page_any x3 A q (upd V k val) nul nul J3.out.1 (by omega))
      clear O2 J2 Q2 b3
      go_wp2_with fail
      refine O3.out.mono ?_
      rintro e x4 ⟨ap2, cp2, rfl, n4, b4⟩
      have J4 := Lib.hid (J3.out.kept b4)
      have Q4 := Lib.hid (And.intro (ns_below Q3.out.1 b4) (qs_below Q3.out.2 b4))
      have O4 := leaf_any x4 q ap2 cp2 (pageB (upd V k val) nul nul q) (own_bytes n4.1) (fun e => n4.none e) (by have := pageB_short (upd V k val) nul nul q; omega)
      rw [← HO.out.2.2, ← HSQ.out.2] at O4
      replace O4 := Lib.hid O4
      clear O3 J3 Q3 b4 n4
      generalize (pageB (upd V k val) nul nul q).length = pl2 at O4 ⊢
      by_cases hqq : sq = tq
      · have hst : s = t := list_ext8 HS.out.2 HT.out.2 (fun p hp => by
          by_cases e : p = q
          · rw [e, ← HSQ.out.1, ← HSQ.out.2]; exact hqq
          · exact HO.out.1 p hp e)
        obtain rfl : us = [] := by rw [HU.out, ← hst]; exact unl_same s HS.out.2
        have hqb : (sq == tq) = true := by simpa using hqq
        go_wp2_with fail
        refine O4.out.mono ?_
        rintro e x5 ⟨rfl, b5⟩
        have J5 := Lib.hid (J4.out.kept b5)
        have O5 := of_any x5 A (upd V k val) nul nul J5.out.1
        rw [← HT.out.1, ← hst, HR.out] at O5
        replace O5 := Lib.hid O5
        clear O4 J4 Q4 b5 hst hqq
        go_wp2_with fail
        refine O5.out.mono ?_
        rintro e x6 ⟨rfl, b6⟩
        have B6 := Lib.hid (J5.out.kept b6).2.1
        clear O5 J5 b6
        go_wp2_with fail
        go_ret
        exact ⟨rfl, B6.out⟩
      · obtain rfl : us = [(q : Int)] := by rw [HU.out]; exact unl_one s t q HS.out.2 HT.out.2 (by omega) HO.out.1 (by rw [← HSQ.out.1, ← HSQ.out.2]; exact hqq)
        have hqb : (sq == tq) = false := by simpa using hqq
        go_wp2_with fail
        refine O4.out.mono ?_
        rintro e x5 ⟨rfl, b5⟩
        have J5 := Lib.hid (J4.out.kept b5)
        have Q5 := Lib.hid (And.intro (ns_below Q4.out.1 b5) (qs_below Q4.out.2 b5))
        clear O4 J4 Q4 b5 hqq
        have k6 : Below x5.heap.size x5 (x5.alloc (.cells #[.int .i64 q] 3)) := (Below.refl _ x5).alloc (Nat.le_refl _) _
        have O6 := hInts_any (x5.alloc (.cells #[.int .i64 q] 3)) au (some ⟨x5.heap.size, 0, none⟩) 1 1 cu 1 [(q : Int)] [(q : Int)] (ns_below Q5.out.1 k6) (ns_one .i64 x5 q 3) rfl rfl (by omega)
        rw [decide_eq_true rfl] at O6
        have J6 := Lib.hid (J5.out.kept k6)
        have Q6 := Lib.hid (qs_below Q5.out.2 k6)
        replace O6 := Lib.hid O6
        clear J5 Q5 k6
        go_wp2_with fail
        refine O6.out.mono ?_
        rintro e x7 ⟨rfl, b7⟩
        have J7 := Lib.hid (J6.out.kept b7)
        have Q7 := Lib.hid (qs_below Q6.out b7)
        have O7 := put_any x7 A k old (upd V k val) nul nul J7.out.1
        rw [if_pos hk64, hold.out, upd_back] at O7
        rw [← hold.out] at O7
        replace O7 := Lib.hid O7
        clear O6 J6 Q6 b7
        go_wp2_with fail
        refine O7.out.mono ?_
        rintro e x8 ⟨rfl, k8, m8⟩
        have J8 := Lib.hid (J7.out.put k8 m8)
        have Q8 := Lib.hid (qs_kept Q7.out k8 (fun ad e _ => by injection e with e; subst e; exact HEA.out))
        have O8 := of_any x8 A V nul nul J8.out.1
        rw [← HS.out.1, HR.out] at O8
        replace O8 := Lib.hid O8
        clear O7 J7 Q7 k8 m8
        go_wp2_with fail
        refine O8.out.mono ?_
        rintro e x9 ⟨rfl, b9⟩
        have J9 := Lib.hid (J8.out.kept b9)
        have Q9 := Lib.hid (qs_below Q8.out b9)
        have O9 := sums_any x9 A V nul nul J9.out.1
        rw [← HS.out.1] at O9
        replace O9 := Lib.hid O9
        clear O8 J8 Q8 b9
        go_wp2_with fail
        refine O9.out.mono ?_
        rintro e y1 ⟨G, rfl, hG, hGl, b1⟩
        have J1 := Lib.hid (J9.out.kept b1)
        have O1 := hSums_any y1 (some ⟨G, 0, none⟩) (some ⟨E, 0, none⟩) 8 8 8 8 s s (qs_block hG) (qs_below Q9.out b1) HS.out.2 HS.out.2 (by omega)
        rw [decide_eq_true rfl] at O1
        replace O1 := Lib.hid O1
        clear O9 J9 Q9 b1 hG hGl
        go_wp2_with fail
        refine O1.out.mono ?_
        rintro e y2 ⟨rfl, b2⟩
        have B2 := Lib.hid (J1.out.kept b2).2.1
        clear O1 J1 b2
        go_wp2_with fail
        go_ret
        exact ⟨rfl, B2.out⟩

theorem long0 (ak : Option Addr) (n ck : Nat) (key val : Int) (w : World) (hl : ¬ n ≤ 80) :
    Calls Try.prog 4 #[.slice ak n ck, .int .u8 key, .int .u16 val] w fun e w' => e = .returned (.bool true) ∧ Below w.heap.size w w' := by
  have KN := Lib.hid (known_any w)
  have d1 : decide (80 < (n : Int)) = true := by rw [decide_eq_true_iff]; omega
  clear hl
  go_enter Try.func4, Try.ntmps4
  go_wp2_with fail
  refine KN.out.mono ?_
  rintro e w1 ⟨rfl, b1⟩
  have B1 := Lib.hid b1
  clear b1 KN
  go_wp2_with fail
  go_ret
  exact ⟨rfl, B1.out⟩

theorem walk (ak : Option Addr) (l : List Int) (ck : Nat) (key val : Int) (w : World) (hb : Bytes w ak l) (hby : ∀ x ∈ l, isByte x) (_ : l.length ≤ ck) (_ : ak = none → ck = 0) (hk : 0 ≤ key ∧ key ≤ 255) (_ : 0 ≤ val ∧ val ≤ 65535) :
    Calls Try.prog 4 #[.slice ak l.length ck, .int .u8 key, .int .u16 val] w fun e w' => e = .returned (.bool true) ∧ Below w.heap.size w w' := by
  obtain ⟨key, rfl⟩ := Int.eq_ofNat_of_zero_le hk.1
  by_cases h : l.length ≤ 80
  · exact core ak l ck key val w hb hby (by omega) h
  · exact long0 ak l.length ck key val w h


theorem lifted (os : Os) (started : os.Started) (H : Type) (enc : TypeId × Value → H) :
    ReturnsInHanded {} Try.checked os 4 .any (Rows.merkleFindsSpec.pre6 enc Try.prog Try.f4 Rows.merkleFindsRow.domain false) (Rows.merkleFindsSpec.post enc Try.prog Try.f4 false true false false) := by
  refine returnsInHanded_of_change (C := Try.checked) own started (by kernel_rfl) Try.func4
    (ChangeSpec.witness6 (enc := enc) (C := Try.checked) false ⟨#[], #[.slice none 0 0, .int .u8 0, .int .u16 0], []⟩ 8 (by kernel_rfl) (by kernel_rfl) (by kernel_rfl) (by kernel_rfl)) ?_
  intro W base args ds gs before hval0 hW hcnd _
  have hval : ∀ (j : Nat) t v, Try.f4.params[j]? = some t → args[j]? = some v → Value.okWide Try.prog W .any base t v := hval0
  have hW' := hW
  obtain ⟨p, q, hA0, hV, rfl, hfz, hnd⟩ := hW
  have hA : DataW.TrodAll enc Try.prog W 0 (fun _ => true) true Try.f4.params.toList args.toList ds p := hA0
  rw [Try.params4] at hA hval
  obtain ⟨v0, vs0, d0, ds0, p0, q0, hargs, rfl, rfl, h0, r0⟩ := trodAll_cons hA
  obtain ⟨v1, vs1, d1, ds1, p1, q1, rfl, rfl, rfl, h1, r1⟩ := trodAll_cons r0
  obtain ⟨v2, vs2, d2, ds2, p2, q2, rfl, rfl, rfl, h2, r2⟩ := trodAll_cons r1
  obtain ⟨rfl, rfl, rfl⟩ := trodAll_nil r2
  obtain rfl : args = #[v0, v1, v2] := by cases args; simp_all
  obtain ⟨rfl, rfl⟩ := trodVars_none hV
  have k0 := h0
  have lt0 : ∀ x ∈ p0, x.block < W.heap.size := by obtain ⟨m, hm⟩ := k0; exact DataW.trod_lt m _ _ _ hm
  obtain ⟨ax0, ln0, cx0, rfl⟩ := okWide_slice Try.underlying22 (hval 0 22 v0 rfl rfl)
  obtain ⟨a0, l0, c0, hv0, hb0, hby0, hcap0, hno0⟩ : ∃ (ao : Option Addr) (l : List Int) (cap : Nat), Value.slice ax0 ln0 cx0 = .slice ao l.length cap ∧ Bytes W ao l ∧ (∀ y ∈ l, isByte y) ∧ l.length ≤ cap ∧ (ao = none → cap = 0) := by
    obtain ⟨fuel, hf⟩ := h0
    exact open_bytes (by simpa [Value.cells] using hf)
  injection hv0 with hv0a hv0b hv0c
  subst hv0a hv0b hv0c
  obtain ⟨a1, rfl, rfl, rfl, w1⟩ := open_int Try.underlying5 (hval 1 5 v1 rfl rfl) h1
  have b1 : 0 ≤ a1 ∧ a1 ≤ 255 := by simpa [Lit.wf, IntKind.min, IntKind.max, IntKind.signed, IntKind.bits] using w1
  obtain ⟨a2, rfl, rfl, rfl, w2⟩ := open_int Try.underlying29 (hval 2 29 v2 rfl rfl) h2
  have b2 : 0 ≤ a2 ∧ a2 ≤ 65535 := by simpa [Lit.wf, IntKind.min, IntKind.max, IntKind.signed, IntKind.bits] using w2
  clear hA0 hval0
  refine (walk ax0 l0 cx0 a1 a2 W hb0 hby0 hcap0 hno0 b1 b2).mono fun e W' ⟨he, bel⟩ => ?_
  subst he
  exact ⟨_, rfl, _, _, _, [], _, [], hW', trodAll_mk1 (shut_bool Try.underlying4 _), (trodAll_cons_mk (Below.trod laidOut (by kernel_rfl) (of_decide_eq_true (by kernel_rfl)) k0 bel lt0) (trodAll_cons_mk (shut_int Try.underlying5 w1) (trodAll_cons_mk (shut_int Try.underlying29 w2) trodAll_mk0))), rfl, bel.frame _, fun h => by cases h⟩

theorem over : Rows.merkleFindsRow.holds Try.pinned (OpenSpec.ofChange Rows.merkleFindsSpec) :=
  OpenClaim.holds_of_wide 4 Try.f4 rfl rfl rfl rfl rfl rfl rfl ⟨rfl, rfl, rfl, rfl, rfl⟩ rfl rfl rfl rfl rfl (by kernel_rfl) Try.func4 (by kernel_rfl)
    (of_decide_eq_true (by kernel_rfl)) (by unfold Func.isWrapper; first | (rw [if_pos (by decide +kernel)]; kernel_rfl) | (rw [if_neg (by decide +kernel)]; exact ⟨rfl, rfl⟩))
    (fun os started H enc _ => lifted os started H enc)

theorem proved : Rows.MerkleFindsSaid := over
#print axioms proved
end Go.Proofs.Ytfbcjigekmgbnaa.merkleFinds
