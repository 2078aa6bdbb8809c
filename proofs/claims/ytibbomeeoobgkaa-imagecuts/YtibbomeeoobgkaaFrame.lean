/- Frame: what it answers, for every turn and bytes. -/
import Derived.Test.YtibbomeeoobgkaaPure
import Derived.Test.YtibbomeeoobgkaaDKnown
namespace Go.Proofs.Ytibbomeeoobgkaa
open Go.RowKit
set_option maxRecDepth 100000

theorem take_len_le (l : List Value) (n : Nat) (h : n ≤ l.length) : (l.take n).length = n := by rw [List.length_take]; omega

/-- bytes are copied into a row that the call made -/
theorem copy_into (w : World) (g off n c : Nat) (cur : List Value) (ao : Option Addr) (cap : Nat) (l : List Int) (hg : w.heap[g]? = some (.cells cur.toArray 5 (0, 0))) (hfit : off + l.length ≤ cur.length) (hn : l.length ≤ n) (hb : Bytes w ao l) :
    ∃ w2, (Builtin.copy_ #[23, 23] 3 #[.slice (some ⟨g, off, none⟩) n c, .slice ao l.length cap]).run Try.prog w = .ok (goInt l.length) w2 ∧ w2.heap[g]? = some (.cells (cur.take off ++ vals l ++ cur.drop (off + l.length)).toArray 5 (0, 0)) ∧ Kept (fun k => k = g) w w2 := by
  have hlv : (vals l).length = l.length := by simp [vals]
  by_cases h0 : l.length = 0
  · obtain rfl : l = [] := List.eq_nil_of_length_eq_zero h0
    refine ⟨w, run_copy_none w 23 23 3 5 _ _ _ _ _ _ Try.underlying23 byte_size (Nat.min_eq_left (Nat.zero_le _)), ?_, Kept.refl _ _⟩
    simpa [vals] using hg
  · obtain ⟨ad, rfl, _⟩ := hb 0 (by omega)
    have hrun := run_copy_row (P := Try.prog) w 23 23 3 5 g off n c ad l.length cap cur.toArray 5 (vals l) Try.underlying23 byte_size hg (by rw [hlv]; exact (Nat.min_eq_left hn).symm) (by
      intro j v hj
      obtain ⟨hj', rfl⟩ := List.getElem?_eq_some_iff.1 hj
      rw [hlv] at hj'
      obtain ⟨ad', e, h2⟩ := hb j hj'
      injection e with e; subst e
      rw [h2]; simp [vals, List.getElem?_eq_getElem hj']) (by simp [hlv]; omega) (vals_one l)
    rw [hlv] at hrun
    refine ⟨_, hrun, setRow_heap w _ _ _ 5 _ hg, ⟨rfl, rfl, rfl, by simp, fun k _ hk => setRow_other w g k _ hk⟩⟩

/-- a row of so many bytes is made, whatever is in it -/
theorem make_row (w : World) (n : Nat) (hn : n ≤ 1000000) : ∃ w1, (Instr.makeSlice 23 (.int .i64 (n : Int)) (.int .i64 (n : Int))).run Try.prog w = .ok (.slice (some ⟨w.heap.size, 0, none⟩) n n) w1 ∧ (∃ cur : List Value, w1.heap[w.heap.size]? = some (.cells cur.toArray 5 (0, 0)) ∧ cur.length = n) ∧ Below w.heap.size w w1 := by
  obtain ⟨i0, hi0, hz0, hz1, hz2⟩ := info_parts byte_info
  obtain ⟨w1, hmk, ho, hgr⟩ := run_make_full (P := Try.prog) w 0 23 5 i0 _ 1 Try.underlying23 hi0 hz0 hz1 .i64 .i64 n (by rw [hz2]; omega) (by simp only [maxLen]; omega) (Nat.zero_le _)
  refine ⟨w1, hmk, ?_, (Kept.ofGrown hgr).below (Nat.le_refl _) (fun k h => by cases h)⟩
  rcases ho.2 with ⟨h, _⟩ | ⟨g, cap, cur, hv, _, hg, _, _, hs, _⟩
  · cases h
  · injection hv with h1 h2 h3
    injection h1 with h1
    injection h1 with h1
    subst h1 h3
    exact ⟨cur.toList, by simpa using hg, by simpa using hs⟩

theorem head4 (t : Int) : [t / 16777216 % 256, t / 65536 % 256, t / 256 % 256, t % 256] = be t 4 := by simp [be, byteAt]
theorem be_eight (x : Int) : be8 x = be x 8 := by simp [be8, be, byteAt]

/-- the first bytes of a row -/
theorem bytes_pre {w : World} {g : Nat} {l : List Int} {r : List Value} {T : TypeId} (h : w.heap[g]? = some (.cells (vals l ++ r).toArray T (0, 0))) : Bytes w (some ⟨g, 0, none⟩) l := by
  intro i hi
  refine ⟨_, rfl, ?_⟩
  have e : (⟨g, 0, none⟩ : Addr).add i = ⟨g, i, none⟩ := by unfold Addr.add; split <;> simp_all
  rw [e]
  have hv : i < (vals l).length := by simp [vals, hi]
  simp only [World.cell?, h]
  rw [List.getElem?_toArray, List.getElem?_append_left hv]
  simp [vals, List.getElem?_eq_getElem hi]

theorem frame_last (f : Nat) (t : Int) (l : List Int) (m : Nat) (cur : List Value) (w w9 : World) (hm : l.length = m) (hlen : cur.length = 16 + m) (hHf : w.heap.size ≤ f)
    (h9 : w9.heap[f]? = some (.cells (vals (headI t l) ++ cur.drop (8 + m)).toArray 5 (0, 0))) (hb9 : Below w.heap.size w w9) (w10 : World) (ao : Option Addr) (c : Nat) (n10 : New w9.drew.heap.size w10 ao c (be (sumI (headI t l)) 8)) (b10 : Below w9.drew.heap.size w9.drew w10) :
    ∃ w11, (Builtin.copy_ #[23, 23] 3 #[.slice (some ⟨f, 8 + m, none⟩) (16 + m - (8 + m)) (16 + m - (8 + m)), .slice ao 8 c]).run Try.prog w10 = .ok (goInt (8 : Nat)) w11 ∧ w11.heap[f]? = some (.cells (vals (frameI t l)).toArray 5 (0, 0)) ∧ Below w.heap.size w w11 := by
  have h10 : w10.heap[f]? = _ := (b10.block f (lt_of_block h9)).trans h9
  have hv : (vals (headI t l)).length = 8 + m := by simp [vals, headI_len, hm]
  have e8 := be_length (sumI (headI t l)) 8
  obtain ⟨w11, cp, hc, k⟩ := copy_into w10 f (8 + m) (16 + m - (8 + m)) (16 + m - (8 + m)) _ ao c (be (sumI (headI t l)) 8) h10 (by rw [List.length_append, List.length_drop, hlen, hv, e8]; omega) (by rw [e8]; omega) (own_bytes n10.1)
  rw [e8] at cp hc
  rw [List.take_left' hv, List.drop_append, hv, List.drop_eq_nil_of_le (by rw [hv]; omega), List.nil_append, List.drop_drop, List.drop_eq_nil_of_le (by rw [hlen]; omega), List.append_nil] at hc
  have hh : vals (headI t l) ++ vals (be (sumI (headI t l)) 8) = vals (frameI t l) := by unfold frameI; simp [vals]
  rw [hh] at hc
  have hb10 : Below w.heap.size w w10 := (hb9.drew).trans (b10.mono (by have := hb9.size; exact this))
  exact ⟨w11, cp, hc, hb10.trans (k.below hb10.size (fun k e => e ▸ hHf))⟩

set_option maxHeartbeats 4000000 in
theorem frame_any (w : World) (t : Int) (ao : Option Addr) (c : Nat) (l : List Int) (hb : Bytes w ao l) (hl : l.length ≤ 100000) (hby : ∀ y ∈ l, isByte y) :
    Calls Try.prog 11 #[.int .u32 t, .slice ao l.length c] w fun e w' => ∃ g, e = .returned (.slice (some ⟨g, 0, none⟩) (16 + l.length) (16 + l.length)) ∧ w.heap.size ≤ g ∧ w'.heap[g]? = some (.cells (vals (frameI t l)).toArray 5 (0, 0)) ∧ Below w.heap.size w w' := by
  have HB := Lib.hid hb
  have HY := Lib.hid hby
  have hl2 : (l.length : Int) % 4294967296 = (l.length : Int) := by omega
  generalize hm : l.length = m at *
  have HM := Lib.hid hm
  clear hb hby hm
  go_enter Try.func11, Try.ntmps11
  go_wp2_with fail
  refine (new_own w.heap.size w w (Below.refl _ _) (Nat.le_refl _)).mono ?_
  rintro e w1 ⟨B, rfl, o1⟩
  have O1 := Lib.hid o1
  clear o1
  go_wp2_with fail
  refine (u32_own w.heap.size w w1 B _ t O1.out (by decide)).mono ?_
  rintro e w2 ⟨rfl, o2⟩
  rw [List.nil_append, head4] at o2
  have O2 := Lib.hid o2
  clear o2 O1
  -- REST
  go_wp2_with fail
  have c3 := u32_own w.heap.size w w2 B _ (m : Int) O2.out (by simp [be_length])
  rw [head4] at c3
  refine c3.mono ?_
  rintro e w3 ⟨rfl, o3⟩
  clear c3
  have O3 := Lib.hid o3
  clear o3 O2
  obtain ⟨w4, mk, ⟨cur, hc4, hlen⟩, b4⟩ := make_row w3 (16 + m) (by omega)
  rw [show ((16 + m : Nat) : Int) = 8 + (m : Int) + 8 by omega] at mk
  have O4 := Lib.hid (O3.out.below b4)
  obtain ⟨f, hf⟩ : ∃ f, w3.heap.size = f := ⟨_, rfl⟩
  have hHf : w.heap.size ≤ f := hf ▸ O3.out.lt
  rw [hf] at mk hc4
  have hf4 : f < w4.heap.size := lt_of_block hc4
  have C4 := Lib.hid hc4
  have LEN := Lib.hid hlen
  have HF := Lib.hid hHf
  have F4 := Lib.hid hf4
  clear hc4 hlen b4 hf hHf hf4 O3
  go_wp2_with fail
  have e8 : (be t 4 ++ be (m : Int) 4).length = 8 := by simp [be_length]
  obtain ⟨gB, wr4, bel4, hHB, hgB⟩ := O4.out
  refine (all_any w4 B gB _ wr4 (by omega)).mono ?_
  rintro e w5 ⟨ao5, c5, rfl, n5, b5⟩
  rw [e8]
  have C5 := Lib.hid ((b5.block f F4.out).trans C4.out)
  have BEL5 := Lib.hid (bel4.trans (b5.mono (Nat.le_trans HF.out (Nat.le_of_lt F4.out))))
  obtain ⟨w6, cp1, hc6, k6⟩ := copy_into w5 f 0 (16 + m) (16 + m) cur ao5 c5 _ C5.out (by rw [e8, LEN.out]; omega) (by omega) (own_bytes n5.1)
  rw [e8] at cp1 hc6
  rw [List.take_zero, List.nil_append, Nat.zero_add] at hc6
  have C6 := Lib.hid hc6
  have BEL6 := Lib.hid (BEL5.out.trans (k6.below (B := w.heap.size) (by have := BEL5.out.size; exact this) (fun k e => e ▸ HF.out)))
  clear wr4 bel4 hHB hgB n5 b5 hc6 k6 C5 BEL5 mk C4 O4
  have hb6 : Bytes w6 ao l := bytes_below HB.out BEL6.out (Nat.le_refl _)
  obtain ⟨w7, cp2, hc7, k7⟩ := copy_into w6 f 8 (16 + m - 8) (16 + m - 8) _ ao c l C6.out (by rw [List.length_append, List.length_drop, LEN.out, HM.out]; simp [vals, be_length]; omega) (by rw [HM.out]; omega) hb6
  have hv8 : (vals (be t 4 ++ be (m : Int) 4)).length = 8 := by simp [vals, be_length]
  rw [HM.out] at cp2 hc7
  rw [List.take_left' hv8, List.drop_append, hv8, show 8 + m - 8 = m by omega, List.drop_eq_nil_of_le (by rw [hv8]; omega), List.nil_append, List.drop_drop] at hc7
  have hh : vals (be t 4 ++ be (m : Int) 4) ++ vals l = vals (headI t l) := by unfold headI; rw [HM.out]; simp [vals]
  rw [hh] at hc7
  have C7 := Lib.hid hc7
  have BEL7 := Lib.hid (BEL6.out.trans (k7.below (B := w.heap.size) (by have := BEL6.out.size; exact this) (fun k e => e ▸ HF.out)))
  have F7 : f < w7.heap.size := lt_of_block hc7
  have G7 := Lib.hid F7
  clear hb6 hc7 k7 hv8 hh F7 e8 C6 BEL6
  go_wp2_with fail
  refine (new_any w7).mono ?_
  rintro e w8 ⟨rfl, e8⟩
  have hr8 := wr_new w7
  rw [e8] at hr8
  have h8 : w8.heap[f]? = w7.heap[f]? := by rw [← e8]; exact Below.heap_alloc _ _ _ G7.out
  have C8 := Lib.hid (h8.trans C7.out)
  clear h8
  have BEL8 : Below w.heap.size w w8 := by rw [← e8]; exact BEL7.out.trans ((Below.refl _ w7).alloc (by have := HF.out; have := G7.out; omega) _)
  obtain ⟨B2, hB2⟩ : ∃ B2, w7.heap.size = B2 := ⟨_, rfl⟩
  rw [hB2] at hr8 ⊢
  have hfB : f < B2 := hB2 ▸ G7.out
  have FB := Lib.hid hfB
  have R8 := Lib.hid hr8
  have BL8 := Lib.hid BEL8
  have S := Lib.hid (sum_any (some ⟨f, 0, none⟩) (headI t l) (16 + m) w8 (bytes_pre C8.out) (by rw [headI_len, HM.out]; simp only [maxLen]; omega))
  rw [headI_len, HM.out] at S
  clear hfB hB2 hr8 BEL8 BEL7 C7 G7 e8
  go_wp2_with fail
  refine S.out.mono ?_
  rintro e w' ⟨rfl, rfl⟩
  clear S
  go_wp2_with fail
  refine (u64_any w8 B2 none [] _ R8.out (by decide)).mono ?_
  rintro e w9 ⟨rfl, g9, r9, k9, hg9⟩
  rw [List.nil_append, be_eight] at r9
  have C9 := Lib.hid ((k9.block f (lt_of_block C8.out) (by have := FB.out; rintro (h | h); omega; cases h)).trans C8.out)
  have BEL9 := Lib.hid (BL8.out.trans (k9.below (B := w.heap.size) BL8.out.size (fun k h => by have := FB.out; have := HF.out; rcases h with h | h; omega; cases h)))
  have A := Lib.hid (all_any w9.drew B2 g9 _ (r9.kept (Kept.refl (fun _ => False) w9).drew (fun h => h) (fun _ _ h => h)) (by rw [be_length]; decide))
  rw [be_length] at A
  have P := Lib.hid (fun (w10 : World) (ao10 : Option Addr) (c10 : Nat) (n10 : New w9.drew.heap.size w10 ao10 c10 (be (sumI (headI t l)) 8)) (b10 : Below w9.drew.heap.size w9.drew w10) => frame_last f t l m cur w w9 HM.out LEN.out HF.out C9.out BEL9.out w10 ao10 c10 n10 b10)
  clear k9 hg9 r9 C8 BL8 R8 cp1 cp2 C9 BEL9
  go_upto_region 10 with fail
  go_region_with (go_at_call 28; refine A.out.mono ?_; rintro e w10 ⟨ao10, c10, rfl, n10, b10⟩; obtain ⟨w11, cp3, hr, hb⟩ := P.out w10 ao10 c10 n10 b10; have HR := Lib.hid hr; have HE := Lib.hid hb; clear n10 b10 hr hb)
  all_goals
    go_wp2_with fail
    go_ret
    exact ⟨f, rfl, HF.out, HR.out, HE.out⟩
end Go.Proofs.Ytibbomeeoobgkaa
