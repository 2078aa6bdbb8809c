/- Frames, without the program: what a frame is, what it tells; what is cut off or turned is none. -/
import Derived.Test.YtibbomeeoobgkaaSums
import Derived.Test.YtibbomeeoobgkaaGet
namespace Go.Proofs.Ytibbomeeoobgkaa
open Go.RowKit
set_option maxRecDepth 100000

def headI (t : Int) (b : List Int) : List Int := be t 4 ++ be (b.length : Int) 4 ++ b
def frameI (t : Int) (b : List Int) : List Int := headI t b ++ be (sumI (headI t b)) 8
def midI (l : List Int) : List Int := (l.drop 8).take (l.length - 16)
def isFr (l : List Int) : Bool := decide (16 ≤ l.length ∧ frameI (rd32 l) (midI l) = l)
def parT (l : List Int) : Int := if isFr l then rd32 l else 0
def parB (l : List Int) : List Int := if isFr l then midI l else []

theorem byteAt_is (x : Int) (m : Nat) : isByte (byteAt x m) := by
  have h1 := Int.emod_nonneg (x / 2 ^ (8 * m)) (show (256 : Int) ≠ 0 by decide)
  have h2 := Int.emod_lt_of_pos (x / 2 ^ (8 * m)) (show (0 : Int) < 256 by decide)
  unfold isByte byteAt
  omega

theorem be_is (x : Int) : ∀ m, ∀ y ∈ be x m, isByte y := by
  intro m
  induction m with
  | zero => intro y h; simp [be] at h
  | succ m ih =>
    intro y h
    rcases List.mem_cons.1 h with rfl | h
    · exact byteAt_is _ _
    · exact ih y h

theorem headI_len (t : Int) (b : List Int) : (headI t b).length = 8 + b.length := by
  simp [headI, be_length]; omega
theorem frameI_len (t : Int) (b : List Int) : (frameI t b).length = 16 + b.length := by
  simp [frameI, be_length, headI_len]; omega

theorem headI_is {t : Int} {b : List Int} (hb : ∀ y ∈ b, isByte y) : ∀ y ∈ headI t b, isByte y := by
  intro y h
  rcases List.mem_append.1 h with h | h
  · rcases List.mem_append.1 h with h | h
    · exact be_is _ _ y h
    · exact be_is _ _ y h
  · exact hb y h

theorem frameI_is {t : Int} {b : List Int} (hb : ∀ y ∈ b, isByte y) : ∀ y ∈ frameI t b, isByte y := by
  intro y h
  rcases List.mem_append.1 h with h | h
  · exact headI_is hb y h
  · exact be_is _ _ y h

theorem midI_is {l : List Int} (hl : ∀ y ∈ l, isByte y) : ∀ y ∈ midI l, isByte y :=
  fun y h => hl y (List.mem_of_mem_drop (List.mem_of_mem_take h))

theorem parB_is {l : List Int} (hl : ∀ y ∈ l, isByte y) : ∀ y ∈ parB l, isByte y := by
  intro y h
  unfold parB at h
  split at h
  · exact midI_is hl y h
  · simp at h

theorem midI_len (l : List Int) : (midI l).length = l.length - 16 := by
  unfold midI; rw [List.length_take, List.length_drop]; omega

theorem rd32_be (t : Int) (r : List Int) (h : 0 ≤ t ∧ t < 4294967296) : rd32 (be t 4 ++ r) = t := by
  simp [rd32, be, byteAt]
  omega

theorem rd32_frame (t : Int) (b : List Int) (h : 0 ≤ t ∧ t < 4294967296) : rd32 (frameI t b) = t := by
  unfold frameI headI
  rw [List.append_assoc, List.append_assoc]
  exact rd32_be t _ h

theorem midI_frame (t : Int) (b : List Int) : midI (frameI t b) = b := by
  unfold midI
  rw [frameI_len, show 16 + b.length - 16 = b.length by omega]
  unfold frameI headI
  have e : (be t 4 ++ be (b.length : Int) 4).length = 8 := by simp [be_length]
  rw [List.append_assoc _ b, ← e, List.drop_left]
  exact List.take_left

theorem isFr_frame (t : Int) (b : List Int) (h : 0 ≤ t ∧ t < 4294967296) : isFr (frameI t b) = true := by
  unfold isFr
  rw [decide_eq_true_eq, rd32_frame t b h, midI_frame, frameI_len]
  exact ⟨by omega, rfl⟩

theorem parT_frame (t : Int) (b : List Int) (h : 0 ≤ t ∧ t < 4294967296) : parT (frameI t b) = t := by
  unfold parT; rw [isFr_frame t b h, if_pos rfl, rd32_frame t b h]
theorem parB_frame (t : Int) (b : List Int) (h : 0 ≤ t ∧ t < 4294967296) : parB (frameI t b) = b := by
  unfold parB; rw [isFr_frame t b h, if_pos rfl, midI_frame]

theorem isFr_short (l : List Int) (h : l.length < 16) : isFr l = false := by
  unfold isFr; rw [decide_eq_false_iff_not]; omega

/-- the four bytes at 4 of a frame -/
theorem frame_len4 (t : Int) (b : List Int) : ((frameI t b).drop 4).take 4 = be (b.length : Int) 4 := by
  unfold frameI headI
  rw [List.append_assoc, List.append_assoc, List.drop_left' (be_length t 4)]
  exact List.take_left' (be_length _ 4)

theorem be4_inj (x y : Int) (hx : 0 ≤ x ∧ x < 4294967296) (hy : 0 ≤ y ∧ y < 4294967296) (h : be x 4 = be y 4) : x = y := by
  have h1 := rd32_be x [] hx
  have h2 := rd32_be y [] hy
  rw [h] at h1
  exact h1.symm.trans h2

/-- a frame that is cut off is none -/
theorem cut_none (t : Int) (b : List Int) (k : Nat) (hb : b.length < 1000000) (hk : k < 16 + b.length) : isFr ((frameI t b).take k) = false := by
  by_cases h16 : k < 16
  · exact isFr_short _ (by rw [List.length_take]; omega)
  · unfold isFr
    rw [decide_eq_false_iff_not]
    rintro ⟨_, h2⟩
    have hl : ((frameI t b).take k).length = k := by rw [List.length_take, frameI_len]; omega
    have e1 := frame_len4 (rd32 ((frameI t b).take k)) (midI ((frameI t b).take k))
    rw [h2, midI_len, hl] at e1
    have e2 : (((frameI t b).take k).drop 4).take 4 = ((frameI t b).drop 4).take 4 := by
      rw [List.drop_take, List.take_take, Nat.min_eq_left (by omega)]
    rw [e2, frame_len4] at e1
    have := be4_inj _ _ (by omega) (by omega) e1
    omega

theorem num4 (x : Int) (r : List Int) (h : 0 ≤ x ∧ x < 4294967296) : num (be x 4 ++ r) 4 = x := by
  rw [num_four]; exact rd32_be x r h

theorem num8 (x : Int) (r : List Int) (h : 0 ≤ x ∧ x < 18446744073709551616) : num (be x 8 ++ r) 8 = x := by
  simp [num, be, byteAt]
  omega

theorem be8_inj (x y : Int) (hx : 0 ≤ x ∧ x < 18446744073709551616) (hy : 0 ≤ y ∧ y < 18446744073709551616) (h : be x 8 = be y 8) : x = y := by
  have h1 := num8 x [] hx
  have h2 := num8 y [] hy
  rw [h] at h1
  exact h1.symm.trans h2

theorem be_snoc (x c : Int) (hc : isByte c) : ∀ m, be (x * 256 + c) (m + 1) = be x m ++ [c] := by
  intro m
  induction m with
  | zero =>
    have h1 := hc.1
    have h2 := hc.2
    simp [be, byteAt]
    omega
  | succ m ih =>
    show byteAt (x * 256 + c) (m + 1) :: be (x * 256 + c) (m + 1) = byteAt x m :: be x m ++ [c]
    rw [ih]
    have e : byteAt (x * 256 + c) (m + 1) = byteAt x m := by
      unfold byteAt
      have e1 : (2 : Int) ^ (8 * (m + 1)) = 256 * 2 ^ (8 * m) := by
        rw [Nat.mul_add, Int.pow_add, Int.mul_comm]; rfl
      have e2 : (x * 256 + c) / 256 = x := by
        have h1 := hc.1
        have h2 := hc.2
        omega
      rw [e1, ← Int.ediv_ediv_of_nonneg (by decide), e2]
    rw [e]
    rfl

theorem be_num (l : List Int) (hl : ∀ y ∈ l, isByte y) : ∀ m, m ≤ l.length → be (num l m) m = l.take m := by
  intro m
  induction m with
  | zero => intro _; simp [be]
  | succ m ih =>
    intro hm
    have hg : l.getD m 0 = l[m] := by simp [List.getD_eq_getElem?_getD, List.getElem?_eq_getElem (show m < l.length by omega)]
    show be (num l m * 256 + l.getD m 0) (m + 1) = _
    rw [hg, be_snoc _ _ (hl _ (List.getElem_mem _)), ih (by omega), List.take_succ_eq_append_getElem (by omega)]

/-- what the document asks of a frame, number by number -/
theorem isFr_iff (l : List Int) (hl : ∀ y ∈ l, isByte y) (hn : l.length ≤ 1000000) (h16 : 16 ≤ l.length) :
    isFr l = true ↔ num (l.drop 4) 4 = (l.length : Int) - 16 ∧ num (l.drop (l.length - 8)) 8 = sumI (l.take (l.length - 8)) := by
  have hd4 : ∀ y ∈ l.drop 4, isByte y := fun y h => hl y (List.mem_of_mem_drop h)
  have hm := midI_len l
  constructor
  · intro h
    unfold isFr at h
    have h2 := (of_decide_eq_true h).2
    have e4 : (be (rd32 l) 4).length = 4 := be_length _ _
    have ed4 : l.drop 4 = be ((midI l).length : Int) 4 ++ (midI l ++ be (sumI (headI (rd32 l) (midI l))) 8) := by
      conv => lhs; rw [← h2]
      unfold frameI
      conv => lhs; rw [show headI (rd32 l) (midI l) = be (rd32 l) 4 ++ (be ((midI l).length : Int) 4 ++ midI l) from List.append_assoc _ _ _]
      rw [List.append_assoc, List.drop_left' e4, List.append_assoc]
      rw [show headI (rd32 l) (midI l) = be (rd32 l) 4 ++ (be ((midI l).length : Int) 4 ++ midI l) from List.append_assoc _ _ _]
    have eH : headI (rd32 l) (midI l) = l.take (l.length - 8) := by
      have : (headI (rd32 l) (midI l)).length = l.length - 8 := by rw [headI_len, hm]; omega
      have h3 := List.take_left' (l₂ := be (sumI (headI (rd32 l) (midI l))) 8) this
      rw [show headI (rd32 l) (midI l) ++ be (sumI (headI (rd32 l) (midI l))) 8 = l from h2] at h3
      exact h3.symm
    have eS : l.drop (l.length - 8) = be (sumI (l.take (l.length - 8))) 8 ++ [] := by
      have : (headI (rd32 l) (midI l)).length = l.length - 8 := by rw [headI_len, hm]; omega
      have h3 := List.drop_left' (l₂ := be (sumI (headI (rd32 l) (midI l))) 8) this
      rw [show headI (rd32 l) (midI l) ++ be (sumI (headI (rd32 l) (midI l))) 8 = l from h2] at h3
      rw [h3, eH, List.append_nil]
    refine ⟨?_, ?_⟩
    · rw [ed4, num4 _ _ (by omega)]; omega
    · rw [eS]
      have hr := sum_range (l.take (l.length - 8)) (fun y h => hl y (List.mem_of_mem_take h))
      exact num8 _ _ hr
  · rintro ⟨h1, h2⟩
    have hd8 : ∀ y ∈ l.drop (l.length - 8), isByte y := fun y h => hl y (List.mem_of_mem_drop h)
    have b1 : be (rd32 l) 4 = l.take 4 := by rw [← num_four]; exact be_num l hl 4 (by omega)
    have b2 : be ((midI l).length : Int) 4 = (l.drop 4).take 4 := by
      rw [hm, show ((l.length - 16 : Nat) : Int) = (l.length : Int) - 16 by omega, ← h1]
      exact be_num _ hd4 4 (by rw [List.length_drop]; omega)
    have eH : headI (rd32 l) (midI l) = l.take (l.length - 8) := by
      unfold headI midI at *
      rw [b1, b2]
      have e8 : l.take 4 ++ (l.drop 4).take 4 = l.take 8 := by
        rw [show (8 : Nat) = 4 + 4 from rfl, List.take_add]
      rw [e8, show l.length - 8 = 8 + (l.length - 16) by omega, List.take_add]
    have b3 : be (sumI (l.take (l.length - 8))) 8 = l.drop (l.length - 8) := by
      rw [← h2, be_num _ hd8 8 (by rw [List.length_drop]; omega)]
      exact List.take_of_length_le (by rw [List.length_drop]; omega)
    unfold isFr
    rw [decide_eq_true_eq]
    refine ⟨h16, ?_⟩
    unfold frameI
    rw [eH, b3, List.take_append_drop]

/-- a frame of which one byte is turned is none -/
theorem turned_none (t : Int) (b : List Int) (i : Nat) (y : Int) (hb : ∀ y ∈ b, isByte y) (hn : b.length ≤ 100000) (hi : i < (frameI t b).length) (hy : isByte y) (hne : y ≠ (frameI t b)[i]) : isFr ((frameI t b).set i y) = false := by
  rw [← Bool.not_eq_true]
  intro h
  have hF := frameI_is (t := t) hb
  have hl : ((frameI t b).set i y).length = 16 + b.length := by rw [List.length_set, frameI_len]
  have hset : ∀ z ∈ (frameI t b).set i y, isByte z := by
    intro z hz
    rcases List.mem_or_eq_of_mem_set hz with hz | rfl
    · exact hF z hz
    · exact hy
  have h2 := ((isFr_iff _ hset (by omega) (by omega)).1 h).2
  rw [hl, show 16 + b.length - 8 = 8 + b.length by omega] at h2
  have hH := headI_len t b
  rw [frameI_len] at hi
  have hHis := headI_is (t := t) hb
  by_cases h8 : i < 8 + b.length
  · have e1 : ((frameI t b).set i y).take (8 + b.length) = (headI t b).set i y := by
      unfold frameI
      rw [List.set_append_left _ _ (by omega)]
      exact List.take_left' (by rw [List.length_set]; exact hH)
    have e2 : ((frameI t b).set i y).drop (8 + b.length) = be (sumI (headI t b)) 8 ++ [] := by
      unfold frameI
      rw [List.set_append_left _ _ (by omega), List.append_nil]
      exact List.drop_left' (by rw [List.length_set]; exact hH)
    rw [e1, e2, num8 _ _ (sum_range _ hHis)] at h2
    have e3 : (frameI t b)[i]'(by rw [frameI_len]; exact hi) = (headI t b)[i]'(by omega) := by
      simp only [frameI]
      exact List.getElem_append_left _
    rw [e3] at hne
    exact sum_changed (headI t b) i y hHis (by omega) hy hne h2.symm
  · have e1 : ((frameI t b).set i y).take (8 + b.length) = headI t b := by
      unfold frameI
      rw [List.set_append_right _ _ (by omega)]
      exact List.take_left' hH
    have e2 : ((frameI t b).set i y).drop (8 + b.length) = (be (sumI (headI t b)) 8).set (i - (8 + b.length)) y := by
      unfold frameI
      rw [List.set_append_right _ _ (by omega), hH]
      exact List.drop_left' hH
    have e8 : (be (sumI (headI t b)) 8).length = 8 := be_length _ _
    have hbs : ∀ z ∈ (be (sumI (headI t b)) 8).set (i - (8 + b.length)) y, isByte z := by
      intro z hz
      rcases List.mem_or_eq_of_mem_set hz with hz | rfl
      · exact be_is _ _ z hz
      · exact hy
    have e3 := be_num _ hbs 8 (by rw [List.length_set, e8]; exact Nat.le_refl _)
    rw [← e2, h2, e1, e2, List.take_of_length_le (by rw [List.length_set, e8]; exact Nat.le_refl _)] at e3
    have e4 := congrArg (fun l => l[i - (8 + b.length)]?) e3
    simp only [List.getElem?_set_self (show i - (8 + b.length) < (be (sumI (headI t b)) 8).length by omega)] at e4
    have e5 : (frameI t b)[i]? = some y := by
      unfold frameI
      rw [List.getElem?_append_right (by omega), hH]
      exact e4
    rw [List.getElem?_eq_getElem (by rw [frameI_len]; exact hi)] at e5
    injection e5 with e5
    exact hne e5.symm
end Go.Proofs.Ytibbomeeoobgkaa
