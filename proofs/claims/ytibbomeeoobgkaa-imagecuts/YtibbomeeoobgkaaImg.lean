/- Images, without the program: what a save leaves is the image; what is torn changes none. -/
import Derived.Test.YtibbomeeoobgkaaSave
namespace Go.Proofs.Ytibbomeeoobgkaa
open Go.RowKit
set_option maxRecDepth 100000

def im1 (a : List Int) : Im := if isFr a = true then ⟨0, parT a, parB a, true⟩ else Im.zero
def im2 (a b : List Int) : Im := (im1 a).step 1 b

theorem image_eq (d : Dk) : image d = im2 d.a0 d.a1 := by
  show (Im.zero.step 0 d.a0).step 1 d.a1 = _
  unfold im2
  have : Im.zero.step 0 d.a0 = im1 d.a0 := by
    unfold Im.step im1
    cases isFr d.a0 <;> rfl
  rw [this]

theorem step_cond (s : Im) (x : Int) (b : List Int) : s.step x b = if (isFr b && (!s.hv || decide (s.t < parT b))) = true then ⟨x, parT b, parB b, true⟩ else s := rfl

/-- a whole frame, a turn on, in the area that hasn't the image, is the image -/
theorem im_whole (a b : List Int) (l : List Int) (ht : 0 ≤ (im2 a b).t) (ht2 : (im2 a b).t < 4294967295) :
    (nxt (im2 a b) = 0 → im2 (frameI ((im2 a b).t + 1) l) b = ⟨0, (im2 a b).t + 1, l, true⟩) ∧ (nxt (im2 a b) ≠ 0 → im2 a (frameI ((im2 a b).t + 1) l) = ⟨1, (im2 a b).t + 1, l, true⟩) := by
  have hr : 0 ≤ (im2 a b).t + 1 ∧ (im2 a b).t + 1 < 4294967296 := by omega
  have f1 := isFr_frame ((im2 a b).t + 1) l hr
  have f2 := parT_frame ((im2 a b).t + 1) l hr
  have f3 := parB_frame ((im2 a b).t + 1) l hr
  generalize hF : frameI ((im2 a b).t + 1) l = F at *
  clear hF
  constructor
  · intro hn
    show (im1 F).step 1 b = _
    unfold im1
    rw [f1, if_pos rfl, f2, f3, step_cond]
    have hc : (isFr b && (!true || decide ((im2 a b).t + 1 < parT b))) = false := by
      cases hb : isFr b with
      | false => rfl
      | true =>
        have : ¬ ((im2 a b).t + 1 < parT b) := by
          intro hlt
          have e : im2 a b = if (isFr b && (!(im1 a).hv || decide ((im1 a).t < parT b))) = true then ⟨1, parT b, parB b, true⟩ else im1 a := rfl
          by_cases hc : (isFr b && (!(im1 a).hv || decide ((im1 a).t < parT b))) = true
          · rw [if_pos hc] at e
            rw [e] at hlt
            simp only at hlt
            omega
          · rw [if_neg hc] at e
            rw [e] at hlt
            rw [hb, Bool.true_and] at hc
            have h2 : decide ((im1 a).t < parT b) = false := by
              cases hd : decide ((im1 a).t < parT b) with
              | false => rfl
              | true => exact absurd (by rw [hd, Bool.or_true]) hc
            have := of_decide_eq_false h2
            omega
        rw [decide_eq_false this]; rfl
    rw [show ({ a := 0, t := (im2 a b).t + 1, b := l, hv := true } : Im).hv = true from rfl, show ({ a := 0, t := (im2 a b).t + 1, b := l, hv := true } : Im).t = (im2 a b).t + 1 from rfl, hc, if_neg (by simp)]
  · intro hn
    show (im1 a).step 1 F = _
    rw [step_cond, f1, f2, f3, Bool.true_and]
    have e : im2 a b = im1 a := by
      have e : im2 a b = if (isFr b && (!(im1 a).hv || decide ((im1 a).t < parT b))) = true then ⟨1, parT b, parB b, true⟩ else im1 a := rfl
      by_cases hc : (isFr b && (!(im1 a).hv || decide ((im1 a).t < parT b))) = true
      · rw [if_pos hc] at e
        rw [e] at hn
        exact absurd rfl hn
      · rwa [if_neg hc] at e
    rw [e, decide_eq_true (by omega), Bool.or_true, if_pos rfl]

/-- no frame in the area that hasn't the image changes no image -/
theorem im_torn (a b r : List Int) (hr : isFr r = false) : (nxt (im2 a b) = 0 → im2 r b = im2 a b) ∧ (nxt (im2 a b) ≠ 0 → im2 a r = im2 a b) := by
  have e : im2 a b = if (isFr b && (!(im1 a).hv || decide ((im1 a).t < parT b))) = true then ⟨1, parT b, parB b, true⟩ else im1 a := rfl
  constructor
  · intro hn
    show (im1 r).step 1 b = _
    have h1 : im1 r = Im.zero := by unfold im1; rw [hr, if_neg (by simp)]
    rw [h1, step_cond]
    by_cases hc : (isFr b && (!(im1 a).hv || decide ((im1 a).t < parT b))) = true
    · rw [e, if_pos hc]
      have hb : isFr b = true := by
        cases hb : isFr b with
        | true => rfl
        | false => rw [hb] at hc; cases hc
      rw [hb]
      exact if_pos (by simp [Im.zero])
    · rw [if_neg hc] at e
      rw [e] at hn ⊢
      unfold im1 at hn e hc ⊢
      cases ha : isFr a with
      | true => rw [ha, if_pos rfl] at hn; exact absurd hn (by show ¬ ((1 : Int) - 0 = 0); decide)
      | false =>
        rw [ha, if_neg (by simp)] at hc
        have h3 : isFr b = false := by simpa [Im.zero] using hc
        rw [h3]
        rfl
  · intro hn
    show (im1 a).step 1 r = _
    rw [step_cond, hr, Bool.false_and, if_neg (by simp), e]
    by_cases hc : (isFr b && (!(im1 a).hv || decide ((im1 a).t < parT b))) = true
    · rw [if_pos hc] at e
      rw [e] at hn
      exact absurd rfl hn
    · rw [if_neg hc]

/-- what a save that isn't refused makes of a disk -/
def saved (d : Dk) (l : List Int) : Dk := d.write (nxt (image d)) (frameI ((image d).t + 1) l)

theorem nxt_has (d : Dk) : hasB (nxt (image d)) = true := by
  unfold nxt hasB
  rw [decide_eq_true_eq]
  have := im_a (d := d)
  cases (image d).hv <;> simp <;> omega

/-- a save that the power doesn't cut off -/
theorem saved_plain (d : Dk) (l : List Int) (ha : d.armed = false) (hl : l.length ≤ 40000) (hd : d.By) (ht : (image d).t < 4294967295) :
    d.err (nxt (image d)) (frameI ((image d).t + 1) l) = 0 ∧ (saved d l).armed = false ∧ image (saved d l) = ⟨nxt (image d), (image d).t + 1, l, true⟩ ∧ saved d l = d.put (nxt (image d)) (frameI ((image d).t + 1) l) := by
  have hf := frameI_len ((image d).t + 1) l
  have e : saved d l = d.put (nxt (image d)) (frameI ((image d).t + 1) l) := by
    unfold saved Dk.write
    rw [nxt_has, if_pos rfl, if_neg (by omega), ha]
    rfl
  have ht0 := (imk_t d hd 2).1
  rw [show imk d 2 = image d from rfl] at ht0
  refine ⟨?_, ?_, ?_, e⟩
  · unfold Dk.err
    rw [nxt_has, if_pos rfl, if_neg (by omega), ha]
    rfl
  · rw [e]; unfold Dk.put; split <;> rfl
  · rw [e]
    have hw := im_whole d.a0 d.a1 l (image_eq d ▸ ht0) (image_eq d ▸ ht)
    rw [← image_eq d] at hw
    unfold Dk.put
    by_cases hn : nxt (image d) = 0
    · rw [if_pos hn, image_eq, hn]
      exact hw.1 hn
    · rw [if_neg hn, image_eq]
      have h1 : nxt (image d) = 1 := by
        have := nxt_has d
        unfold hasB at this
        have := of_decide_eq_true this
        omega
      rw [h1] at hn hw ⊢
      exact hw.2 hn

/-- a save that the power cuts off -/
theorem saved_torn (d : Dk) (l : List Int) (ha : d.armed = true) (hl : l.length ≤ 40000) (hd : d.By) (ht : (image d).t < 4294967295) :
    d.err (nxt (image d)) (frameI ((image d).t + 1) l) = 70 ∧ (saved d l).armed = false ∧ image (saved d l) = (if 16 + l.length ≤ d.n.toNat then ⟨nxt (image d), (image d).t + 1, l, true⟩ else image d) ∧ saved d l = d.put (nxt (image d)) ((frameI ((image d).t + 1) l).take d.n.toNat) := by
  have hf := frameI_len ((image d).t + 1) l
  have e : saved d l = d.put (nxt (image d)) ((frameI ((image d).t + 1) l).take d.n.toNat) := by
    unfold saved Dk.write
    rw [nxt_has, if_pos rfl, if_neg (by omega), ha]
    rfl
  have ht0 := (imk_t d hd 2).1
  rw [show imk d 2 = image d from rfl] at ht0
  have h01 : nxt (image d) = 0 ∨ nxt (image d) = 1 := by
    have := nxt_has d
    unfold hasB at this
    exact of_decide_eq_true this
  refine ⟨?_, ?_, ?_, e⟩
  · unfold Dk.err
    rw [nxt_has, if_pos rfl, if_neg (by omega), ha]
    rfl
  · rw [e]; unfold Dk.put; split <;> rfl
  · rw [e]
    by_cases hn : 16 + l.length ≤ d.n.toNat
    · rw [if_pos hn, List.take_of_length_le (by omega)]
      have hw := im_whole d.a0 d.a1 l (image_eq d ▸ ht0) (image_eq d ▸ ht)
      rw [← image_eq d] at hw
      unfold Dk.put
      rcases h01 with h | h
      · rw [if_pos h, image_eq, h]
        exact hw.1 h
      · rw [if_neg (by omega), image_eq, h]
        exact hw.2 (by omega)
    · rw [if_neg hn]
      have hw := im_torn d.a0 d.a1 _ (cut_none ((image d).t + 1) l d.n.toNat (by omega) (by omega))
      rw [← image_eq d] at hw
      unfold Dk.put
      rcases h01 with h | h
      · rw [if_pos h, image_eq]
        exact hw.1 h
      · rw [if_neg (by omega), image_eq]
        exact hw.2 (by omega)

theorem put_by {d : Dk} (hd : d.By) (x : Int) (r : List Int) (hr : ∀ y ∈ r, isByte y) : (d.put x r).By := by
  unfold Dk.put
  split
  · exact ⟨hr, hd.2⟩
  · exact ⟨hd.1, hr⟩

theorem write_by {d : Dk} (hd : d.By) (x : Int) (r : List Int) (hr : ∀ y ∈ r, isByte y) : (d.write x r).By := by
  unfold Dk.write
  split
  · split
    · exact hd
    · apply put_by hd
      split
      · exact fun y h => hr y (List.mem_of_mem_take h)
      · exact hr
  · exact hd

theorem saved_by {d : Dk} (hd : d.By) (l : List Int) (hl : ∀ y ∈ l, isByte y) : (saved d l).By := write_by hd _ _ (frameI_is hl)

theorem new_image : image Dk.new = Im.zero := by
  rw [image_eq]
  have h : isFr [] = false := isFr_short [] (by decide)
  show (im1 []).step 1 [] = _
  have h1 : im1 [] = Im.zero := by unfold im1; rw [h, if_neg (by simp)]
  rw [h1, step_cond, h, Bool.false_and, if_neg (by simp)]

theorem new_by : Dk.new.By := ⟨fun y h => by simp [Dk.new] at h, fun y h => by simp [Dk.new] at h⟩

def ka : Dk := saved Dk.new [97]
def kb : Dk := saved ka [98]
theorem by97 : ∀ y ∈ ([97] : List Int), isByte y := by intro y h; simp at h; subst h; unfold isByte; decide
theorem by98 : ∀ y ∈ ([98] : List Int), isByte y := by intro y h; simp at h; subst h; unfold isByte; decide
theorem ka_by : ka.By := saved_by new_by _ by97
theorem kb_by : kb.By := saved_by ka_by _ by98
theorem ka_is : Dk.new.err (nxt (image Dk.new)) (frameI ((image Dk.new).t + 1) [97]) = 0 ∧ ka.armed = false ∧ image ka = ⟨0, 1, [97], true⟩ := by
  have h := saved_plain Dk.new [97] rfl (by decide) new_by (by rw [new_image]; decide)
  refine ⟨h.1, h.2.1, h.2.2.1.trans ?_⟩
  rw [new_image]; rfl
theorem kb_is : ka.err (nxt (image ka)) (frameI ((image ka).t + 1) [98]) = 0 ∧ kb.armed = false ∧ image kb = ⟨1, 2, [98], true⟩ := by
  have h := saved_plain ka [98] ka_is.2.1 (by decide) ka_by (by rw [ka_is.2.2]; decide)
  refine ⟨h.1, h.2.1, h.2.2.1.trans ?_⟩
  rw [ka_is.2.2]; rfl
end Go.Proofs.Ytibbomeeoobgkaa
