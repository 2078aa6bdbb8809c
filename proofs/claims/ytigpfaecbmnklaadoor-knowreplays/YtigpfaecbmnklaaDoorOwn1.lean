/- The walk of KnowOwn. -/
import Derived.Test.YtigpfaecbmnklaaDoorKnow7
import Derived.Deep.CutBlock
namespace Go.Proofs.YtigpfaecbmnklaaDoor
open Go.RowKit Go.Maps
set_option maxRecDepth 100000

def oR (r : Rq) : Mg := { hm 1 (10 + r.c) 1 0 with rq := r }
def oM (o x e : Int) (r : Rq) : Mg := { hm 4 o x e with sq := 3, rq := r }
def oQ (o x e : Int) : Mg := { hm 9 o x e with ct := e }
theorem oR_at (w : World) (r : Rq) : MgAt w (oR r) Mc.nil := nil_at w _ ⟨rfl, rfl, rfl⟩ rfl rfl rfl
theorem oM_at (w : World) (o x e : Int) (r : Rq) : MgAt w (oM o x e r) Mc.nil := nil_at w _ ⟨rfl, rfl, rfl⟩ rfl rfl rfl
theorem oQ_at (w : World) (o x e : Int) : MgAt w (oQ o x e) Mc.nil := nil_at w _ ⟨rfl, rfl, rfl⟩ rfl rfl rfl

/-- the first byte tells the kind -/
theorem head_enc (m : Mg) (c : Mc) : (toU (encM m c)).head? = some (UInt8.ofNat m.k.toNat) := rfl
theorem memB_not {α : Type} [DecidableEq α] {x : α} {xs : List α} (h : ¬ x ∈ xs) : memB x xs = false := decide_eq_false h
theorem memB_yes {α : Type} [DecidableEq α] {x : α} {xs : List α} (h : x ∈ xs) : memB x xs = true := decide_eq_true h
theorem not_seen {S : Kn} {m : Mg} {c : Mc} {k : Int} (h : ∀ y ∈ S.m, y.head? = some (UInt8.ofNat k.toNat)) (hne : UInt8.ofNat m.k.toNat ≠ UInt8.ofNat k.toNat) : memB (toU (encM m c)) S.m = false := by
  apply memB_not
  intro hm
  have h1 := h _ hm
  rw [head_enc] at h1
  exact hne (Option.some.inj h1)

/-- what is known behind the first calls -/
structure OwnS (S : Kn) (o e : Int) : Prop where
  k : S.k = [⟨o, e⟩]
  m : ∀ y ∈ S.m, y.head? = some (UInt8.ofNat (1 : Int).toNat)
  lm : S.m.length ≤ 10
  lr : S.r.length ≤ 10

theorem own_n {S : Kn} {o x e : Int} (h : OwnS S o e) (hox : o ≠ x) (o0 : 0 ≤ o) (o1 : o < 4) (x0 : 0 ≤ x) (x1 : x < 4) (e0 : 1 ≤ e) (e1 : e ≤ 200) : canB S (oM x o e Rq.zero) Mc.nil = 40 := by
  have hi : isM (oM x o e Rq.zero) Mc.nil = true := by
    refine yes_all (ps := [0, 1, 2]) rfl (by simp) ?_ ?_ ?_
    · show (isRp x && (isRp o && isEp e)) = true
      simp only [isRp, isEp, Bool.and_eq_true, decide_eq_true_eq]; omega
    · simp [sameM, sameV, sameVs, Mg.bare, Mc.bare, Mg.step, Mc.step, Mg.head, oM, hm, Mc.nil]
    · intro p hp
      simp at hp
      rcases hp with rfl | rfl | rfl
      all_goals simp [fitB, isVw, isSq, isPh, isPl, reqB, Rq.is, oM, hm]
  have hs : signB S (oM x o e Rq.zero) = false := by
    have h2 : memB (⟨x, e⟩ : Ky) S.k = false := memB_not (by rw [h.k]; simp; exact fun e2 => hox e2.symm)
    show (_ && (_ && memB (⟨x, e⟩ : Ky) S.k)) = false
    rw [h2]; simp
  unfold canB
  rw [hi, not_seen h.m (show UInt8.ofNat (4 : Int).toNat ≠ UInt8.ofNat (1 : Int).toNat by decide), hs]; rfl
theorem own_q {S : Kn} {o x e : Int} (h : OwnS S o e) (o0 : 0 ≤ o) (o1 : o < 4) (x0 : 0 ≤ x) (x1 : x < 4) (e0 : 1 ≤ e) (e1 : e ≤ 200) : canB S (oQ o x e) Mc.nil = 40 := by
  have hi : isM (oQ o x e) Mc.nil = true := by
    refine yes_all (ps := [4]) rfl (by simp) ?_ ?_ ?_
    · show (isRp o && (isRp x && isEp e)) = true
      simp only [isRp, isEp, Bool.and_eq_true, decide_eq_true_eq]; omega
    · simp [sameM, sameV, sameVs, Mg.bare, Mc.bare, Mg.step, Mc.step, Mg.head, oQ, hm, Mc.nil]
    · intro p hp
      simp at hp
      subst hp
      simp [fitB, oQ, hm]
  have hs : signB S (oQ o x e) = false := by simp [signB, oQ, hm]
  unfold canB
  rw [hi, not_seen h.m (show UInt8.ofNat (9 : Int).toNat ≠ UInt8.ofNat (1 : Int).toNat by decide), hs]; rfl
theorem own_m {S : Kn} {o x e : Int} {r : Rq} (h : OwnS S o e) : canB S (oM o x e r) Mc.nil = 30 ∨ canB S (oM o x e r) Mc.nil = (if knowsB S r then 0 else 40) := by
  unfold canB
  cases isM (oM o x e r) Mc.nil with
  | false => exact .inl rfl
  | true =>
    refine .inr ?_
    have hs : signB S (oM o x e r) = true := by
      have h2 : memB (⟨o, e⟩ : Ky) S.k = true := memB_yes (by rw [h.k]; simp)
      show (decide ((4 : Int) ≠ 8) && (decide ((4 : Int) ≠ 9) && memB (⟨o, e⟩ : Ky) S.k)) = true
      rw [h2]; rfl
    rw [not_seen h.m (show UInt8.ofNat (4 : Int).toNat ≠ UInt8.ofNat (1 : Int).toNat by decide), hs]
    have e1 : (oM o x e r).rq = r := rfl
    rw [e1]
    cases knowsB S r <;> rfl
theorem own_see {S : Kn} {o e : Int} {r : Rq} (h : OwnS S o e) (hl : S.m.length ≤ 5) (hl2 : S.r.length ≤ 5) : OwnS (seeK S (oR r) Mc.nil) o e := by
  unfold seeK
  cases isM (oR r) Mc.nil with
  | false => exact h
  | true =>
    refine ⟨h.k, fun y hy => ?_, by simp; omega, ?_⟩
    · simp at hy
      rcases hy with hy | rfl
      · exact h.m y hy
      · exact head_enc _ _
    · simp only [if_true]
      split
      · omega
      · simp; omega
end Go.Proofs.YtigpfaecbmnklaaDoor
