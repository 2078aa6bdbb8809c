/- Whether it is a message hangs on what it holds alone. -/
import Derived.Test.YtmkeckablkccnaaDoorSr13
namespace Go.Proofs.YtmkeckablkccnaaDoor
open Go.RowKit
set_option maxRecDepth 100000

theorem voteB_rel {a b : Vt} {ca cb : Vc} (h : toVp (a, ca) = toVp (b, cb)) : voteB a ca = voteB b cb := by
  simp only [toVp, Vp.mk.injEq] at h
  obtain ⟨h1, h2, h3, h4, h5⟩ := h
  unfold voteB
  rw [h1, h2, h3, h4, h5]
/-- the same, off what votes hold -/
def stepP (l : List Vp) (i : Nat) : Bool :=
  match l[i]? with
  | none => true
  | some x => match i with
    | 0 => true
    | j + 1 => match l[j]? with
      | none => true
      | some y => decide (y.f < x.f)
theorem stepB_map (l : List (Vt × Vc)) (i : Nat) : stepB vAny vAb l i = stepP (l.map toVp) i := by
  unfold stepB stepP
  rw [List.getElem?_map]
  cases h : l[i]? with
  | none => rfl
  | some x =>
    simp only [Option.map_some, vAny, Bool.true_and]
    cases i with
    | zero => rfl
    | succ j =>
      simp only []
      rw [List.getElem?_map]
      cases h2 : l[j]? with
      | none => rfl
      | some y => rfl
theorem vBad_any (n : Int) : ∀ xs ys : List (Vt × Vc), xs.map toVp = ys.map toVp → xs.any (vBad n) = ys.any (vBad n)
  | [], [], _ => rfl
  | [], y :: ys, h => by simp at h
  | x :: xs, [], h => by simp at h
  | x :: xs, y :: ys, h => by
    simp only [List.map_cons, List.cons.injEq] at h
    have ih := vBad_any n xs ys h.2
    have hv := voteB_rel (a := x.1) (ca := x.2) (b := y.1) (cb := y.2) h.1
    have hw : x.1.vw = y.1.vw := congrArg Vp.vw h.1
    simp only [List.any_cons, ih, vBad, hv, hw]
theorem fitVsB_rel {xs ys : List (Vt × Vc)} (n : Int) (h : xs.map toVp = ys.map toVp) : fitVsB xs n = fitVsB ys n := by
  have hl : xs.length = ys.length := by have := congrArg List.length h; simpa using this
  unfold fitVsB
  rw [hl, vBad_any n xs ys h]
  have hs : (List.range ys.length).all (stepB vAny vAb xs) = (List.range ys.length).all (stepB vAny vAb ys) := by
    congr 1
    funext i
    rw [stepB_map, stepB_map, h]
  rw [hs]
theorem isM_rel {w w' : World} {m m' : Mg} {c c' : Mc} (hm : MgAt w m c) (hm' : MgAt w' m' c') (h : toMq m' c' = toMq m c) : isM m' c' = isM m c := by
  have hw : m'.toWd = m.toWd := congrArg Mq.w h
  have hv : toVp (m'.vt, c'.vt) = toVp (m.vt, c.vt) := congrArg Mq.vt h
  have hvs : c'.vs.map toVp = c.vs.map toVp := congrArg Mq.vs h
  have hsm : c'.sm = c.sm := congrArg Mq.sm h
  have hdt : c'.dt = c.dt := congrArg Mq.dt h
  have hk : m'.k = m.k := congrArg Wd.k hw
  have hf : m'.f = m.f := congrArg Wd.f hw
  have ht : m'.t = m.t := congrArg Wd.t hw
  have he : m'.e = m.e := congrArg Wd.e hw
  have hvw : m'.vw = m.vw := congrArg Wd.vw hw
  have hsq : m'.sq = m.sq := congrArg Wd.sq hw
  have hrq : m'.rq = m.rq := congrArg Wd.rq hw
  have hct : m'.ct = m.ct := congrArg Wd.ct hw
  have hpg : m'.pg = m.pg := congrArg Wd.pg hw
  have hvf : m'.vt.f = m.vt.f := congrArg Vp.f hv
  have hve : m'.vt.e = m.vt.e := congrArg Vp.e hv
  have row_n : ∀ {w : World} {v : Sl} {xs : List Int}, Row w 1 (fun x => [Value.int .u64 x]) v.val xs → v.n = xs.length := fun hr => by
    obtain ⟨ao, cap, e, _⟩ := hr
    injection e
  have hsn : m'.sm.n = m.sm.n := by rw [row_n hm'.sm, row_n hm.sm, hsm]
  have hdn : m'.dt.n = m.dt.n := by rw [hm'.dt.1, hm.dt.1, hdt]
  have hbare : sameM m' c' (m'.bare (partsOf m.k)) (c'.bare (partsOf m.k)) = sameM m c (m.bare (partsOf m.k)) (c.bare (partsOf m.k)) := by
    have key : ∀ (m : Mg) (c : Mc) (ps : List Int), (∀ p ∈ ps, 0 ≤ p ∧ p ≤ 10) → toMq (m.bare ps) (c.bare ps) = ps.foldl (qStep (toMq m c)) (zeroQ m.k m.f m.t m.e) := fun m c ps hp => toMq_fold m c ps hp m.head Mc.nil
    rw [Bool.eq_iff_iff, sameM_iff, sameM_iff, key m' c' _ (partsOf_le _), key m c _ (partsOf_le _), h, hk, hf, ht, he]
  have hhead : headB m' = headB m := by unfold headB; rw [hk, hf, ht, he]
  have hreq : reqB m' = reqB m := by unfold reqB; rw [hk, hf, ht, hrq]
  have hfit : ∀ a b p, fitB m' a b p = fitB m a b p := fun a b p => by
    unfold fitB
    rw [hk, hvw, hsq, hreq, hct, he, hpg, hvf, hf, hve, hsn, hdn]
  unfold isM isB
  rw [hk, hvw, voteB_rel hv, fitVsB_rel m.vw hvs, hbare, hhead]
  have hall : (partsOf m.k).all (fitB m' (voteB m.vt c.vt) (fitVsB c.vs m.vw)) = (partsOf m.k).all (fitB m (voteB m.vt c.vt) (fitVsB c.vs m.vw)) := by
    congr 1
    funext p
    exact hfit _ _ p
  rw [hall]
end Go.Proofs.YtmkeckablkccnaaDoor
