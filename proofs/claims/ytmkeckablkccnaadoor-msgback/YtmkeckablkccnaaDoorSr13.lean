/- What was encoded is decoded: the bytes of a message are read as that message. -/
import Derived.Test.YtmkeckablkccnaaDoorSr12
namespace Go.Proofs.YtmkeckablkccnaaDoor
open Go.RowKit
set_option maxRecDepth 100000

def toMq (m : Mg) (c : Mc) : Mq := ⟨m.toWd, toVp (m.vt, c.vt), c.vs.map toVp, c.sm, c.dt⟩
/-- a part of q goes into x -/
def qStep (q x : Mq) (p : Int) : Mq :=
  if p = 0 then { x with w := { x.w with vw := q.w.vw } } else if p = 1 then { x with w := { x.w with sq := q.w.sq } } else if p = 2 then { x with w := { x.w with rq := q.w.rq } }
  else if p = 3 then { x with w := { x.w with ro := q.w.ro } } else if p = 4 then { x with w := { x.w with ct := q.w.ct } } else if p = 5 then { x with w := { x.w with pg := q.w.pg } }
  else if p = 6 then { x with w := { x.w with rs := q.w.rs } } else if p = 7 then { x with vt := q.vt } else if p = 8 then { x with vs := q.vs } else if p = 9 then { x with sm := q.sm } else { x with dt := q.dt }
/-- its numbers are in range -/
structure MgOk (m : Mg) (c : Mc) : Prop where
  k : isByte m.k
  f : isByte m.f
  t : isByte m.t
  e : isByte m.e
  ct : isByte m.ct
  pg : isByte m.pg
  vw : 0 ≤ m.vw ∧ m.vw ≤ 4294967295
  sq : 0 ≤ m.sq ∧ m.sq ≤ 4294967295
  rq : m.rq.ok
  ro : 0 ≤ m.ro ∧ m.ro ≤ 18446744073709551615
  rs : 0 ≤ m.rs ∧ m.rs ≤ 4294967295
  vt : m.vt.ok ∧ c.vt.ok
  vs : ∀ x ∈ c.vs, x.1.ok ∧ x.2.ok
  sm : ∀ x ∈ c.sm, 0 ≤ x ∧ x ≤ 18446744073709551615
/-- the lists of a part are no longer than they may be -/
def Short (c : Mc) (p : Int) : Prop := (p = 7 → c.vt.few) ∧ (p = 8 → c.vs.length ≤ 4 ∧ ∀ x ∈ c.vs, x.2.few) ∧ (p = 9 → c.sm.length = 8) ∧ (p = 10 → c.dt.length ≤ 64)

theorem rdsVs (l : List (Vt × Vc)) (h : ∀ x ∈ l, x.1.ok ∧ x.2.ok) (hl : l.length ≤ 4) (hf : ∀ x ∈ l, x.2.few) (r : List Int) : pL pVt l.length 4 ⟨(l.flatMap fun x => voteY x.1 x.2) ++ r, 0⟩ = (l.map toVp, ⟨r, 0⟩) := by
  have key : ∀ j, j ≤ l.length → pN pVt ⟨(l.flatMap fun x => voteY x.1 x.2) ++ r, 0⟩ j = ((l.take j).map toVp, ⟨((l.drop j).flatMap fun x => voteY x.1 x.2) ++ r, 0⟩) := by
    intro j hj
    induction j with
    | zero => rfl
    | succ j ih =>
      have hlt : j < l.length := by omega
      have hm := List.getElem_mem hlt
      have e := rdsVt l[j].1 l[j].2 (h _ hm).1 (h _ hm).2 (hf _ hm) (((l.drop (j + 1)).flatMap fun x => voteY x.1 x.2) ++ r)
      have hd : l.drop j = l[j] :: l.drop (j + 1) := List.drop_eq_getElem_cons hlt
      have e2 : pVt (pN pVt ⟨(l.flatMap fun x => voteY x.1 x.2) ++ r, 0⟩ j).2 = (toVp l[j], ⟨((l.drop (j + 1)).flatMap fun x => voteY x.1 x.2) ++ r, 0⟩) := by
        rw [ih (by omega)]
        show pVt ⟨((l.drop j).flatMap fun x => voteY x.1 x.2) ++ r, 0⟩ = _
        rw [hd, List.flatMap_cons, List.append_assoc]
        exact e
      show ((pN pVt ⟨(l.flatMap fun x => voteY x.1 x.2) ++ r, 0⟩ j).1 ++ [(pVt (pN pVt ⟨(l.flatMap fun x => voteY x.1 x.2) ++ r, 0⟩ j).2).1], (pVt (pN pVt ⟨(l.flatMap fun x => voteY x.1 x.2) ++ r, 0⟩ j).2).2) = _
      have e3 : (l.take (j + 1)).map toVp = (l.take j).map toVp ++ [toVp l[j]] := by rw [List.take_add_one, List.getElem?_eq_getElem hlt, List.map_append]; rfl
      rw [e2, ih (by omega), e3]
  have e := key l.length (Nat.le_refl _)
  unfold pL
  rw [if_pos rfl, if_pos hl, e, List.take_length, List.drop_length]
  rfl

theorem rdsPart (m : Mg) (c : Mc) (hok : MgOk m c) (p : Int) (hp : 0 ≤ p ∧ p ≤ 10) (hs : Short c p) (x : Mq) : Rds (pPart p x) (partY m c p) (qStep (toMq m c) x p) := by
  obtain ⟨s7, s8, s9, s10⟩ := hs
  have hc : p = 0 ∨ p = 1 ∨ p = 2 ∨ p = 3 ∨ p = 4 ∨ p = 5 ∨ p = 6 ∨ p = 7 ∨ p = 8 ∨ p = 9 ∨ p = 10 := by omega
  rcases hc with rfl | rfl | rfl | rfl | rfl | rfl | rfl | rfl | rfl | rfl | rfl
  · intro r
    have e := rds32 m.vw hok.vw r
    show (({ x with w := { x.w with vw := (p32 ⟨b4 m.vw ++ r, 0⟩).1 } } : Mq), (p32 ⟨b4 m.vw ++ r, 0⟩).2) = _
    rw [e]; rfl
  · intro r
    have e := rds32 m.sq hok.sq r
    show (({ x with w := { x.w with sq := (p32 ⟨b4 m.sq ++ r, 0⟩).1 } } : Mq), (p32 ⟨b4 m.sq ++ r, 0⟩).2) = _
    rw [e]; rfl
  · intro r
    have e := rdsRq m.rq hok.rq r
    show (({ x with w := { x.w with rq := (pRq ⟨m.rq.bytes ++ r, 0⟩).1 } } : Mq), (pRq ⟨m.rq.bytes ++ r, 0⟩).2) = _
    rw [e]; rfl
  · intro r
    have e := rds64 m.ro hok.ro r
    show (({ x with w := { x.w with ro := (p64 ⟨be8 m.ro ++ r, 0⟩).1 } } : Mq), (p64 ⟨be8 m.ro ++ r, 0⟩).2) = _
    rw [e]; rfl
  · intro r
    have e := rds8 m.ct r
    show (({ x with w := { x.w with ct := (p8 ⟨[m.ct] ++ r, 0⟩).1 } } : Mq), (p8 ⟨[m.ct] ++ r, 0⟩).2) = _
    rw [e]; rfl
  · intro r
    have e := rds8 m.pg r
    show (({ x with w := { x.w with pg := (p8 ⟨[m.pg] ++ r, 0⟩).1 } } : Mq), (p8 ⟨[m.pg] ++ r, 0⟩).2) = _
    rw [e]; rfl
  · intro r
    have e := rds32 m.rs hok.rs r
    show (({ x with w := { x.w with rs := (p32 ⟨b4 m.rs ++ r, 0⟩).1 } } : Mq), (p32 ⟨b4 m.rs ++ r, 0⟩).2) = _
    rw [e]; rfl
  · intro r
    have e := rdsVt m.vt c.vt hok.vt.1 hok.vt.2 (s7 rfl) r
    show (({ x with vt := (pVt ⟨voteY m.vt c.vt ++ r, 0⟩).1 } : Mq), (pVt ⟨voteY m.vt c.vt ++ r, 0⟩).2) = _
    rw [e]; rfl
  · intro r
    obtain ⟨h4, hf⟩ := s8 rfl
    have e1 := rds8 (c.vs.length : Int) ((c.vs.flatMap fun x => voteY x.1 x.2) ++ r)
    have e2 := rdsVs c.vs hok.vs h4 hf r
    have ea : (votesY c.vs ++ r) = [(c.vs.length : Int)] ++ ((c.vs.flatMap fun x => voteY x.1 x.2) ++ r) := by simp [votesY]
    show (({ x with vs := (pL pVt (p8 ⟨votesY c.vs ++ r, 0⟩).1.toNat 4 (p8 ⟨votesY c.vs ++ r, 0⟩).2).1 } : Mq), (pL pVt (p8 ⟨votesY c.vs ++ r, 0⟩).1.toNat 4 (p8 ⟨votesY c.vs ++ r, 0⟩).2).2) = _
    rw [ea, e1]
    show (({ x with vs := (pL pVt ((c.vs.length : Int)).toNat 4 ⟨(c.vs.flatMap fun x => voteY x.1 x.2) ++ r, 0⟩).1 } : Mq), (pL pVt ((c.vs.length : Int)).toNat 4 ⟨(c.vs.flatMap fun x => voteY x.1 x.2) ++ r, 0⟩).2) = _
    rw [Int.toNat_natCast, e2]; rfl
  · intro r
    have h8 := s9 rfl
    have e := rdsL (one := p64) (enc := be8) c.sm 8 (fun x hx => rds64 x (hok.sm x hx)) (by omega) r
    rw [h8] at e
    show (({ x with sm := (pL p64 8 8 ⟨c.sm.flatMap be8 ++ r, 0⟩).1 } : Mq), (pL p64 8 8 ⟨c.sm.flatMap be8 ++ r, 0⟩).2) = _
    rw [e]; rfl
  · intro r
    have e := rdsDt c.dt (s10 rfl) r
    show (({ x with dt := (pDt ⟨lenBytes c.dt ++ r, 0⟩).1 } : Mq), (pDt ⟨lenBytes c.dt ++ r, 0⟩).2) = _
    rw [e]; rfl

theorem rdsFold (m : Mg) (c : Mc) (hok : MgOk m c) (ps : List Int) (hp : ∀ p ∈ ps, (0 ≤ p ∧ p ≤ 10) ∧ Short c p) : ∀ (x : Mq) (r : List Int), pFold ps (x, ⟨ps.flatMap (partY m c) ++ r, 0⟩) = (ps.foldl (qStep (toMq m c)) x, ⟨r, 0⟩) := by
  induction ps with
  | nil => intro x r; rfl
  | cons p ps ih =>
    intro x r
    have e := rdsPart m c hok p (hp p (by simp)).1 (hp p (by simp)).2 x (ps.flatMap (partY m c) ++ r)
    show pFold ps (pPart p x ⟨(partY m c p ++ ps.flatMap (partY m c)) ++ r, 0⟩) = _
    rw [List.append_assoc, e]
    exact ih (fun q hq => hp q (by simp [hq])) _ r
theorem rdsAll (m : Mg) (c : Mc) (hok : MgOk m c) (hs : ∀ p ∈ partsOf m.k, Short c p) (r : List Int) : pAll (encM m c ++ r) = ((partsOf m.k).foldl (qStep (toMq m c)) (zeroQ m.k m.f m.t m.e), ⟨r, 0⟩) := by
  have e := rdsFold m c hok (partsOf m.k) (fun p hp => ⟨partsOf_le _ p hp, hs p hp⟩) (zeroQ m.k m.f m.t m.e) r
  have ee : encM m c ++ r = [m.k] ++ ([m.f] ++ ([m.t] ++ ([m.e] ++ ((partsOf m.k).flatMap (partY m c) ++ r)))) := by simp [encM, encUp]
  have e1 := rds8 m.k ([m.f] ++ ([m.t] ++ ([m.e] ++ ((partsOf m.k).flatMap (partY m c) ++ r))))
  have e2 := rds8 m.f ([m.t] ++ ([m.e] ++ ((partsOf m.k).flatMap (partY m c) ++ r)))
  have e3 := rds8 m.t ([m.e] ++ ((partsOf m.k).flatMap (partY m c) ++ r))
  have e4 := rds8 m.e ((partsOf m.k).flatMap (partY m c) ++ r)
  have eh : pHd ⟨[m.k] ++ ([m.f] ++ ([m.t] ++ ([m.e] ++ ((partsOf m.k).flatMap (partY m c) ++ r)))), 0⟩ = (zeroQ m.k m.f m.t m.e, ⟨(partsOf m.k).flatMap (partY m c) ++ r, 0⟩) := by
    unfold pHd
    simp only [e1, e2, e3, e4]
  unfold pAll
  rw [ee, eh, e1]
  exact e
theorem toMq_step (m x : Mg) (c cx : Mc) (p : Int) (hp : 0 ≤ p ∧ p ≤ 10) : toMq (m.step x p) (c.step cx p) = qStep (toMq m c) (toMq x cx) p := by
  have hc : p = 0 ∨ p = 1 ∨ p = 2 ∨ p = 3 ∨ p = 4 ∨ p = 5 ∨ p = 6 ∨ p = 7 ∨ p = 8 ∨ p = 9 ∨ p = 10 := by omega
  rcases hc with rfl | rfl | rfl | rfl | rfl | rfl | rfl | rfl | rfl | rfl | rfl <;> rfl
theorem toMq_fold (m : Mg) (c : Mc) (ps : List Int) (hp : ∀ p ∈ ps, 0 ≤ p ∧ p ≤ 10) : ∀ (x : Mg) (cx : Mc), toMq (ps.foldl m.step x) (ps.foldl c.step cx) = ps.foldl (qStep (toMq m c)) (toMq x cx) := by
  induction ps with
  | nil => intro x cx; rfl
  | cons p ps ih =>
    intro x cx
    simp only [List.foldl_cons]
    rw [ih (fun q hq => hp q (by simp [hq])), toMq_step m x c cx p (hp p (by simp))]
theorem sameV_iff (a b : Vt) (ca cb : Vc) : sameV a ca b cb = true ↔ toVp (a, ca) = toVp (b, cb) := by
  obtain ⟨m1, p1, q1⟩ := ca
  obtain ⟨m2, p2, q2⟩ := cb
  simp [sameV, toVp]
theorem sameVs_iff : ∀ xs ys : List (Vt × Vc), sameVs xs ys = true ↔ xs.map toVp = ys.map toVp
  | [], [] => by simp [sameVs]
  | [], y :: ys => by simp [sameVs]
  | x :: xs, [] => by simp [sameVs]
  | x :: xs, y :: ys => by
    have ih := sameVs_iff xs ys
    have hv := sameV_iff x.1 y.1 x.2 y.2
    unfold sameVs at ih ⊢
    simp only [List.length_cons, List.zip_cons_cons, List.all_cons, List.map_cons, List.cons.injEq, Bool.and_eq_true, decide_eq_true_eq, Nat.add_right_cancel_iff] at ih ⊢
    constructor
    · rintro ⟨h1, h2, h3⟩
      exact ⟨hv.1 h2, ih.1 ⟨h1, h3⟩⟩
    · rintro ⟨h1, h2⟩
      obtain ⟨h3, h4⟩ := ih.2 h2
      exact ⟨h3, hv.2 h1, h4⟩
theorem sameM_iff (a b : Mg) (ca cb : Mc) : sameM a ca b cb = true ↔ toMq a ca = toMq b cb := by
  unfold sameM toMq
  simp only [Bool.and_eq_true, decide_eq_true_eq, sameV_iff, sameVs_iff, Mq.mk.injEq]
/-- the bytes of a message are read as it, whatever is behind them -/
theorem rdsM (m : Mg) (c : Mc) (hok : MgOk m c) (hs : ∀ p ∈ partsOf m.k, Short c p) (hi : isM m c = true) (r : List Int) : pAll (encM m c ++ r) = (toMq m c, ⟨r, 0⟩) := by
  rw [rdsAll m c hok hs r]
  have hsm : sameM m c (m.bare (partsOf m.k)) (c.bare (partsOf m.k)) = true := by
    unfold isM isB at hi
    simp only [Bool.and_eq_true] at hi
    exact hi.2.2.1
  rw [sameM_iff] at hsm
  have hf := toMq_fold m c (partsOf m.k) (partsOf_le _) m.head Mc.nil
  have hz : zeroQ m.k m.f m.t m.e = toMq m.head Mc.nil := rfl
  rw [hz, ← hf]
  exact congrArg (fun q : Mq => (q, (⟨r, 0⟩ : Sr))) hsm.symm
/-- what is less of it is none -/
theorem cutM (m : Mg) (c : Mc) (hok : MgOk m c) (hs : ∀ p ∈ partsOf m.k, Short c p) (hi : isM m c = true) (l r : List Int) (he : l ++ r = encM m c) (hr : r ≠ []) : (pAll l).2.f ≠ 0 := by
  intro h
  have h1 := pAll_more l r h
  have h2 := rdsM m c hok hs hi []
  rw [List.append_nil] at h2
  rw [he, h2] at h1
  have h3 : ([] : List Int) = (pAll l).2.l ++ r := by
    have := congrArg (fun y : Mq × Sr => y.2.l) h1
    exact this
  exact hr (List.append_eq_nil_iff.1 h3.symm).2
theorem relQ_same {m m' : Mg} {c c' : Mc} (h : RelQ m' c' (toMq m c)) : sameM m' c' m c = true := by
  rw [sameM_iff]
  unfold toMq
  rw [Mq.mk.injEq]
  exact ⟨h.wd, h.vt, h.vs, h.sm, h.dt⟩
theorem isM_short {w : World} {m : Mg} {c : Mc} (hm : MgAt w m c) (h : isM m c = true) : ∀ p ∈ partsOf m.k, Short c p := fun _ hp =>
  ⟨fun e => isM_7 h (e ▸ hp), fun e => isM_8 h (e ▸ hp), fun e => isM_9 hm h (e ▸ hp), fun e => isM_10 hm h (e ▸ hp)⟩
end Go.Proofs.YtmkeckablkccnaaDoor
