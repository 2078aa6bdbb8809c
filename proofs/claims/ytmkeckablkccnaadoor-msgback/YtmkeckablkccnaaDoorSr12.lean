/- What was written is read. -/
import Derived.Test.YtmkeckablkccnaaDoorSr11
import Derived.Test.YtmkeckablkccnaaDoorEncV
namespace Go.Proofs.YtmkeckablkccnaaDoor
open Go.RowKit
set_option maxRecDepth 100000

/-- these bytes are read as v, and nothing more is taken -/
def Rds {α : Type} (p : Sr → α × Sr) (bs : List Int) (v : α) : Prop := ∀ r, p ⟨bs ++ r, 0⟩ = (v, ⟨r, 0⟩)
theorem rds8 (x : Int) : Rds p8 [x] x := fun r => by simp [p8, gN]
theorem rds16 (x : Int) (h : 0 ≤ x ∧ x ≤ 65535) : Rds p16 (b2 x) x := fun r => by
  have e : x / 256 % 256 * 256 + x % 256 = x := by omega
  simp [p16, gN, b2, rd16, e]
theorem rds32 (x : Int) (h : 0 ≤ x ∧ x ≤ 4294967295) : Rds p32 (b4 x) x := fun r => by
  have e : (x / 16777216 % 256 * 256 + x / 65536 % 256) * 65536 + (x / 256 % 256 * 256 + x % 256) = x := by omega
  simp [p32, gN, b4, rd32, e]
theorem rds64 (x : Int) (h : 0 ≤ x ∧ x ≤ 18446744073709551615) : Rds p64 (be8 x) x := fun r => by
  have e : packI (x / 72057594037927936 % 256) (x / 281474976710656 % 256) (x / 1099511627776 % 256 * 256 + x / 4294967296 % 256) ((x / 16777216 % 256 * 256 + x / 65536 % 256) * 65536 + (x / 256 % 256 * 256 + x % 256)) = x := by unfold packI; omega
  simp [p64, gN, be8, rd64, e]
theorem rdsRq (q : Rq) (h : q.ok) : Rds pRq q.bytes q := fun r => by
  obtain ⟨h1, h2, h3, h4, h5⟩ := h
  have e1 := rds8 q.c (b4 q.t ++ ([q.k] ++ ([q.y] ++ (b2 q.v ++ r))))
  have e2 := rds32 q.t h2 ([q.k] ++ ([q.y] ++ (b2 q.v ++ r)))
  have e3 := rds8 q.k ([q.y] ++ (b2 q.v ++ r))
  have e4 := rds8 q.y (b2 q.v ++ r)
  have e5 := rds16 q.v h5 r
  unfold pRq Rq.bytes
  simp only [List.append_assoc, e1, e2, e3, e4, e5]
def Mk.ok (x : Mk) : Prop := (0 ≤ x.s ∧ x.s ≤ 4294967295) ∧ 0 ≤ x.r ∧ x.r ≤ 18446744073709551615
def En.ok (x : En) : Prop := (0 ≤ x.s ∧ x.s ≤ 4294967295) ∧ (0 ≤ x.v ∧ x.v ≤ 4294967295) ∧ x.rq.ok
theorem rdsMk (x : Mk) (h : x.ok) : Rds pMk (mkB x) x := fun r => by
  have e1 := rds32 x.s h.1 (be8 x.r ++ r)
  have e2 := rds64 x.r h.2 r
  unfold pMk mkB
  simp only [List.append_assoc, e1, e2]
theorem rdsEn (x : En) (h : x.ok) : Rds pEn (enB x) x := fun r => by
  have e1 := rds32 x.s h.1 (b4 x.v ++ (x.rq.bytes ++ r))
  have e2 := rds32 x.v h.2.1 (x.rq.bytes ++ r)
  have e3 := rdsRq x.rq h.2.2 r
  unfold pEn enB
  simp only [List.append_assoc, e1, e2, e3]
theorem rdsN {α : Type} {one : Sr → α × Sr} {enc : α → List Int} (l : List α) (h : ∀ x ∈ l, Rds one (enc x) x) (r : List Int) (j : Nat) (hj : j ≤ l.length) : pN one ⟨l.flatMap enc ++ r, 0⟩ j = (l.take j, ⟨(l.drop j).flatMap enc ++ r, 0⟩) := by
  induction j with
  | zero => simp [pN]
  | succ j ih =>
    have hlt : j < l.length := by omega
    have e := h l[j] (List.getElem_mem hlt) ((l.drop (j + 1)).flatMap enc ++ r)
    have hd : l.drop j = l[j] :: l.drop (j + 1) := List.drop_eq_getElem_cons hlt
    have e2 : one (pN one ⟨l.flatMap enc ++ r, 0⟩ j).2 = (l[j], ⟨(l.drop (j + 1)).flatMap enc ++ r, 0⟩) := by
      rw [ih (by omega)]
      show one ⟨(l.drop j).flatMap enc ++ r, 0⟩ = _
      rw [hd, List.flatMap_cons, List.append_assoc]
      exact e
    show ((pN one ⟨l.flatMap enc ++ r, 0⟩ j).1 ++ [(one (pN one ⟨l.flatMap enc ++ r, 0⟩ j).2).1], (one (pN one ⟨l.flatMap enc ++ r, 0⟩ j).2).2) = _
    have e3 : l.take (j + 1) = l.take j ++ [l[j]] := by rw [List.take_add_one, List.getElem?_eq_getElem hlt]; rfl
    rw [e2, ih (by omega), e3]
theorem rdsL {α : Type} {one : Sr → α × Sr} {enc : α → List Int} (l : List α) (most : Nat) (h : ∀ x ∈ l, Rds one (enc x) x) (hl : l.length ≤ most) : Rds (pL one l.length most) (l.flatMap enc) l := fun r => by
  have e := rdsN l h r l.length (Nat.le_refl _)
  simp only [pL, if_true, hl]
  rw [e]
  simp
def Vc.ok (c : Vc) : Prop := (∀ x ∈ c.ms, x.ok) ∧ (∀ x ∈ c.p, x.ok) ∧ ∀ x ∈ c.q, x.ok
def Vt.ok (v : Vt) : Prop := (0 ≤ v.f ∧ v.f ≤ 255) ∧ (0 ≤ v.e ∧ v.e ≤ 255) ∧ (0 ≤ v.vw ∧ v.vw ≤ 4294967295) ∧ 0 ≤ v.lo ∧ v.lo ≤ 4294967295
theorem rdsVt (v : Vt) (c : Vc) (hv : v.ok) (hc : c.ok) (hf : c.few) : Rds pVt (voteY v c) (toVp (v, c)) := fun r => by
  obtain ⟨f1, f2, f3⟩ := hf
  obtain ⟨_, _, v3, v4⟩ := hv
  obtain ⟨c1, c2, c3⟩ := hc
  have e1 := rds8 v.f ([v.e] ++ (b4 v.vw ++ (b4 v.lo ++ (marksY c.ms ++ (entsB c.p ++ (entsB c.q ++ r))))))
  have e2 := rds8 v.e (b4 v.vw ++ (b4 v.lo ++ (marksY c.ms ++ (entsB c.p ++ (entsB c.q ++ r)))))
  have e3 := rds32 v.vw v3 (b4 v.lo ++ (marksY c.ms ++ (entsB c.p ++ (entsB c.q ++ r))))
  have e4 := rds32 v.lo v4 (marksY c.ms ++ (entsB c.p ++ (entsB c.q ++ r)))
  have e5 := rds8 (c.ms.length : Int) (c.ms.flatMap mkB ++ (entsB c.p ++ (entsB c.q ++ r)))
  have e6 := rdsL (one := pMk) (enc := mkB) c.ms 40 (fun x hx => rdsMk x (c1 x hx)) f1 (entsB c.p ++ (entsB c.q ++ r))
  have e7 := rds8 (c.p.length : Int) (c.p.flatMap enB ++ (entsB c.q ++ r))
  have e8 := rdsL (one := pEn) (enc := enB) c.p 40 (fun x hx => rdsEn x (c2 x hx)) f2 (entsB c.q ++ r)
  have e9 := rds8 (c.q.length : Int) (c.q.flatMap enB ++ r)
  have e10 := rdsL (one := pEn) (enc := enB) c.q 40 (fun x hx => rdsEn x (c3 x hx)) f3 r
  have d5 : p8 ⟨marksY c.ms ++ (entsB c.p ++ (entsB c.q ++ r)), 0⟩ = ((c.ms.length : Int), ⟨c.ms.flatMap mkB ++ (entsB c.p ++ (entsB c.q ++ r)), 0⟩) := by
    rw [← e5]; simp [marksY]
  have d7 : p8 ⟨entsB c.p ++ (entsB c.q ++ r), 0⟩ = ((c.p.length : Int), ⟨c.p.flatMap enB ++ (entsB c.q ++ r), 0⟩) := by
    rw [← e7]; simp [entsB]
  have d9 : p8 ⟨entsB c.q ++ r, 0⟩ = ((c.q.length : Int), ⟨c.q.flatMap enB ++ r, 0⟩) := by
    rw [← e9]; simp [entsB]
  have d1 : p8 ⟨voteY v c ++ r, 0⟩ = (v.f, ⟨[v.e] ++ (b4 v.vw ++ (b4 v.lo ++ (marksY c.ms ++ (entsB c.p ++ (entsB c.q ++ r))))), 0⟩) := by
    rw [← e1]; simp [voteY]
  exact pVt_eq d1.symm e2.symm e3.symm e4.symm d5.symm e6.symm d7.symm e8.symm d9.symm e10.symm
theorem rdsDt (l : List Int) (h : l.length ≤ 64) : Rds pDt (lenBytes l) l := fun r => by
  have e : rd16 (lenBytes l ++ r) = (l.length : Int) := by
    simp only [rd16, lenBytes, List.cons_append, List.nil_append, List.getD_cons_zero, List.getD_cons_succ]
    omega
  have hl : (lenBytes l ++ r).length = l.length + 2 + r.length := by simp [lenBytes]; omega
  unfold pDt
  simp only [if_true, e, hl, show 2 ≤ l.length + 2 + r.length from by omega, show ¬ (64 < (l.length : Int)) from by omega, if_false, Int.toNat_natCast, show 2 + l.length ≤ l.length + 2 + r.length from by omega]
  have d1 : ((lenBytes l ++ r).drop 2).take l.length = l := by simp [lenBytes]
  have d2 : (lenBytes l ++ r).drop (2 + l.length) = r := by
    rw [← List.drop_drop]
    simp [lenBytes]
  rw [d1, d2]
end Go.Proofs.YtmkeckablkccnaaDoor
