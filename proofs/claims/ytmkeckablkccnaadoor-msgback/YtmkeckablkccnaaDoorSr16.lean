/- Its bytes are bytes, and fewer than may be. -/
import Derived.Test.YtmkeckablkccnaaDoorSr15
namespace Go.Proofs.YtmkeckablkccnaaDoor
open Go.RowKit
set_option maxRecDepth 100000

theorem encM_len7 {w : World} {m : Mg} {c : Mc} (hm : MgAt w m c) (h : isM m c = true) : (encM m c).length ≤ 7421 := by
  by_cases h8 : (8 : Int) ∈ partsOf m.k
  · have hk := parts_8 h8
    obtain ⟨h1, h2⟩ := isM_8 h h8
    have h3 := votes_len h2
    have e : partsOf m.k = [0, 8] := by rw [hk]; rfl
    simp only [encM, encUp, e, List.flatMap_cons, List.flatMap_nil, List.length_append, List.length_cons, List.length_nil]
    have e0 : (partY m c 0).length = 4 := by simp [partY, wordB, b4]
    have e8 : (partY m c 8).length ≤ 7413 := by
      have e9 : partY m c 8 = votesY c.vs := by simp [partY]
      rw [e9]
      simp only [votesY, List.length_append, List.length_cons, List.length_nil]; omega
    omega
  · have h1 := flat_len2 (pb := partY m c) (N := 1853) (partsOf m.k) (fun p hp => partY_small hm h hp (fun e => h8 (e ▸ hp)))
    have h2 := parts_len m.k
    simp only [encM, encUp, List.length_append, List.length_cons, List.length_nil]
    omega
def AllB (l : List Int) : Prop := ∀ x ∈ l, isByte x
theorem AllB.app {a b : List Int} (ha : AllB a) (hb : AllB b) : AllB (a ++ b) := fun x hx => by
  rw [List.mem_append] at hx
  rcases hx with hx | hx
  · exact ha x hx
  · exact hb x hx
theorem AllB.one {x : Int} (h : isByte x) : AllB [x] := fun y hy => by
  rw [List.mem_singleton] at hy
  subst hy
  exact h
theorem AllB.flat {α : Type} {f : α → List Int} {l : List α} (h : ∀ x ∈ l, AllB (f x)) : AllB (l.flatMap f) := fun y hy => by
  obtain ⟨x, hx, hy⟩ := List.mem_flatMap.1 hy
  exact h x hx y hy
theorem allB_b2 (x : Int) : AllB (b2 x) := fun y hy => by
  simp only [b2, List.mem_cons, List.not_mem_nil, or_false] at hy
  unfold isByte
  rcases hy with rfl | rfl <;> omega
theorem allB_b4 (x : Int) : AllB (b4 x) := fun y hy => by
  simp only [b4, List.mem_cons, List.not_mem_nil, or_false] at hy
  unfold isByte
  rcases hy with rfl | rfl | rfl | rfl <;> omega
theorem allB_be8 (x : Int) : AllB (be8 x) := fun y hy => by
  simp only [be8, List.mem_cons, List.not_mem_nil, or_false] at hy
  unfold isByte
  rcases hy with rfl | rfl | rfl | rfl | rfl | rfl | rfl | rfl <;> omega
theorem allB_rq (q : Rq) (h : q.ok) : AllB q.bytes := (AllB.one h.1).app ((allB_b4 _).app ((AllB.one h.2.2.1).app ((AllB.one h.2.2.2.1).app (allB_b2 _))))
theorem allB_en (x : En) (h : x.ok) : AllB (enB x) := (allB_b4 _).app ((allB_b4 _).app (allB_rq _ h.2.2))
theorem allB_mk (x : Mk) : AllB (mkB x) := (allB_b4 _).app (allB_be8 _)
theorem len_byte {n : Nat} (h : n ≤ 255) : isByte (n : Int) := by unfold isByte; omega
theorem allB_vote (v : Vt) (c : Vc) (hv : v.ok) (hc : c.ok) (hf : c.few) : AllB (voteY v c) := by
  obtain ⟨f1, f2, f3⟩ := hf
  exact (AllB.one hv.1).app ((AllB.one hv.2.1).app ((allB_b4 _).app ((allB_b4 _).app (((AllB.one (len_byte (by omega))).app (AllB.flat (fun x _ => allB_mk x))).app (((AllB.one (len_byte (by omega))).app (AllB.flat (fun x hx => allB_en x (hc.2.1 x hx)))).app ((AllB.one (len_byte (by omega))).app (AllB.flat (fun x hx => allB_en x (hc.2.2 x hx)))))))))
theorem allB_word (m : Mg) (c : Mc) (h : MgOk m c) (p : Int) : AllB (wordB m p) := by
  unfold wordB
  split
  · exact allB_b4 _
  split
  · exact allB_b4 _
  split
  · exact allB_rq _ h.rq
  split
  · exact allB_be8 _
  split
  · exact AllB.one h.ct
  split
  · exact AllB.one h.pg
  · exact allB_b4 _
theorem allB_enc {w : World} {m : Mg} {c : Mc} (hm : MgAt w m c) (hok : MgOk m c) (hi : isM m c = true) : AllB (encM m c) := by
  have hs := isM_short hm hi
  have hp : ∀ p ∈ partsOf m.k, AllB (partY m c p) := fun p hp => by
    obtain ⟨s7, s8, s9, s10⟩ := hs p hp
    unfold partY
    split
    · next e => exact allB_vote _ _ hok.vt.1 hok.vt.2 (s7 e)
    split
    · next _ e =>
      obtain ⟨h4, hf⟩ := s8 e
      exact (AllB.one (len_byte (by omega))).app (AllB.flat (fun x hx => allB_vote _ _ (hok.vs x hx).1 (hok.vs x hx).2 (hf x hx)))
    split
    · exact AllB.flat (fun x _ => allB_be8 x)
    split
    · next _ _ _ e =>
      have h64 := s10 e
      refine AllB.app (fun y hy => ?_) (fun x hx => hm.dt.2.2.2.2.2 x hx)
      simp only [List.mem_cons, List.not_mem_nil, or_false] at hy
      unfold isByte
      rcases hy with rfl | rfl <;> omega
    · exact allB_word m c hok p
  have hh : AllB [m.k, m.f, m.t, m.e] := fun x hx => by
    simp only [List.mem_cons, List.not_mem_nil, or_false] at hx
    rcases hx with rfl | rfl | rfl | rfl
    · exact hok.k
    · exact hok.f
    · exact hok.t
    · exact hok.e
  exact hh.app (AllB.flat hp)
end Go.Proofs.YtmkeckablkccnaaDoor
