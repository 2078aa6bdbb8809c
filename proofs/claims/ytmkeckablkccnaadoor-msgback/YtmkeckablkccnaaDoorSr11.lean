/- What is read well off some bytes is read so with more behind them. -/
import Derived.Test.YtmkeckablkccnaaDoorSr10
namespace Go.Proofs.YtmkeckablkccnaaDoor
open Go.RowKit
set_option maxRecDepth 100000

/-- a way to read: behind a fault there is one; what is read well hangs on what is taken alone -/
structure Good {α : Type} (p : Sr → α × Sr) : Prop where
  back : ∀ s, (p s).2.f = 0 → s.f = 0
  ext : ∀ s r, (p s).2.f = 0 → p ⟨s.l ++ r, s.f⟩ = ((p s).1, ⟨(p s).2.l ++ r, 0⟩)

theorem good_gN (k : Nat) (num : List Int → Int) (hn : ∀ l r : List Int, k ≤ l.length → num (l ++ r) = num l) : Good (gN k num) := by
  refine ⟨fun s h => ?_, fun s r h => ?_⟩
  · unfold gN at h
    split at h
    · next hf => exact hf
    · exact h
  · unfold gN at h ⊢
    by_cases hf : s.f = 0
    · rw [if_pos hf] at h ⊢
      simp only [hf, if_true] at h ⊢
      by_cases hk : k ≤ s.l.length
      · rw [if_pos hk, if_pos (by rw [List.length_append]; omega)]
        simp only [hn s.l r hk, List.drop_append_of_le_length hk]
      · rw [if_neg hk] at h
        simp at h
    · rw [if_neg hf] at h
      exact absurd h hf
theorem getD_app (l r : List Int) (i : Nat) (h : i < l.length) : (l ++ r).getD i 0 = l.getD i 0 := by
  simp [List.getD_eq_getElem?_getD, List.getElem?_append_left h]
theorem good8 : Good p8 := good_gN 1 _ (fun l r h => getD_app l r 0 (by omega))
theorem good16 : Good p16 := good_gN 2 _ (fun l r h => by unfold rd16; rw [getD_app l r 0 (by omega), getD_app l r 1 (by omega)])
theorem good32 : Good p32 := good_gN 4 _ (fun l r h => by unfold rd32; rw [getD_app l r 0 (by omega), getD_app l r 1 (by omega), getD_app l r 2 (by omega), getD_app l r 3 (by omega)])
theorem good64 : Good p64 := good_gN 8 _ (fun l r h => by
  unfold rd64
  rw [getD_app l r 0 (by omega), getD_app l r 1 (by omega), getD_app l r 2 (by omega), getD_app l r 3 (by omega), getD_app l r 4 (by omega), getD_app l r 5 (by omega), getD_app l r 6 (by omega), getD_app l r 7 (by omega)])
/-- one behind the other -/
theorem Good.then {α β γ : Type} {p : Sr → α × Sr} {q : α → Sr → β × Sr} (hp : Good p) (hq : ∀ a, Good (q a)) (f : α → β → γ) : Good (fun s => (f (p s).1 (q (p s).1 (p s).2).1, (q (p s).1 (p s).2).2)) := by
  refine ⟨fun s h => hp.back s ((hq _).back _ h), fun s r h => ?_⟩
  have h1 := (hq _).back _ h
  have e1 := hp.ext s r h1
  have e2 := (hq (p s).1).ext (p s).2 r h
  simp only [e1]
  rw [h1] at e2
  simp only [e2]
theorem Good.map {α β : Type} {p : Sr → α × Sr} (hp : Good p) (f : α → β) : Good (fun s => (f (p s).1, (p s).2)) := by
  refine ⟨fun s h => hp.back s h, fun s r h => ?_⟩
  simp only [hp.ext s r h]
theorem goodRq : Good pRq :=
  good8.then (q := fun _ s => (p32 s).1 |> fun _ => (fun s => ((p32 s).1, (p8 (p32 s).2).1, (p8 (p8 (p32 s).2).2).1, (p16 (p8 (p8 (p32 s).2).2).2).1) |> fun v => (v, (p16 (p8 (p8 (p32 s).2).2).2).2)) s)
    (fun _ => good32.then (q := fun _ s => ((p8 s).1, (p8 (p8 s).2).1, (p16 (p8 (p8 s).2).2).1) |> fun v => (v, (p16 (p8 (p8 s).2).2).2)) (fun _ => good8.then (q := fun _ s => ((p8 s).1, (p16 (p8 s).2).1) |> fun v => (v, (p16 (p8 s).2).2)) (fun _ => good8.then (q := fun _ s => p16 s) (fun _ => good16) (fun a b => (a, b))) (fun a b => (a, b.1, b.2))) (fun a b => (a, b.1, b.2.1, b.2.2)))
    (fun c x => (⟨c, x.1, x.2.1, x.2.2.1, x.2.2.2⟩ : Rq))
theorem goodMk : Good pMk := good32.then (q := fun _ s => p64 s) (fun _ => good64) (fun a b => (⟨a, b⟩ : Mk))
theorem goodEn : Good pEn := good32.then (q := fun _ s => ((p32 s).1, (pRq (p32 s).2).1) |> fun v => (v, (pRq (p32 s).2).2)) (fun _ => good32.then (q := fun _ s => pRq s) (fun _ => goodRq) (fun a b => (a, b))) (fun a x => (⟨a, x.1, x.2⟩ : En))
theorem goodN {α : Type} {one : Sr → α × Sr} (h : Good one) (n : Nat) : Good (fun s => pN one s n) := by
  induction n with
  | zero => exact ⟨fun s h => h, fun s r h => by simp only [pN] at h ⊢; rw [h]⟩
  | succ n ih => exact ih.then (q := fun _ s => one s) (fun _ => h) (fun l x => l ++ [x])
theorem goodL {α : Type} {one : Sr → α × Sr} (h : Good one) (n most : Nat) : Good (pL one n most) := by
  refine ⟨fun s hs => ?_, fun s r hs => ?_⟩
  · unfold pL at hs
    split at hs
    · next hf => exact hf
    · exact hs
  · unfold pL at hs ⊢
    by_cases hf : s.f = 0
    · simp only [hf, if_true] at hs ⊢
      by_cases hn : n ≤ most
      · simp only [hn, if_true] at hs ⊢
        have := (goodN h n).ext s r hs
        rw [hf] at this
        exact this
      · simp [hn] at hs
    · simp [hf] at hs
theorem goodDt : Good pDt := by
  refine ⟨fun s h => ?_, fun s r h => ?_⟩
  · unfold pDt at h
    split at h
    · next hf => exact hf
    · exact h
  · unfold pDt at h ⊢
    by_cases hf : s.f = 0
    · simp only [hf, if_true] at h ⊢
      by_cases h2 : 2 ≤ s.l.length
      · have e : rd16 (s.l ++ r) = rd16 s.l := by unfold rd16; rw [getD_app s.l r 0 (by omega), getD_app s.l r 1 (by omega)]
        simp only [h2, if_true, show 2 ≤ (s.l ++ r).length from by rw [List.length_append]; omega, e] at h ⊢
        by_cases hl : 64 < rd16 s.l
        · simp [hl] at h
        · simp only [hl, if_false] at h ⊢
          by_cases hc : 2 + (rd16 s.l).toNat ≤ s.l.length
          · simp only [hc, if_true, show 2 + (rd16 s.l).toNat ≤ (s.l ++ r).length from by rw [List.length_append]; omega] at h ⊢
            rw [List.drop_append_of_le_length h2, List.drop_append_of_le_length hc, List.take_append_of_le_length (by rw [List.length_drop]; omega)]
          · simp [hc] at h
      · simp [h2] at h
    · simp [hf] at h
theorem pVt_eq {t : Sr} {a b c d n n2 n3 : Int × Sr} {x : List Mk × Sr} {y z : List En × Sr} (ha : a = p8 t) (hb : b = p8 a.2) (hc : c = p32 b.2) (hd : d = p32 c.2) (hn : n = p8 d.2) (hx : x = pL pMk n.1.toNat 40 n.2) (hn2 : n2 = p8 x.2) (hy : y = pL pEn n2.1.toNat 40 n2.2) (hn3 : n3 = p8 y.2) (hz : z = pL pEn n3.1.toNat 40 n3.2) : pVt t = (⟨a.1, b.1, c.1, d.1, ⟨x.1, y.1, z.1⟩⟩, z.2) := by
  rw [hz, hn3, hy, hn2, hx, hn, hd, hc, hb, ha]; rfl
theorem goodVt : Good pVt := by
  have key : ∀ s, (pVt s).2.f = 0 → s.f = 0 ∧ (p8 s).2.f = 0 ∧ (p8 (p8 s).2).2.f = 0 ∧ (p32 (p8 (p8 s).2).2).2.f = 0 ∧ (p32 (p32 (p8 (p8 s).2).2).2).2.f = 0 := fun s h => by
    have h9 := (goodL goodEn _ 40).back _ h
    have h8 := good8.back _ h9
    have h7 := (goodL goodEn _ 40).back _ h8
    have h6 := good8.back _ h7
    have h5 := (goodL goodMk _ 40).back _ h6
    have h4 := good8.back _ h5
    have h3 := good32.back _ h4
    have h2 := good32.back _ h3
    have h1 := good8.back _ h2
    exact ⟨good8.back _ h1, h1, h2, h3, h4⟩
  refine ⟨fun s h => (key s h).1, fun s r h => ?_⟩
  obtain ⟨h0, h1, h2, h3, h4⟩ := key s h
  obtain ⟨a, ha⟩ : ∃ a, a = p8 s := ⟨_, rfl⟩
  obtain ⟨b, hb⟩ : ∃ b, b = p8 a.2 := ⟨_, rfl⟩
  obtain ⟨c, hc⟩ : ∃ c, c = p32 b.2 := ⟨_, rfl⟩
  obtain ⟨d, hd⟩ : ∃ d, d = p32 c.2 := ⟨_, rfl⟩
  obtain ⟨n, hn⟩ : ∃ n, n = p8 d.2 := ⟨_, rfl⟩
  obtain ⟨x, hx⟩ : ∃ x, x = pL pMk n.1.toNat 40 n.2 := ⟨_, rfl⟩
  obtain ⟨n2, hn2⟩ : ∃ n2, n2 = p8 x.2 := ⟨_, rfl⟩
  obtain ⟨y, hy⟩ : ∃ y, y = pL pEn n2.1.toNat 40 n2.2 := ⟨_, rfl⟩
  obtain ⟨n3, hn3⟩ : ∃ n3, n3 = p8 y.2 := ⟨_, rfl⟩
  obtain ⟨z, hz⟩ : ∃ z, z = pL pEn n3.1.toNat 40 n3.2 := ⟨_, rfl⟩
  have e : pVt s = (⟨a.1, b.1, c.1, d.1, ⟨x.1, y.1, z.1⟩⟩, z.2) := by rw [hz, hn3, hy, hn2, hx, hn, hd, hc, hb, ha]; rfl
  rw [e] at h ⊢
  replace h : z.2.f = 0 := h
  show pVt ⟨s.l ++ r, s.f⟩ = ((⟨a.1, b.1, c.1, d.1, ⟨x.1, y.1, z.1⟩⟩ : Vp), ⟨z.2.l ++ r, 0⟩)
  have f9 : n3.2.f = 0 := (goodL goodEn n3.1.toNat 40).back _ (by rw [← hz]; exact h)
  have f8 : y.2.f = 0 := good8.back _ (by rw [← hn3]; exact f9)
  have f7 : n2.2.f = 0 := (goodL goodEn n2.1.toNat 40).back _ (by rw [← hy]; exact f8)
  have f6 : x.2.f = 0 := good8.back _ (by rw [← hn2]; exact f7)
  have f5 : n.2.f = 0 := (goodL goodMk n.1.toNat 40).back _ (by rw [← hx]; exact f6)
  have f4 : d.2.f = 0 := good8.back _ (by rw [← hn]; exact f5)
  have f3 : c.2.f = 0 := good32.back _ (by rw [← hd]; exact f4)
  have f2 : b.2.f = 0 := good32.back _ (by rw [← hc]; exact f3)
  have f1 : a.2.f = 0 := good8.back _ (by rw [← hb]; exact f2)
  have g1 := good8.ext s r (by rw [← ha]; exact f1)
  have g2 := good8.ext a.2 r (by rw [← hb]; exact f2)
  have g3 := good32.ext b.2 r (by rw [← hc]; exact f3)
  have g4 := good32.ext c.2 r (by rw [← hd]; exact f4)
  have g5 := good8.ext d.2 r (by rw [← hn]; exact f5)
  have g6 := (goodL goodMk n.1.toNat 40).ext n.2 r (by rw [← hx]; exact f6)
  have g7 := good8.ext x.2 r (by rw [← hn2]; exact f7)
  have g8 := (goodL goodEn n2.1.toNat 40).ext n2.2 r (by rw [← hy]; exact f8)
  have g9 := good8.ext y.2 r (by rw [← hn3]; exact f9)
  have g10 := (goodL goodEn n3.1.toNat 40).ext n3.2 r (by rw [← hz]; exact h)
  rw [← ha] at g1
  rw [← hb, f1] at g2
  rw [← hc, f2] at g3
  rw [← hd, f3] at g4
  rw [← hn, f4] at g5
  rw [← hx, f5] at g6
  rw [← hn2, f6] at g7
  rw [← hy, f7] at g8
  rw [← hn3, f8] at g9
  rw [← hz, f9] at g10
  exact pVt_eq g1.symm g2.symm g3.symm g4.symm g5.symm g6.symm g7.symm g8.symm g9.symm g10.symm
theorem goodPart (p : Int) (hp : 0 ≤ p ∧ p ≤ 10) (x : Mq) : Good (pPart p x) := by
  have hc : p = 0 ∨ p = 1 ∨ p = 2 ∨ p = 3 ∨ p = 4 ∨ p = 5 ∨ p = 6 ∨ p = 7 ∨ p = 8 ∨ p = 9 ∨ p = 10 := by omega
  rcases hc with rfl | rfl | rfl | rfl | rfl | rfl | rfl | rfl | rfl | rfl | rfl
  · exact good32.map (fun v => { x with w := { x.w with vw := v } })
  · exact good32.map (fun v => { x with w := { x.w with sq := v } })
  · exact goodRq.map (fun v => { x with w := { x.w with rq := v } })
  · exact good64.map (fun v => { x with w := { x.w with ro := v } })
  · exact good8.map (fun v => { x with w := { x.w with ct := v } })
  · exact good8.map (fun v => { x with w := { x.w with pg := v } })
  · exact good32.map (fun v => { x with w := { x.w with rs := v } })
  · exact goodVt.map (fun v => { x with vt := v })
  · exact good8.then (q := fun n s => pL pVt n.toNat 4 s) (fun n => goodL goodVt n.toNat 4) (fun _ v => { x with vs := v })
  · exact (goodL good64 8 8).map (fun v => { x with sm := v })
  · exact goodDt.map (fun v => { x with dt := v })
theorem goodFold (ps : List Int) (hps : ∀ p ∈ ps, 0 ≤ p ∧ p ≤ 10) : ∀ x : Mq, Good (fun s => pFold ps (x, s)) := by
  induction ps with
  | nil => intro x; exact ⟨fun s h => h, fun s r h => by simp only [pFold, List.foldl_nil] at h ⊢; rw [h]⟩
  | cons p r ih =>
    intro x
    exact (goodPart p (hps p (by simp)) x).then (q := fun y s => pFold r (y, s)) (fun y => ih (fun q hq => hps q (by simp [hq])) y) (fun _ v => v)
theorem goodHd : Good pHd := by
  have h3 : Good (fun s => (((p8 s).1, (p8 (p8 s).2).1), (p8 (p8 s).2).2)) := good8.then (q := fun _ s => p8 s) (fun _ => good8) (fun a b => (a, b))
  have h2 : Good (fun s => (((p8 s).1, (p8 (p8 s).2).1, (p8 (p8 (p8 s).2).2).1), (p8 (p8 (p8 s).2).2).2)) := good8.then (q := fun _ s => (((p8 s).1, (p8 (p8 s).2).1), (p8 (p8 s).2).2)) (fun _ => h3) (fun a b => (a, b.1, b.2))
  exact good8.then (q := fun _ s => (((p8 s).1, (p8 (p8 s).2).1, (p8 (p8 (p8 s).2).2).1), (p8 (p8 (p8 s).2).2).2)) (fun _ => h2) (fun a b => zeroQ a b.1 b.2.1 b.2.2)
/-- what is read well of some bytes is read so with more behind them, and they are left -/
theorem pAll_more (l r : List Int) (h : (pAll l).2.f = 0) : pAll (l ++ r) = ((pAll l).1, ⟨(pAll l).2.l ++ r, 0⟩) := by
  have hh := (goodFold (partsOf (p8 ⟨l, 0⟩).1) (partsOf_le _) (pHd ⟨l, 0⟩).1).back (pHd ⟨l, 0⟩).2 h
  have h1 := goodHd.ext ⟨l, 0⟩ r hh
  have h2 := (goodFold (partsOf (p8 ⟨l, 0⟩).1) (partsOf_le _) (pHd ⟨l, 0⟩).1).ext (pHd ⟨l, 0⟩).2 r h
  have hb3 : (p8 (p8 (p8 ⟨l, 0⟩).2).2).2.f = 0 := good8.back _ hh
  have hb2 : (p8 (p8 ⟨l, 0⟩).2).2.f = 0 := good8.back _ hb3
  have hb1 : (p8 ⟨l, 0⟩).2.f = 0 := good8.back _ hb2
  have h3 := good8.ext ⟨l, 0⟩ r hb1
  simp only at h1 h3
  unfold pAll
  rw [h1, h3]
  rw [hh] at h2
  exact h2
end Go.Proofs.YtmkeckablkccnaaDoor
