/- A row of bytes that a call made; append onto it at whatever operation; Put onto it. -/
import Derived.Test.YtphakceboohbhaaPut
namespace Go.Proofs.Ytphakceboohbhaa
open Go.RowKit
set_option maxRecDepth 100000

theorem wp_app {o : Oper} {a : Act} {K : Act → World → Prop} {Q : Exit → Act → World → Prop} (w : World) (s x : Operand)
    (ho : o.op = .call { callee := .builtin .append, args := #[s, x], argTypes := #[43, 43] })
    (v : Value) (n : Nat) (xs : List Int) (hs : a.eval s = v) (hown : w.ownsRow 0 5 1 v n (vals xs))
    (ao : Option Addr) (m c : Nat) (news : List Int) (hx : a.eval x = .slice ao m c) (hl : news.length = m) (hb : Bytes w ao news) (hnone : ao = none → m = 0 ∧ c = 0)
    (hbig : n + m ≤ 10000000)
    (hK : ∀ ao' cap' w', w'.ownsRow 0 5 1 (.slice ao' (n + m) cap') (n + m) (vals (xs ++ news)) → Kept (fun k => some k = v.ownBlock) w w' →
      ((Value.slice ao' (n + m) cap').ownBlock = v.ownBlock ∨ (Value.slice ao' (n + m) cap').ownBlock = some w.heap.size) → K (a.put o.dst (.slice ao' (n + m) cap')) w') :
    o.wp Try.prog a w K Q := by
  obtain ⟨i0, hi0, hz0, hz1, hz2⟩ := info_parts byte_info
  cases ao with
  | none =>
    obtain ⟨rfl, rfl⟩ := hnone rfl
    obtain rfl : news = [] := List.eq_nil_of_length_eq_zero hl
    have hrun := run_append_owned_none (P := Try.prog) (w := w) 0 43 o.type 5 i0 1 Try.underlying43 hi0 v n (vals xs) hown
    obtain ⟨ao', cap', rfl, _⟩ := own_form hown
    unfold Oper.wp
    simp [execOp, ho, resolve, invoke, builtin, hs, hx, hrun, Result.andThen]
    exact (hK ao' cap' w (by simpa using hown) (Kept.refl _ _) (.inl rfl))
  | some ad =>
    obtain ⟨v', w', hrun, h2, h3, _, h5⟩ := run_append_own_at (P := Try.prog) w 0 43 o.type 5 i0 _ 1 1 Try.underlying43 hi0 hz0 hz1 hz2 rfl (by omega) v n (vals xs) hown ad m c (vals news) (by simp [vals, hl]) (by
      intro j u hu
      obtain ⟨hj, rfl⟩ := List.getElem?_eq_some_iff.1 hu
      simp only [vals, List.length_map] at hj
      obtain ⟨ad', e1, e2⟩ := hb j hj
      injection e1 with e1; subst e1
      rw [e2]; simp [vals, List.getElem?_eq_getElem hj]) (vals_one news) (by simp only [maxLen]; omega) (by omega) (Nat.zero_le _)
    have hv : vals xs ++ vals news = vals (xs ++ news) := by simp [vals]
    rw [hv] at h2
    obtain ⟨ao', cap', rfl, _⟩ := own_form h2
    unfold Oper.wp
    simp [execOp, ho, resolve, invoke, builtin, hs, hx, hrun, Result.andThen]
    exact (hK ao' cap' w' h2 (Kept.ofGrown h3) h5)


/-- a row of bytes that a call made since H -/
structure Mine (H : Nat) (w0 w : World) (ao : Option Addr) (n c : Nat) (l : List Int) : Prop where
  own : w.ownsRow 0 5 1 (.slice ao n c) n (vals l)
  since : ∀ g, (Value.slice ao n c).ownBlock = some g → H ≤ g
  below : Below H w0 w
  size : H ≤ w.heap.size

theorem Mine.nil (w : World) : Mine w.heap.size w w none 0 0 [] :=
  ⟨⟨rfl, .inl ⟨rfl, rfl⟩⟩, fun g h => by simp [Value.ownBlock] at h, Below.refl _ _, Nat.le_refl _⟩

theorem Mine.step {H : Nat} {w0 w w' : World} {ao ao' : Option Addr} {n c n' c' : Nat} {l l' : List Int} (h : Mine H w0 w ao n c l) (ho : w'.ownsRow 0 5 1 (.slice ao' n' c') n' (vals l')) (hk : Kept (fun k => some k = (Value.slice ao n c).ownBlock) w w') (hg : Grew w (.slice ao n c) (.slice ao' n' c')) : Mine H w0 w' ao' n' c' l' := by
  refine ⟨ho, ?_, h.below.trans (hk.below h.size (fun k e => h.since k e.symm)), Nat.le_trans h.size hk.size⟩
  intro g e
  rcases hg with hg | ⟨k, hg, hk⟩
  · exact h.since g (hg ▸ e)
  · rw [hg] at e
    injection e with e
    exact Nat.le_trans h.size (e ▸ hk)

theorem put_mine (H : Nat) (w0 : World) (ao : Option Addr) (n c : Nat) (l : List Int) (x : Int) (m k : Nat) (w : World) (h : Mine H w0 w ao n c l) (hm : m ≤ 8) (hn : n ≤ 900000) (hk : n + m = k) :
    Calls Try.prog 33 #[.slice ao n c, .int .u64 x, .int .i64 m] w fun e w' => ∃ ao' c', e = .returned (.slice ao' k c') ∧ Mine H w0 w' ao' k c' (l ++ be x m) := by
  subst hk
  refine (put1_any ao n c l x m w h.own hm hn).mono ?_
  rintro e w' ⟨ao', c', rfl, ho, hk, hg⟩
  exact ⟨ao', c', rfl, h.step ho hk hg⟩


theorem Mine.kept {H : Nat} {w0 w w' : World} {ao : Option Addr} {n c : Nat} {l : List Int} (h : Mine H w0 w ao n c l) (hk : Below w.heap.size w w') : Mine H w0 w' ao n c l :=
  ⟨own_kept h.own (Kept.ofBelow (S := fun _ => False) hk) (fun _ _ h => h), h.since, h.below.trans (hk.mono h.size), Nat.le_trans h.size hk.size⟩
/-- some bytes appended -/
theorem app_mine {H : Nat} {w0 w : World} {ao : Option Addr} {n c : Nat} {l : List Int} (h : Mine H w0 w ao n c l) {o : Oper} {a : Act} {K : Act → World → Prop} {Q : Exit → Act → World → Prop} (s x : Operand)
    (ho : o.op = .call { callee := .builtin .append, args := #[s, x], argTypes := #[43, 43] }) (hs : a.eval s = .slice ao n c) (bo : Option Addr) (m k : Nat) (news : List Int) (hx : a.eval x = .slice bo m k) (hl : news.length = m) (hb : Bytes w bo news) (hnone : bo = none → m = 0 ∧ k = 0) (hbig : n + m ≤ 1000000)
    (hK : ∀ ao' c' w', Mine H w0 w' ao' (n + m) c' (l ++ news) → w.heap.size ≤ w'.heap.size → (∀ k, k < w.heap.size → H > k → w'.heap[k]? = w.heap[k]?) → K (a.put o.dst (.slice ao' (n + m) c')) w') : o.wp Try.prog a w K Q := by
  refine wp_app w s x ho (.slice ao n c) n l hs h.own bo m k news hx hl hb hnone (by omega) ?_
  intro ao' c' w' h1 h2 h3
  refine hK ao' c' w' (h.step h1 h2 (h3.elim .inl (fun e => .inr ⟨_, e, Nat.le_refl _⟩))) h2.size (fun j hj hH => h2.block j hj (fun e => ?_))
  have := h.since j e.symm
  omega
end Go.Proofs.Ytphakceboohbhaa
