/- Rows of numbers of whatever kind that a call made for itself; append onto them. -/
import Derived.Test.YtfbcjigekmgbnaaTree
namespace Go.Proofs.Ytfbcjigekmgbnaa
open Go.RowKit
set_option maxRecDepth 100000

/-- numbers of kind K lie at ao -/
def Ns (K : IntKind) (w : World) (ao : Option Addr) (l : List Int) : Prop := ∀ i, i < l.length → ∃ b off, ao = some ⟨b, off, none⟩ ∧ w.cell? ⟨b, off + i, none⟩ = some (.int K (l.getD i 0))
def kv (K : IntKind) (l : List Int) : List Value := l.map (.int K)
theorem kv_one (K : IntKind) (l : List Int) : ∀ u ∈ kv K l, u.oneCell' = true := by
  intro u hu
  obtain ⟨x, _, rfl⟩ := List.mem_map.1 hu
  rfl
theorem ns_kept {K : IntKind} {S : Nat → Prop} {w w' : World} {ao : Option Addr} {l : List Int} (h : Ns K w ao l) (hk : Kept S w w') (hS : ∀ ad, ao = some ad → 0 < l.length → ¬ S ad.block) : Ns K w' ao l := by
  intro i hi
  obtain ⟨b, off, e, hc⟩ := h i hi
  refine ⟨b, off, e, ?_⟩
  rw [← hc]
  exact World.cell?_of_block (hk.block _ (cell_block hc) (hS ⟨b, off, none⟩ e (by omega)))
theorem ns_below {K : IntKind} {w w' : World} {ao : Option Addr} {l : List Int} (h : Ns K w ao l) (hk : Below w.heap.size w w') : Ns K w' ao l :=
  ns_kept h (Kept.ofBelow (S := fun _ => False) hk) (fun _ _ _ h => h)
theorem ns_one (K : IntKind) (w : World) (x : Int) (t : TypeId) : Ns K (w.alloc (.cells #[.int K x] t)) (some ⟨w.heap.size, 0, none⟩) [x] := fun i hi => by
  have hi : i = 0 := by simpa using hi
  subst hi
  exact ⟨_, _, rfl, by rw [cell_of_row _ _ _ _ _ _ (heap_alloc_new w _)]; rfl⟩

theorem rowK_form {w : World} {e : TypeId} {v : Value} {n : Nat} {xs : List Value} (h : w.ownsRow 0 e 1 v n xs) : ∃ ao cap, v = .slice ao n cap ∧ (ao = none → n = 0 ∧ cap = 0) := by
  rcases h.2 with ⟨rfl, rfl⟩ | ⟨g', cap, cur, rfl, hb, hgg, rest⟩
  · exact ⟨none, 0, rfl, fun _ => ⟨rfl, rfl⟩⟩
  · exact ⟨_, cap, rfl, fun h => by cases h⟩
theorem rowK_kept {S : Nat → Prop} {w w' : World} {e : TypeId} {v : Value} {n : Nat} {xs : List Value} (h : w.ownsRow 0 e 1 v n xs) (hk : Kept S w w') (hS : ∀ g, v.ownBlock = some g → ¬ S g) : w'.ownsRow 0 e 1 v n xs := by
  refine ⟨h.1, ?_⟩
  rcases h.2 with hn | ⟨g, cap, cur, rfl, hb, hgg, rest⟩
  · exact .inl hn
  · refine .inr ⟨g, cap, cur, rfl, hb, ?_, rest⟩
    rw [hk.block g (lt_of_block hgg) (hS g rfl)]
    exact hgg
theorem rowK_lt {w : World} {e : TypeId} {v : Value} {n : Nat} {xs : List Value} (h : w.ownsRow 0 e 1 v n xs) {g : Nat} (hg : v.ownBlock = some g) : g < w.heap.size := by
  rcases h.2 with ⟨rfl, _⟩ | ⟨g', cap, cur, rfl, hb, hgg, rest⟩
  · simp [Value.ownBlock] at hg
  · simp [Value.ownBlock] at hg
    subst hg
    exact lt_of_block hgg
theorem rowK_ns {K : IntKind} {w : World} {e : TypeId} {ao : Option Addr} {n cap : Nat} {l : List Int} (h : w.ownsRow 0 e 1 (.slice ao n cap) n (kv K l)) : Ns K w ao l := by
  intro i hi
  rcases h.2 with ⟨hv, hn⟩ | ⟨g', cap', cur, hv, hb, hgg, rest⟩
  · have := h.1; simp [kv] at this; omega
  · injection hv with hv; subst hv
    refine ⟨g', 0, rfl, ?_⟩
    have h2 := h.cells (g := g') rfl i (.int K (l.getD i 0)) (by simp [kv, List.getElem?_eq_getElem hi, List.getD_eq_getElem?_getD])
    rw [Addr.add_mid] at h2
    exact h2
theorem rowK_nil (w : World) (e : TypeId) (K : IntKind) : w.ownsRow 0 e 1 (.slice none 0 0) 0 (kv K []) := ⟨by simp [kv], .inl ⟨rfl, rfl⟩⟩

theorem info40 : (Try.prog.info? 40).map (fun i => (i.zero, i.size, i.bytes)) = some (some (.int .u64 0), 1, 8) := by kernel_rfl
theorem info3 : (Try.prog.info? 3).map (fun i => (i.zero, i.size, i.bytes)) = some (some (.int .i64 0), 1, 8) := by kernel_rfl

/-- append of numbers onto a row that the call made -/
theorem wpList_appK {ops : Array Oper} {rest : List Oper} {o : Oper} {a : Act} {Q : Exit → Act → World → Prop} (K : IntKind) (t e : TypeId) (w : World) (hu : Try.prog.underlying t = some (.slice e))
    (hinfo : (Try.prog.info? e).map (fun i => (i.zero, i.size, i.bytes)) = some (some (.int K 0), 1, 8)) (hgd : o.guard = none) (s x : Operand)
    (ho : o.op = .call { callee := .builtin .append, args := #[s, x], argTypes := #[t, t] })
    (v : Value) (n : Nat) (xs : List Int) (hs : a.eval s = v) (hown : w.ownsRow 0 e 1 v n (kv K xs))
    (ao : Option Addr) (m c : Nat) (news : List Int) (hx : a.eval x = .slice ao m c) (hl : news.length = m) (hb : Ns K w ao news) (hnone : ao = none → m = 0 ∧ c = 0)
    (hbig : n + m ≤ 10000000)
    (hK : ∀ ao' cap' w', w'.ownsRow 0 e 1 (.slice ao' (n + m) cap') (n + m) (kv K (xs ++ news)) → Kept (fun k => some k = v.ownBlock) w w' →
      ((Value.slice ao' (n + m) cap').ownBlock = v.ownBlock ∨ (Value.slice ao' (n + m) cap').ownBlock = some w.heap.size) → wpList Try.prog ops Q rest (a.put o.dst (.slice ao' (n + m) cap')) w') :
    wpList Try.prog ops Q (o :: rest) a w := by
  obtain ⟨i0, hi0, hz0, hz1, hz2⟩ := info_parts hinfo
  cases ao with
  | none =>
    obtain ⟨rfl, rfl⟩ := hnone rfl
    obtain rfl : news = [] := List.eq_nil_of_length_eq_zero hl
    refine wpList_plain hgd fun K' hK' => ?_
    have hrun := run_append_owned_none (P := Try.prog) (w := w) 0 t o.type e i0 1 hu hi0 v n (kv K xs) hown
    obtain ⟨ao', cap', rfl, _⟩ := rowK_form hown
    unfold Oper.wp
    simp [execOp, ho, resolve, invoke, builtin, hs, hx, hrun, Result.andThen]
    exact hK' _ _ (hK ao' cap' w (by simpa using hown) (Kept.refl _ _) (.inl rfl))
  | some ad =>
    refine wpList_plain hgd fun K' hK' => ?_
    obtain ⟨v', w', hrun, h2, h3, _, h5⟩ := run_append_own_at (P := Try.prog) w 0 t o.type e i0 _ 1 8 hu hi0 hz0 hz1 hz2 rfl (by omega) v n (kv K xs) hown ad m c (kv K news) (by simp [kv, hl]) (by
      intro j u hu
      obtain ⟨hj, rfl⟩ := List.getElem?_eq_some_iff.1 hu
      simp only [kv, List.length_map] at hj
      obtain ⟨b, off, e1, e2⟩ := hb j hj
      injection e1 with e1; subst e1
      rw [Addr.add_mid, e2]; simp [kv, List.getElem?_eq_getElem hj, List.getD_eq_getElem?_getD]) (kv_one K news) (by simp only [maxLen]; omega) (by omega) (Nat.zero_le _)
    have hv : kv K xs ++ kv K news = kv K (xs ++ news) := by simp [kv]
    rw [hv] at h2
    obtain ⟨ao', cap', rfl, _⟩ := rowK_form h2
    unfold Oper.wp
    simp [execOp, ho, resolve, invoke, builtin, hs, hx, hrun, Result.andThen]
    exact hK' _ _ (hK ao' cap' w' h2 (Kept.ofGrown h3) h5)
/-- a row grown since H -/
def RowK (H : Nat) (K : IntKind) (e : TypeId) (w : World) (v : Value) (n : Nat) (xs : List Int) : Prop := w.ownsRow 0 e 1 v n (kv K xs) ∧ ∀ g, v.ownBlock = some g → H ≤ g
end Go.Proofs.Ytfbcjigekmgbnaa
