/- Rows of structs that a call makes: append of a row onto one's own row; copies of rows. -/
import Derived.Test.YtphakceboohbhaaTb
import Derived.Laws.MakeOwn
import Derived.Deep.MidRow
namespace Go.Proofs.Ytphakceboohbhaa
open Go.RowKit
set_option maxRecDepth 100000

theorem flatE_at {α : Type} {enc : α → List Value} {k : Nat} : ∀ {l : List α} {j : Nat} {u : Value}, (∀ x ∈ l, (enc x).length = k) → (l.flatMap enc)[j]? = some u → ∃ q r x, j = q * k + r ∧ l[q]? = some x ∧ (enc x)[r]? = some u
  | [], j, u, _, h => by simp at h
  | y :: l, j, u, hk, h => by
    rw [List.flatMap_cons] at h
    have hy := hk y (List.mem_cons_self ..)
    rcases Nat.lt_or_ge j k with hj | hj
    · rw [List.getElem?_append_left (by omega)] at h
      exact ⟨0, j, y, by omega, rfl, h⟩
    · rw [List.getElem?_append_right (by omega), hy] at h
      obtain ⟨q, r, x, e, h1, h2⟩ := flatE_at (fun x hx => hk x (List.mem_cons_of_mem _ hx)) h
      refine ⟨q + 1, r, x, by rw [Nat.add_mul]; omega, by simpa using h1, h2⟩

theorem flatE_len {α : Type} {enc : α → List Value} {k : Nat} : ∀ (l : List α), (∀ x ∈ l, (enc x).length = k) → (l.flatMap enc).length = l.length * k
  | [], _ => by simp
  | y :: l, h => by
    rw [List.flatMap_cons, List.length_append, h y (List.mem_cons_self ..), flatE_len l (fun x hx => h x (List.mem_cons_of_mem _ hx)), List.length_cons, Nat.add_mul]
    omega

theorem own_form' {w : World} {e k : Nat} {v : Value} {n : Nat} {xs : List Value} (h : w.ownsRow 0 e k v n xs) : ∃ ao cap, v = .slice ao n cap ∧ (ao = none → n = 0 ∧ cap = 0) := by
  rcases h.2 with ⟨rfl, rfl⟩ | ⟨g', cap, cur, rfl, hb, hgg, rest⟩
  · exact ⟨none, 0, rfl, fun _ => ⟨rfl, rfl⟩⟩
  · exact ⟨_, cap, rfl, fun h => by cases h⟩

theorem own_kept' {S : Nat → Prop} {w w' : World} {e k : Nat} {v : Value} {n : Nat} {xs : List Value} (h : w.ownsRow 0 e k v n xs) (hk : Kept S w w') (hS : ∀ g, v.ownBlock = some g → ¬ S g) : w'.ownsRow 0 e k v n xs := by
  refine ⟨h.1, ?_⟩
  rcases h.2 with hn | ⟨g, cap, cur, rfl, hb, hgg, rest⟩
  · exact .inl hn
  · refine .inr ⟨g, cap, cur, rfl, hb, ?_, rest⟩
    rw [hk.block g (lt_of_block hgg) (hS g rfl)]
    exact hgg

theorem own_lt' {w : World} {e k : Nat} {v : Value} {n : Nat} {xs : List Value} (h : w.ownsRow 0 e k v n xs) {g : Nat} (hg : v.ownBlock = some g) : g < w.heap.size := by
  rcases h.2 with ⟨rfl, _⟩ | ⟨g', cap, cur, rfl, hb, hgg, rest⟩
  · simp [Value.ownBlock] at hg
  · simp [Value.ownBlock] at hg
    subst hg
    exact lt_of_block hgg

/-- append of a row of structs onto a row that the call made -/
theorem wpList_appR {α : Type} (enc : α → List Value) (k t e bytes : Nat) (i : TypeInfo) (z : Value) {ops : Array Oper} {rest : List Oper} {o : Oper} {a : Act} {Q : Exit → Act → World → Prop} (w : World) (hgd : o.guard = none) (s x : Operand)
    (ho : o.op = .call { callee := .builtin .append, args := #[s, x], argTypes := #[t, t] })
    (ht : Try.prog.underlying t = some (.slice e)) (hi : Try.prog.info? e = some i) (hz : i.zero = some z) (hsize : i.size = k) (hby : i.bytes = bytes) (hzs : z.cells.size = k) (hk0 : 0 < k) (hb8 : bytes ≤ 1000)
    (v : Value) (n : Nat) (xs : List Value) (hs : a.eval s = v) (hown : w.ownsRow 0 e k v n xs)
    (ao : Option Addr) (m c : Nat) (l : List α) (hx : a.eval x = .slice ao m c) (hr : RowU w k enc (.slice ao m c) l) (henc : ∀ x ∈ l, (enc x).length = k) (hone : ∀ x ∈ l, ∀ u ∈ enc x, u.oneCell' = true)
    (hbig : n ≤ 1000000) (hm1 : m ≤ 1000000)
    (hK : ∀ ao' cap' w', w'.ownsRow 0 e k (.slice ao' (n + m) cap') (n + m) (xs ++ l.flatMap enc) → Kept (fun k => some k = v.ownBlock) w w' →
      ((Value.slice ao' (n + m) cap').ownBlock = v.ownBlock ∨ (Value.slice ao' (n + m) cap').ownBlock = some w.heap.size) → wpList Try.prog ops Q rest (a.put o.dst (.slice ao' (n + m) cap')) w') :
    wpList Try.prog ops Q (o :: rest) a w := by
  obtain ⟨ao2, cap2, e2, hn0, hcap, hlm, hcell⟩ := hr
  injection e2 with e3 e4 e5
  subst e3 e5
  have hl : l.length = m := by omega
  cases ao with
  | none =>
    obtain rfl : l = [] := by
      cases l with
      | nil => rfl
      | cons y l => obtain ⟨b, off, e, _⟩ := hcell 0 y rfl; cases e
    obtain rfl : m = 0 := by simpa using hl.symm
    obtain rfl := hn0 rfl
    refine wpList_plain hgd fun K hK' => ?_
    have hrun := run_append_owned_none (P := Try.prog) (w := w) 0 t o.type e i k ht hi v n xs hown
    obtain ⟨ao', cap', rfl, _⟩ := own_form' hown
    unfold Oper.wp
    simp [execOp, ho, resolve, invoke, builtin, hs, hx, hrun, Result.andThen]
    exact hK' _ _ (hK ao' cap' w (by simpa using hown) (Kept.refl _ _) (.inl rfl))
  | some ad =>
    refine wpList_plain hgd fun K hK' => ?_
    have hby2 : (n + m) * bytes ≤ 140737488355328 := by
      have : (n + m) * bytes ≤ 2000000 * 1000 := Nat.mul_le_mul (by omega) hb8
      omega
    obtain ⟨v', w', hrun, h2, h3, _, h5⟩ := run_append_own_at (P := Try.prog) w 0 t o.type e i z k bytes ht hi hz hsize hby hzs hk0 v n xs hown ad m c (l.flatMap enc) (by rw [flatE_len l henc, hl]) (by
      intro j u hu
      obtain ⟨q, r, x, rfl, h1, h2⟩ := flatE_at henc hu
      obtain ⟨b, off, e, hc⟩ := hcell q x h1
      injection e with e; subst e
      rw [Addr.add_lit, ← Nat.add_assoc]
      exact hc r u h2) (by
      intro u hu
      obtain ⟨x, hx, hu⟩ := List.mem_flatMap.1 hu
      exact hone x hx u hu) (by simp only [maxLen]; omega) hby2 (Nat.zero_le _)
    obtain ⟨ao', cap', rfl, _⟩ := own_form' h2
    unfold Oper.wp
    simp [execOp, ho, resolve, invoke, builtin, hs, hx, hrun, Result.andThen]
    exact hK' _ _ (hK ao' cap' w' h2 (Kept.ofGrown h3) h5)

theorem flat_get {α : Type} {enc : α → List Value} {k : Nat} : ∀ {l : List α} {q : Nat} {x : α} {r : Nat}, (∀ x ∈ l, (enc x).length = k) → l[q]? = some x → r < k → (l.flatMap enc)[q * k + r]? = (enc x)[r]?
  | [], q, x, r, _, h, _ => by simp at h
  | y :: l, 0, x, r, hk, h, hr => by
    have hy := hk y (List.mem_cons_self ..)
    rw [List.flatMap_cons, List.getElem?_append_left (by omega)]
    simp at h
    subst h
    simp
  | y :: l, q + 1, x, r, hk, h, hr => by
    have hy := hk y (List.mem_cons_self ..)
    rw [List.flatMap_cons, List.getElem?_append_right (by rw [Nat.add_mul]; omega), hy, show (q + 1) * k + r - k = q * k + r by rw [Nat.add_mul]; omega]
    exact flat_get (fun x hx => hk x (List.mem_cons_of_mem _ hx)) (by simpa using h) hr

theorem info38 : (Try.prog.info? 38).map (fun i => (i.zero, i.size, i.bytes)) = some (some (.agg #[.int .u8 0, .int .u32 0, .int .u8 0, .int .u8 0, .int .u16 0]), 5, 12) := by kernel_rfl
theorem rq_len (r : Rq) : r.cells.length = 5 := rfl
theorem rq_one (r : Rq) : ∀ u ∈ r.cells, u.oneCell' = true := by
  intro u hu
  simp only [Rq.cells, List.mem_cons, List.not_mem_nil, or_false] at hu
  rcases hu with rfl | rfl | rfl | rfl | rfl <;> rfl
/-- requests that the call put into a row of its own -/
def RR (w : World) (v : Value) (n : Nat) (rs : List Rq) : Prop := w.ownsRow 0 38 5 v n (rs.flatMap Rq.cells)
theorem rr_nil (w : World) : RR w (.slice none 0 0) 0 [] := ⟨by simp, .inl ⟨rfl, rfl⟩⟩
theorem RR.at {w : World} {v : Value} {n : Nat} {rs : List Rq} (h : RR w v n rs) {q : Nat} {r : Rq} (hq : rs[q]? = some r) :
    ∃ g cap, v = .slice (some ⟨g, 0, none⟩) n cap ∧ ∀ w', Kept (fun _ => False) w w' → w'.cell? ⟨g, q * 5, none⟩ = some (.int .u8 r.c) ∧ w'.cell? ⟨g, q * 5 + 1, none⟩ = some (.int .u32 r.t) ∧ w'.cell? ⟨g, q * 5 + 2, none⟩ = some (.int .u8 r.k) ∧ w'.cell? ⟨g, q * 5 + 3, none⟩ = some (.int .u8 r.y) ∧ w'.cell? ⟨g, q * 5 + 4, none⟩ = some (.int .u16 r.v) := by
  have hl : (rs.flatMap Rq.cells).length = rs.length * 5 := flatE_len rs (fun x _ => rq_len x)
  obtain ⟨h0, -⟩ := List.getElem?_eq_some_iff.1 hq
  rcases h.2 with ⟨hv, hn⟩ | ⟨g', cap', cur, hv, hb, hgg, rest⟩
  · have := h.1; omega
  · refine ⟨g', cap', hv, fun w' hk => ?_⟩
    have hc : ∀ i u, i < 5 → r.cells[i]? = some u → w'.cell? ⟨g', q * 5 + i, none⟩ = some u := fun i u hi hu => by
      have h2 := World.ownsRow.cells (show w.ownsRow 0 38 5 v n (rs.flatMap Rq.cells) from h) (g := g') (by rw [hv]; rfl) (q * 5 + i) u (by rw [flat_get (fun x _ => rq_len x) hq hi]; exact hu)
      rw [Addr.add_mid] at h2
      have h3 : w.cell? ⟨g', q * 5 + i, none⟩ = some u := by simpa using h2
      rw [← h3]
      exact World.cell?_of_block (hk.block _ (cell_block h3) (fun h => h))
    exact ⟨hc 0 _ (by decide) rfl, hc 1 _ (by decide) rfl, hc 2 _ (by decide) rfl, hc 3 _ (by decide) rfl, hc 4 _ (by decide) rfl⟩
end Go.Proofs.Ytphakceboohbhaa
