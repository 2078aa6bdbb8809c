/- for now -/
import Derived.Test.YtmkeckablkccnaaDoorVotesB
import Derived.Test.YtmkeckablkccnaaDoorOpen
import Derived.Laws.MakeOwn
import Derived.Deep.MidRow
namespace Go.Proofs.YtmkeckablkccnaaDoor
open Go.RowKit
set_option maxRecDepth 100000
theorem there_row {w : World} {g n : Nat} {Z : Array Value} {T : TypeId} (h : w.heap[g]? = some (.cells Z T (0, 0))) (hn : Z.size = n) : w.there g 0 n := by
  intro i hi
  refine ⟨?_, frozen_of_row _ _ _ _ _ h⟩
  rw [cell_of_row _ _ _ _ _ _ h]; simp; omega
theorem flatV_len {α : Type} (enc : α → List Value) (k : Nat) (h : ∀ x, (enc x).length = k) (l : List α) : (l.flatMap enc).length = l.length * k := by
  induction l with
  | nil => simp
  | cons x r ih => simp [h, ih, Nat.succ_mul]; omega
theorem kept_setCells {w : World} {g o : Nat} {vs : List Value} : Kept (fun k => k = g) w (w.setCells g o vs) := by
  have hh := fun k (h : k ≠ g) => setCells_kept g vs o w k h
  refine ⟨?_, ?_, ?_, ?_, fun k hk' hs => ?_⟩
  · rw [(hh (g + 1) (by omega)).2.2.1]
  · rw [(hh (g + 1) (by omega)).2.2.2.1]
  · rw [(hh (g + 1) (by omega)).2.2.2.2]
  · rw [(hh (g + 1) (by omega)).2.1]; exact Nat.le_refl _
  · exact (hh k hs).1
theorem range_kept {T : Nat → Prop} {w w' : World} {g o : Nat} {cs : List Value} (h : w.rangeAt g o cs) (hk : Kept T w w') (hg : ¬ T g) : w'.rangeAt g o cs := fun j v hj => by
  have hc := h j v hj
  rw [← hc]
  exact World.cell?_of_block (hk.block g (cell_block hc) hg)
theorem there_kept {T : Nat → Prop} {w w' : World} {g o n : Nat} (h : w.there g o n) (hk : Kept T w w') (hg : ¬ T g) (hlt : g < w.heap.size) : w'.there g o n := fun j hj => by
  obtain ⟨h1, h2⟩ := h j hj
  have e := hk.block g hlt hg
  refine ⟨?_, ?_⟩
  · rw [World.cell?_of_block (w := w) e]; exact h1
  · rw [World.frozen?_of_block (w := w) e]; exact h2
theorem there_part {w : World} {g n o k : Nat} (h : w.there g 0 n) (hk : o + k ≤ n) : w.there g o k := fun j hj => by
  have := h (o + j) (by omega)
  simpa using this
theorem made_size (z : Array Value) (n : Nat) : (madeCells z n).size = n := size_madeCells _ _
structure Vp where
  f : Int
  e : Int
  vw : Int
  lo : Int
  c : Vc
def NewV (H : Nat) (v : Vt) : Prop := (∀ ad, v.ms.a = some ad → H ≤ ad.block) ∧ (∀ ad, v.p.a = some ad → H ≤ ad.block) ∧ ∀ ad, v.q.a = some ad → H ≤ ad.block
theorem row_new {α : Type} {T : Nat → Prop} {w w' : World} {k H : Nat} {enc : α → List Value} {v : Sl} {xs : List α} (h : Row w k enc v.val xs) (hk : Kept T w w') (hv : ∀ ad, v.a = some ad → H ≤ ad.block) (hT : ∀ b, T b → b < H) : Row w' k enc v.val xs :=
  h.kept hk (fun b off n c e hb => by
    injection e with e _ _
    have h1 := hv _ e
    have h2 := hT b hb
    simp only at h1
    omega)
theorem VtAt.new {T : Nat → Prop} {w w' : World} {H : Nat} {v : Vt} {c : Vc} (h : VtAt w v c) (hk : Kept T w w') (hv : NewV H v) (hT : ∀ b, T b → b < H) : VtAt w' v c :=
  ⟨row_new h.1 hk hv.1 hT, row_new h.2.1 hk hv.2.1 hT, row_new h.2.2 hk hv.2.2 hT⟩
theorem Vt.one (v : Vt) : ∀ u ∈ v.cells, u.oneCell' = true := by
  intro u hu
  simp [Vt.cells] at hu
  (repeat' (rcases hu with rfl | hu))
  all_goals first | rfl | (subst hu; rfl)

def toVp (x : Vt × Vc) : Vp := ⟨x.1.f, x.1.e, x.1.vw, x.1.lo, x.2⟩
theorem flat_next {α : Type} {enc : α → List Value} {k : Nat} (henc : ∀ x, (enc x).length = k) {w1 : World} {g j : Nat} {xs : List α} (x : α) (hl : xs.length = j) (hr : w1.rangeAt g 0 (xs.flatMap enc)) (ht : w1.there g (j * k) k) : (w1.setCells g (j * k) (enc x)).rangeAt g 0 ((xs ++ [x]).flatMap enc) := by
  have hfl := flatV_len enc k henc xs
  rw [hl] at hfl
  have ha := World.rangeAt_setCells_apart hr g (j * k) (enc x) (.inr (.inl (by rw [hfl]; omega)))
  have hb := World.rangeAt_setCells_same w1 g (j * k) (enc x) (by rw [henc]; exact ht)
  intro i v hi
  simp only [List.flatMap_append, List.flatMap_cons, List.flatMap_nil, List.append_nil] at hi
  by_cases hlt : i < (xs.flatMap enc).length
  · rw [List.getElem?_append_left hlt] at hi
    exact ha i v hi
  · rw [List.getElem?_append_right (by omega), hfl] at hi
    have := hb _ v hi
    rw [hfl] at hlt
    rw [show 0 + i = j * k + (i - j * k) from by omega]
    exact this
theorem row_of_range {α : Type} {enc : α → List Value} {k : Nat} (henc : ∀ x, (enc x).length = k) {wr : World} {g n : Nat} {xs : List α} (hl : xs.length = n) (hr : wr.rangeAt g 0 (xs.flatMap enc)) (hn : n ≤ 1000) : Row wr k enc (.slice (some ⟨g, 0, none⟩) n n) xs := by
  refine ⟨some ⟨g, 0, none⟩, n, by rw [hl], (fun e => by cases e), by rw [hl]; exact Nat.le_refl _, by rw [hl]; omega, fun j x hj => ⟨g, 0, rfl, fun i u hu => ?_⟩⟩
  have key : ∀ (xs : List α) (j i : Nat) (x : α) (u : Value), xs[j]? = some x → (enc x)[i]? = some u → (xs.flatMap enc)[j * k + i]? = some u := by
    intro xs
    induction xs with
    | nil => intro j i x u hx; simp at hx
    | cons y r ih =>
      intro j i x u hx hu
      have hy := henc y
      cases j with
      | zero =>
        simp at hx
        subst hx
        have hi : i < (enc y).length := by
          rcases Nat.lt_or_ge i (enc y).length with h | h
          · exact h
          · rw [List.getElem?_eq_none h] at hu; cases hu
        rw [List.flatMap_cons, Nat.zero_mul, Nat.zero_add, List.getElem?_append_left hi]; exact hu
      | succ j =>
        rw [List.flatMap_cons, List.getElem?_append_right (by rw [hy, Nat.succ_mul]; omega), hy]
        have := ih j i x u (by simpa using hx) hu
        rw [show (j + 1) * k + i - k = j * k + i from by rw [Nat.succ_mul]; omega]
        exact this
  have := hr (j * k + i) u (key _ j i x u hj hu)
  simpa [Nat.add_assoc] using this
def NewS (H : Nat) (v : Sl) (vl : List (Vt × Vc)) : Prop := (∀ ad, v.a = some ad → H ≤ ad.block) ∧ ∀ x ∈ vl, NewV H x.1
structure Mq where
  w : Wd
  vt : Vp
  vs : List Vp
  sm : List Int
  dt : List Int
def NewM (H : Nat) (m : Mg) (c : Mc) : Prop := NewV H m.vt ∧ NewS H m.vs c.vs ∧ (∀ ad, m.sm.a = some ad → H ≤ ad.block) ∧ ∀ ad, m.dt.a = some ad → H ≤ ad.block
theorem dt_new {T : Nat → Prop} {w w' : World} {H : Nat} {v : Sl} {l : List Int} (h : DtAt w v l) (hk : Kept T w w') (hv : ∀ ad, v.a = some ad → H ≤ ad.block) (hT : ∀ b, T b → b < H) : DtAt w' v l := by
  obtain ⟨h1, h2, h3, h4, h5, h6⟩ := h
  exact ⟨h1, bytes_kept h2 hk (fun ad e _ hb => by have := hv ad e; have := hT _ hb; omega), h3, h4, h5, h6⟩
theorem vs_new {T : Nat → Prop} {w w' : World} {H : Nat} {v : Sl} {l : List (Vt × Vc)} (h : VsAt w v l) (hk : Kept T w w') (hv : NewS H v l) (hT : ∀ b, T b → b < H) : VsAt w' v l :=
  ⟨row_new h.1 hk hv.1 hT, fun x hx => (h.2 x hx).new hk (hv.2 x hx) hT⟩
theorem MgAt.new {T : Nat → Prop} {w w' : World} {H : Nat} {m : Mg} {c : Mc} (h : MgAt w m c) (hk : Kept T w w') (hv : NewM H m c) (hT : ∀ b, T b → b < H) : MgAt w' m c :=
  ⟨h.vt.new hk hv.1 hT, vs_new h.vs hk hv.2.1 hT, row_new h.sm hk hv.2.2.1 hT, dt_new h.dt hk hv.2.2.2 hT⟩

def toMq (m : Mg) (c : Mc) : Mq := ⟨m.toWd, toVp (m.vt, c.vt), c.vs.map toVp, c.sm, c.dt⟩
end Go.Proofs.YtmkeckablkccnaaDoor
