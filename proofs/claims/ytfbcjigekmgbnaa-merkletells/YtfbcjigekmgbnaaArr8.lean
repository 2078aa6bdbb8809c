/- An array of eight numbers, and a list of numbers, as they come in. -/
import Derived.Test.YtfbcjigekmgbnaaOpen
import Derived.Test.YtfbcjigekmgbnaaApp8
import Derived.Laws.IdiomArrays
namespace Go.Proofs.Ytfbcjigekmgbnaa
open Go.RowKit Go.ChangeShapes Go.WideShapes Go.ChangeAt
set_option maxRecDepth 100000

theorem trod_array8 {H : Type} {enc : TypeId × Value → H} {P : Program} {w : World} {base : Nat} {spare : Nat → Bool} {held : Bool} {t e : TypeId} {fuel : Nat} {c0 c1 c2 c3 c4 c5 c6 c7 : Value} {x : DataW H × List MemPlace} (ht : P.underlying t = some (.array 8 e)) (hce : P.cellsOf e = 1)
    (h : DataW.trod enc P w base spare held fuel t [c0, c1, c2, c3, c4, c5, c6, c7] = some x) :
    ∃ y0 y1 y2 y3 y4 y5 y6 y7 n, DataW.trod enc P w base spare held n e [c0] = some y0 ∧ DataW.trod enc P w base spare held n e [c1] = some y1 ∧ DataW.trod enc P w base spare held n e [c2] = some y2 ∧ DataW.trod enc P w base spare held n e [c3] = some y3 ∧ DataW.trod enc P w base spare held n e [c4] = some y4 ∧ DataW.trod enc P w base spare held n e [c5] = some y5 ∧ DataW.trod enc P w base spare held n e [c6] = some y6 ∧ DataW.trod enc P w base spare held n e [c7] = some y7 := by
  cases fuel with
  | zero => simp [DataW.trod] at h
  | succ n =>
    unfold DataW.trod at h
    rw [ht] at h
    have r8 : List.range 8 = [0, 1, 2, 3, 4, 5, 6, 7] := rfl
    simp [r8, hce] at h
    obtain ⟨_, h⟩ := h
    cases h0 : DataW.trod enc P w base spare held n e [c0] with
    | none => simp [h0] at h
    | some y0 =>
      cases h1 : DataW.trod enc P w base spare held n e [c1] with
      | none => simp [h0, h1] at h
      | some y1 =>
        cases h2 : DataW.trod enc P w base spare held n e [c2] with
        | none => simp [h0, h1, h2] at h
        | some y2 =>
          cases h3 : DataW.trod enc P w base spare held n e [c3] with
          | none => simp [h0, h1, h2, h3] at h
          | some y3 =>
            cases h4 : DataW.trod enc P w base spare held n e [c4] with
            | none => simp [h0, h1, h2, h3, h4] at h
            | some y4 =>
              cases h5 : DataW.trod enc P w base spare held n e [c5] with
              | none => simp [h0, h1, h2, h3, h4, h5] at h
              | some y5 =>
                cases h6 : DataW.trod enc P w base spare held n e [c6] with
                | none => simp [h0, h1, h2, h3, h4, h5, h6] at h
                | some y6 =>
                  cases h7 : DataW.trod enc P w base spare held n e [c7] with
                  | none => simp [h0, h1, h2, h3, h4, h5, h6, h7] at h
                  | some y7 =>
                    exact ⟨y0, y1, y2, y3, y4, y5, y6, y7, n, h0, h1, h2, h3, h4, h5, h6, h7⟩
theorem list8 {α : Type} (l : List α) (h : (⟨l⟩ : Array α).size = 8) : ∃ c0 c1 c2 c3 c4 c5 c6 c7, l = [c0, c1, c2, c3, c4, c5, c6, c7] := by
  match l, h with
  | [c0, c1, c2, c3, c4, c5, c6, c7], _ => exact ⟨c0, c1, c2, c3, c4, c5, c6, c7, rfl⟩
theorem cells56 : Try.prog.cellsOf 56 = 8 := by kernel_rfl
theorem cells40 : Try.prog.cellsOf 40 = 1 := by kernel_rfl
theorem open_arr8 {H : Type} {enc : TypeId × Value → H} {W : World} {base : Nat} {v : Value} {d : DataW H} {p : List MemPlace} (hval : Value.okWide Try.prog W .any base 56 v) (h : DataW.Trod enc Try.prog W 0 (fun _ => true) true 56 v d p) :
    ∃ l : List Int, v = .agg (qv l).toArray ∧ l.length = 8 := by
  obtain ⟨cs, rfl, hsz, _⟩ : ∃ cs, v = .agg cs ∧ cs.size = Try.prog.cellsOf 56 ∧ Row.okWide Try.prog W .any base 56 cs := by
    simpa [Value.okWide, Try.underlying56] using hval
  rw [cells56] at hsz
  obtain ⟨l⟩ := cs
  obtain ⟨c0, c1, c2, c3, c4, c5, c6, c7, rfl⟩ := list8 l hsz
  obtain ⟨fuel, hf⟩ := h
  obtain ⟨y0, y1, y2, y3, y4, y5, y6, y7, m, hy0, hy1, hy2, hy3, hy4, hy5, hy6, hy7⟩ := trod_array8 Try.underlying56 cells40 hf
  obtain ⟨x0, e0, _, w0⟩ := DataW.trod_int Try.underlying40 hy0
  obtain ⟨x1, e1, _, w1⟩ := DataW.trod_int Try.underlying40 hy1
  obtain ⟨x2, e2, _, w2⟩ := DataW.trod_int Try.underlying40 hy2
  obtain ⟨x3, e3, _, w3⟩ := DataW.trod_int Try.underlying40 hy3
  obtain ⟨x4, e4, _, w4⟩ := DataW.trod_int Try.underlying40 hy4
  obtain ⟨x5, e5, _, w5⟩ := DataW.trod_int Try.underlying40 hy5
  obtain ⟨x6, e6, _, w6⟩ := DataW.trod_int Try.underlying40 hy6
  obtain ⟨x7, e7, _, w7⟩ := DataW.trod_int Try.underlying40 hy7
  simp at e0 e1 e2 e3 e4 e5 e6 e7
  subst e0 e1 e2 e3 e4 e5 e6 e7
  exact ⟨[x0, x1, x2, x3, x4, x5, x6, x7], rfl, rfl⟩

def u64c (x : Int) : List Value := [.int .u64 x]
theorem open_u64 {H : Type} {enc : TypeId × Value → H} {W : World} {n : Nat} {cs : List Value} {y : DataW H × List MemPlace} (hl : cs.length = 1) (h : DataW.trod enc Try.prog W 0 (fun _ => true) true n 40 cs = some y) : ∃ x : Int, cs = u64c x ∧ True := by
  match cs, hl with
  | [v], _ =>
    obtain ⟨a, q, _, b⟩ := DataW.trod_int Try.underlying40 h
    exact ⟨a, q, trivial⟩
theorem open_u64s {H : Type} {enc : TypeId × Value → H} {W : World} {n : Nat} {v : Value} {y : DataW H × List MemPlace} (h : DataW.trod enc Try.prog W 0 (fun _ => true) true n 24 [v] = some y) : ∃ xs : List Int, RowU W 1 u64c v xs ∧ ∀ x ∈ xs, True :=
  open_row u64c 1 (fun _ => True) Try.underlying24 (by kernel_rfl) (by decide) (fun _ _ _ h1 h2 => open_u64 h1 h2) h
theorem rowU_qs {W : World} {ao : Option Addr} {n cap : Nat} {xs : List Int} (h : RowU W 1 u64c (.slice ao n cap) xs) : Qs W ao xs ∧ xs.length = n := by
  obtain ⟨ao', cap', e, _, _, _, h⟩ := h
  injection e with e1 e2 e3
  subst e1
  refine ⟨fun i hi => ?_, e2.symm⟩
  obtain ⟨b, off, ea, hc⟩ := h i xs[i] (List.getElem?_eq_getElem hi)
  refine ⟨b, off, ea, ?_⟩
  have := hc 0 (.int .u64 xs[i]) rfl
  rw [Nat.mul_one, Nat.add_zero] at this
  rw [this, List.getD_eq_getElem?_getD, List.getElem?_eq_getElem hi]; rfl
end Go.Proofs.Ytfbcjigekmgbnaa
