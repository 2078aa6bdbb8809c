/- What comes in as an array of four numbers. -/
import Derived.Test.YthbfbdblnohbjaaOpen
import Derived.Laws.IdiomArrays
namespace Go.Proofs.Ythbfbdblnohbjaa
open Go.RowKit Go.ChangeShapes Go.WideShapes Go.ChangeAt
set_option maxRecDepth 100000

theorem list4 {α : Type} (l : List α) (h : (⟨l⟩ : Array α).size = 4) : ∃ a b c d, l = [a, b, c, d] := by
  match l, h with
  | [a, b, c, d], _ => exact ⟨a, b, c, d, rfl⟩
theorem cells39 : Try.prog.cellsOf 39 = 4 := by kernel_rfl
theorem cells30 : Try.prog.cellsOf 30 = 1 := by kernel_rfl

theorem open_arr4 {H : Type} {enc : TypeId × Value → H} {W : World} {base : Nat} {v : Value} {d : DataW H} {p : List MemPlace} (hval : Value.okWide Try.prog W .any base 39 v) (h : DataW.Trod enc Try.prog W 0 (fun _ => true) true 39 v d p) :
    ∃ T : Nat → Int, v = .agg #[.int .u32 (T 0), .int .u32 (T 1), .int .u32 (T 2), .int .u32 (T 3)] ∧ ∀ i, i < 4 → 0 ≤ T i ∧ T i ≤ 4294967295 := by
  obtain ⟨cs, rfl, hsz, _⟩ : ∃ cs, v = .agg cs ∧ cs.size = Try.prog.cellsOf 39 ∧ Row.okWide Try.prog W .any base 39 cs := by
    simpa [Value.okWide, Try.underlying39] using hval
  rw [cells39] at hsz
  obtain ⟨l⟩ := cs
  obtain ⟨c0, c1, c2, c3, rfl⟩ := list4 l hsz
  obtain ⟨fuel, hf⟩ := h
  obtain ⟨y0, y1, y2, y3, m, _, hy0, hy1, hy2, hy3⟩ := trod_array4 Try.underlying39 cells30 hf
  obtain ⟨x0, e0, _, w0⟩ := DataW.trod_int Try.underlying30 hy0
  obtain ⟨x1, e1, _, w1⟩ := DataW.trod_int Try.underlying30 hy1
  obtain ⟨x2, e2, _, w2⟩ := DataW.trod_int Try.underlying30 hy2
  obtain ⟨x3, e3, _, w3⟩ := DataW.trod_int Try.underlying30 hy3
  simp at e0 e1 e2 e3
  subst e0 e1 e2 e3
  refine ⟨fun i => [x0, x1, x2, x3].getD i 0, rfl, fun i hi => ?_⟩
  rcases (by omega : i = 0 ∨ i = 1 ∨ i = 2 ∨ i = 3) with rfl | rfl | rfl | rfl
  · simpa [Lit.wf, IntKind.min, IntKind.max, IntKind.signed, IntKind.bits] using w0
  · simpa [Lit.wf, IntKind.min, IntKind.max, IntKind.signed, IntKind.bits] using w1
  · simpa [Lit.wf, IntKind.min, IntKind.max, IntKind.signed, IntKind.bits] using w2
  · simpa [Lit.wf, IntKind.min, IntKind.max, IntKind.signed, IntKind.bits] using w3
end Go.Proofs.Ythbfbdblnohbjaa
