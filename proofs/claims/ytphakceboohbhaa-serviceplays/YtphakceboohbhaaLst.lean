/- What comes in as a slice of numbers. -/
import Derived.Test.YtphakceboohbhaaOpen
namespace Go.Proofs.Ytphakceboohbhaa
open Go.RowKit
set_option maxRecDepth 100000

def u16c (x : Int) : List Value := [.int .u16 x]
theorem open_u16 {H : Type} {enc : TypeId × Value → H} {W : World} {n : Nat} {cs : List Value} {y : DataW H × List MemPlace} (hl : cs.length = 1) (h : DataW.trod enc Try.prog W 0 (fun _ => true) true n 27 cs = some y) : ∃ x : Int, cs = u16c x ∧ (0 ≤ x ∧ x ≤ 65535) := by
  match cs, hl with
  | [v], _ =>
    obtain ⟨a, q, _, b⟩ := DataW.trod_int Try.underlying27 h
    injection q with q
    subst q
    exact ⟨a, rfl, by simpa [Lit.wf, IntKind.min, IntKind.max, IntKind.signed, IntKind.bits] using b⟩
theorem open_u16s {H : Type} {enc : TypeId × Value → H} {W : World} {n : Nat} {v : Value} {y : DataW H × List MemPlace} (h : DataW.trod enc Try.prog W 0 (fun _ => true) true n 50 [v] = some y) : ∃ xs : List Int, RowU W 1 u16c v xs ∧ ∀ x ∈ xs, 0 ≤ x ∧ x ≤ 65535 :=
  open_row u16c 1 (fun x => 0 ≤ x ∧ x ≤ 65535) Try.underlying50 (by kernel_rfl) (by decide) (fun _ _ _ h1 h2 => open_u16 h1 h2) h

/-- the cell of a row that came in -/
theorem row_cell {α : Type} {w w' : World} {enc : α → List Value} {a : Option Addr} {cap n : Nat} {xs : List α} (h : RowU w 1 enc (.slice a n cap) xs) (k : Kept (fun _ => False) w w') {i : Nat} {x : α} (hx : xs[i]? = some x) {u : Value} (hu : (enc x)[0]? = some u) :
    ∃ b off, a = some ⟨b, off, none⟩ ∧ w'.cell? ⟨b, off + i, none⟩ = some u := by
  obtain ⟨ao, c, e, _, _, _, h⟩ := h
  injection e with e1 _ _
  subst e1
  obtain ⟨b, off, e2, h2⟩ := h i x hx
  refine ⟨b, off, e2, ?_⟩
  have h3 := h2 0 u hu
  rw [show off + i * 1 + 0 = off + i by omega] at h3
  rw [← h3]
  exact World.cell?_of_block (k.block _ (cell_block h3) (fun h => h))

end Go.Proofs.Ytphakceboohbhaa
