/- What comes in as a slice of rows of bytes, or of numbers; what holds between the saves. -/
import Derived.Test.YtibbomeeoobgkaaOpen
import Derived.Test.YtibbomeeoobgkaaKnown
namespace Go.Proofs.Ytibbomeeoobgkaa
open Go.RowKit
set_option maxRecDepth 100000

/-- a row of bytes as it comes in -/
structure Bs where
  p : Option Addr
  l : List Int
  c : Nat
instance : Inhabited Bs := ⟨⟨none, [], 0⟩⟩
def Bs.cells (x : Bs) : List Value := [.slice x.p x.l.length x.c]
structure Bs.ok (w : World) (x : Bs) : Prop where
  bytes : Bytes w x.p x.l
  are : ∀ y ∈ x.l, isByte y
  fits : x.l.length ≤ x.c
  none : x.p = none → x.l = []

theorem open_bs {H : Type} {enc : TypeId × Value → H} {W : World} {n : Nat} {cs : List Value} {y : DataW H × List MemPlace} (hl : cs.length = 1) (h : DataW.trod enc Try.prog W 0 (fun _ => true) true n 23 cs = some y) : ∃ x : Bs, cs = x.cells ∧ x.ok W := by
  match cs, hl with
  | [v], _ =>
    obtain ⟨p, l, c, rfl, hb, hy, hf, hn⟩ := open_bytes h
    exact ⟨⟨p, l, c⟩, rfl, hb, hy, hf, fun e => List.eq_nil_of_length_eq_zero (by have := hn e; show l.length = 0; omega)⟩

theorem open_rows {H : Type} {enc : TypeId × Value → H} {W : World} {n : Nat} {v : Value} {y : DataW H × List MemPlace} (h : DataW.trod enc Try.prog W 0 (fun _ => true) true n 29 [v] = some y) : ∃ xs : List Bs, RowU W 1 Bs.cells v xs ∧ ∀ x ∈ xs, x.ok W :=
  open_row Bs.cells 1 (fun x => x.ok W) Try.underlying29 (by kernel_rfl) (by decide) (fun _ _ _ h1 h2 => open_bs h1 h2) h

def i16c (x : Int) : List Value := [.int .i16 x]
theorem open_i16 {H : Type} {enc : TypeId × Value → H} {W : World} {n : Nat} {cs : List Value} {y : DataW H × List MemPlace} (hl : cs.length = 1) (h : DataW.trod enc Try.prog W 0 (fun _ => true) true n 33 cs = some y) : ∃ x : Int, cs = i16c x ∧ (-32768 ≤ x ∧ x ≤ 32767) := by
  match cs, hl with
  | [v], _ =>
    obtain ⟨a, q, _, b⟩ := DataW.trod_int Try.underlying33 h
    injection q with q
    subst q
    exact ⟨a, rfl, by simpa [Lit.wf, IntKind.min, IntKind.max, IntKind.signed, IntKind.bits] using b⟩
theorem open_i16s {H : Type} {enc : TypeId × Value → H} {W : World} {n : Nat} {v : Value} {y : DataW H × List MemPlace} (h : DataW.trod enc Try.prog W 0 (fun _ => true) true n 30 [v] = some y) : ∃ xs : List Int, RowU W 1 i16c v xs ∧ ∀ x ∈ xs, -32768 ≤ x ∧ x ≤ 32767 :=
  open_row i16c 1 (fun x => -32768 ≤ x ∧ x ≤ 32767) Try.underlying30 (by kernel_rfl) (by decide) (fun _ _ _ h1 h2 => open_i16 h1 h2) h

/-- the cell of a row that came in -/
theorem row_cell {α : Type} {w w' : World} {enc : α → List Value} {a : Option Addr} {cap n : Nat} {xs : List α} (h : RowU w 1 enc (.slice a n cap) xs) (k : Kept (fun _ => False) w w') {i : Nat} {x : α} (hx : xs[i]? = some x) {u : Value} (hu : (enc x)[0]? = some u) :
    ∃ b off, a = some ⟨b, off, none⟩ ∧ w'.cell? ⟨b, off + i, none⟩ = some u := by
  obtain ⟨ao, c, e, _, _, _, h⟩ := h
  injection e with e1 _ _
  subst e1
  obtain ⟨b, off, e2, h2⟩ := h i x hx
  refine ⟨b, off, e2, ?_⟩
  have h3 := h2 0 u hu
  rw [show off + i * 1 + 0 = off + i by omega] at h3
  rw [← h3]
  exact World.cell?_of_block (k.block _ (cell_block h3) (fun h => h))

theorem put_area {d : Dk} {x : Int} {F : List Int} (hx : x = 0 ∨ x = 1) : (d.put x F).area x = F := by
  rcases hx with rfl | rfl <;> rfl
theorem put_other {d : Dk} {x y : Int} {F : List Int} (hx : x = 0 ∨ x = 1) (hy : y = 1 - x) : (d.put x F).area y = d.area y := by
  rcases hx with rfl | rfl <;> subst hy <;> rfl

/-- ahead of the i-th save -/
structure TI (w wr : World) (B : Nat) (l : List Bs) (i : Nat) (d : Dk) : Prop where
  at_ : At wr B d
  by_ : d.By
  k : Kept (fun _ => False) w wr
  hB : w.heap.size ≤ B
  arm : d.armed = false
  zero : i = 0 → image d = Im.zero
  one : 0 < i → ∃ x, l[i - 1]? = some x ∧ image d = ⟨((i - 1) % 2 : Nat), i, x.l, true⟩ ∧ d.area ((i - 1) % 2 : Nat) = frameI i x.l

theorem TI.below {w wr w' : World} {B : Nat} {l : List Bs} {i : Nat} {d : Dk} (h : TI w wr B l i d) (k : Below wr.heap.size wr w') : TI w w' B l i d :=
  ⟨h.at_.below k, h.by_, h.k.upB k, h.hB, h.arm, h.zero, h.one⟩

theorem TI.next {w wr : World} {B : Nat} {l : List Bs} {i : Nat} {d : Dk} (h : TI w wr B l i d) : nxt (image d) = ((i % 2 : Nat) : Int) ∧ (image d).t = i := by
  rcases Nat.eq_zero_or_pos i with h0 | h0
  · subst h0
    rw [h.zero rfl]
    exact ⟨rfl, rfl⟩
  · obtain ⟨x, _, e, _⟩ := h.one h0
    rw [e]
    refine ⟨?_, rfl⟩
    show (1 : Int) - ((i - 1) % 2 : Nat) = _
    omega

/-- behind it -/
theorem TI.save {w wr w' : World} {B : Nat} {l : List Bs} {i : Nat} {d : Dk} {x : Bs} (h : TI w wr B l i d) (hx : l[i]? = some x) (hl : x.l.length ≤ 200) (hy : ∀ y ∈ x.l, isByte y) (hi : i ≤ 100) (ha : At w' B (saved d x.l)) (hk : Kept (fun k => k = B) wr w') :
    d.err (nxt (image d)) (frameI ((image d).t + 1) x.l) = 0 ∧ TI w w' B l (i + 1) (saved d x.l) ∧ (image (saved d x.l)).t = i + 1 ∧ (saved d x.l).area (i % 2 : Nat) = frameI (i + 1) x.l ∧ (∀ z, 0 < i → l[i - 1]? = some z → (saved d x.l).area ((i + 1) % 2 : Nat) = frameI i z.l) := by
  have hn := h.next
  have s := saved_plain d x.l h.arm (by omega) h.by_ (by rw [hn.2]; omega)
  have h01 : nxt (image d) = 0 ∨ nxt (image d) = 1 := by rw [hn.1]; omega
  have hA : (saved d x.l).area (i % 2 : Nat) = frameI (i + 1) x.l := by
    rw [s.2.2.2, ← hn.1, put_area h01, hn.2]
  refine ⟨s.1, ⟨ha, saved_by h.by_ _ hy, h.k.up hk h.hB, h.hB, s.2.1, fun e => by omega, fun _ => ⟨x, by rw [Nat.add_sub_cancel]; exact hx, ?_, ?_⟩⟩, ?_, hA, ?_⟩
  · rw [s.2.2.1, hn.1, hn.2, Nat.add_sub_cancel]
    rfl
  · rw [Nat.add_sub_cancel, hA]
    rfl
  · rw [s.2.2.1]; show (image d).t + 1 = _; rw [hn.2]
  · intro z h0 hz
    obtain ⟨z', e1, _, e3⟩ := h.one h0
    rw [hz] at e1
    injection e1 with e1
    subst e1
    rw [s.2.2.2, put_other h01 (by rw [hn.1]; omega), ← e3]
    congr 2
    omega
end Go.Proofs.Ytibbomeeoobgkaa
