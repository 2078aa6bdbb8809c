/- What comes in: requests, bytes. -/
import Derived.Test.YtmkeckablkccnaaDoorKnown
import Derived.ProofKit
import Derived.OpenShut
import Derived.LaidMore
import Derived.Lay
namespace Go.Proofs.YtmkeckablkccnaaDoor
open Go.ChangeShapes Go.WideShapes Go.ChangeAt Go.RowKit

set_option maxRecDepth 100000 in
theorem open_req {H : Type} {enc : TypeId × Value → H} {W : World} {b0 base : Nat} {spare : Nat → Bool} {held : Bool} {v : Value} {d : DataW H} {p : List MemPlace} (hv : Value.okWide Tryd.prog W .any b0 27 v)
    (h : DataW.Trod enc Tryd.prog W base spare held 27 v d p) : ∃ r : Rq, v = .agg r.cells.toArray ∧ r.ok := by
  obtain ⟨cs, rfl, hsz⟩ := okWide_struct Tryd.underlying27 hv
  obtain ⟨fuel, hf⟩ := h
  have c27 : Tryd.prog.cellsOf 27 = 5 := by kernel_rfl
  have c25 : Tryd.prog.cellsOf 25 = 3 := by kernel_rfl
  have c5 : Tryd.prog.cellsOf 5 = 1 := by kernel_rfl
  have c22 : Tryd.prog.cellsOf 22 = 1 := by kernel_rfl
  have c23 : Tryd.prog.cellsOf 23 = 1 := by kernel_rfl
  obtain ⟨l⟩ := cs
  match l, hsz.trans c27 with
  | [x0, x1, x2, x3, x4], _ =>
    obtain ⟨ys, n, _, _, _, hl, hy⟩ := DataW.trod_struct Tryd.underlying27 (show DataW.trod enc Tryd.prog W base spare held fuel 27 [x0, x1, x2, x3, x4] = some (d, p) from hf)
    have g : ∀ j, j < 3 → ∃ y, ys[j]? = some y := fun j hj => ⟨_, List.getElem?_eq_getElem (by rw [hl]; exact hj)⟩
    obtain ⟨y0, e0⟩ := g 0 (by omega)
    obtain ⟨y1, e1⟩ := g 1 (by omega)
    obtain ⟨y2, e2⟩ := g 2 (by omega)
    have f0 : DataW.trod enc Tryd.prog W base spare held n 5 [x0] = some y0 := by
      have this : DataW.trod enc Tryd.prog W base spare held n 5 (([x0, x1, x2, x3, x4].drop 0).take (Tryd.prog.cellsOf 5)) = ys[0]? := hy 0 _ rfl
      rw [c5] at this
      rw [← e0]; exact this
    have f1 : DataW.trod enc Tryd.prog W base spare held n 22 [x1] = some y1 := by
      have this : DataW.trod enc Tryd.prog W base spare held n 22 (([x0, x1, x2, x3, x4].drop 1).take (Tryd.prog.cellsOf 22)) = ys[1]? := hy 1 _ rfl
      rw [c22] at this
      rw [← e1]; exact this
    have f2 : DataW.trod enc Tryd.prog W base spare held n 25 [x2, x3, x4] = some y2 := by
      have this : DataW.trod enc Tryd.prog W base spare held n 25 (([x0, x1, x2, x3, x4].drop 2).take (Tryd.prog.cellsOf 25)) = ys[2]? := hy 2 _ rfl
      rw [c25] at this
      rw [← e2]; exact this
    obtain ⟨zs, n2, _, _, _, hl2, hz⟩ := DataW.trod_struct Tryd.underlying25 f2
    have g2 : ∀ j, j < 3 → ∃ y, zs[j]? = some y := fun j hj => ⟨_, List.getElem?_eq_getElem (by rw [hl2]; exact hj)⟩
    obtain ⟨u0, d0⟩ := g2 0 (by omega)
    obtain ⟨u1, d1⟩ := g2 1 (by omega)
    obtain ⟨u2, d2⟩ := g2 2 (by omega)
    have k0 : DataW.trod enc Tryd.prog W base spare held n2 5 [x2] = some u0 := by
      have this : DataW.trod enc Tryd.prog W base spare held n2 5 (([x2, x3, x4].drop 0).take (Tryd.prog.cellsOf 5)) = zs[0]? := hz 0 _ rfl
      rw [c5] at this
      rw [← d0]; exact this
    have k1 : DataW.trod enc Tryd.prog W base spare held n2 5 [x3] = some u1 := by
      have this : DataW.trod enc Tryd.prog W base spare held n2 5 (([x2, x3, x4].drop 1).take (Tryd.prog.cellsOf 5)) = zs[1]? := hz 1 _ rfl
      rw [c5] at this
      rw [← d1]; exact this
    have k2 : DataW.trod enc Tryd.prog W base spare held n2 23 [x4] = some u2 := by
      have this : DataW.trod enc Tryd.prog W base spare held n2 23 (([x2, x3, x4].drop 2).take (Tryd.prog.cellsOf 23)) = zs[2]? := hz 2 _ rfl
      rw [c23] at this
      rw [← d2]; exact this
    obtain ⟨a0, q0, _, b0⟩ := DataW.trod_int Tryd.underlying5 f0
    obtain ⟨a1, q1, _, b1⟩ := DataW.trod_int Tryd.underlying22 f1
    obtain ⟨a2, q2, _, b2⟩ := DataW.trod_int Tryd.underlying5 k0
    obtain ⟨a3, q3, _, b3⟩ := DataW.trod_int Tryd.underlying5 k1
    obtain ⟨a4, q4, _, b4⟩ := DataW.trod_int Tryd.underlying23 k2
    injection q0 with q0; injection q1 with q1; injection q2 with q2; injection q3 with q3; injection q4 with q4
    subst q0 q1 q2 q3 q4
    refine ⟨⟨a0, a1, a2, a3, a4⟩, rfl, ?_⟩
    simp [Lit.wf, IntKind.min, IntKind.max, IntKind.signed, IntKind.bits] at b0 b1 b2 b3 b4
    unfold Rq.ok
    simp only
    omega

theorem open_bytes {H : Type} {enc : TypeId × Value → H} {W : World} {fuel : Nat} {v : Value} {x : DataW H × List MemPlace} (h : DataW.trod enc Tryd.prog W 0 (fun _ => true) true fuel 35 [v] = some x) :
    ∃ (ao : Option Addr) (l : List Int) (cap : Nat), v = .slice ao l.length cap ∧ Bytes W ao l ∧ (∀ y ∈ l, isByte y) ∧ l.length ≤ cap ∧ (ao = none → cap = 0) := by
  rcases open_ints Tryd.underlying35 Tryd.underlying5 (by kernel_rfl) h with ⟨hcs, _⟩ | ⟨a, len, cap, zs, hcs, _, hl, hm, hz, _, hcell, hwz⟩
  · injection hcs with hcs
    exact ⟨none, [], 0, hcs, fun i h => by simp at h, fun y hy => by simp at hy, Nat.le_refl _, fun _ => rfl⟩
  · injection hcs with hcs
    have hz' : zs.length = cap := by simpa using hz
    have hlen : (zs.take len).length = len := by rw [List.length_take]; omega
    refine ⟨some a, zs.take len, cap, by rw [hlen]; exact hcs, fun i hi => ?_, fun y hy => ?_, by omega, fun e => by cases e⟩
    · rw [hlen] at hi
      exact ⟨a, rfl, by rw [hcell i (by omega), getD_take zs len i hi]⟩
    · have := hwz y (List.mem_of_mem_take hy)
      simpa [isByte, Lit.wf, IntKind.min, IntKind.max, IntKind.signed, IntKind.bits] using this
end Go.Proofs.YtmkeckablkccnaaDoor
