/- What holds between saves of which some are cut off. -/
import Derived.Test.YtibbomeeoobgkaaLst
namespace Go.Proofs.Ytibbomeeoobgkaa
open Go.RowKit
set_option maxRecDepth 100000

structure CI (w wr : World) (B : Nat) (i : Nat) (d : Dk) (L : List Int) (hv : Bool) : Prop where
  at_ : At wr B d
  by_ : d.By
  k : Kept (fun _ => False) w wr
  hB : w.heap.size ≤ B
  arm : d.armed = false
  t : (image d).t ≤ i
  has : (image d).hv = hv
  b : hv = true → (image d).b = L

theorem CI.below {w wr w' : World} {B : Nat} {i : Nat} {d : Dk} {L : List Int} {hv : Bool} (h : CI w wr B i d L hv) (k : Below wr.heap.size wr w') : CI w w' B i d L hv :=
  ⟨h.at_.below k, h.by_, h.k.upB k, h.hB, h.arm, h.t, h.has, h.b⟩

theorem CI.plain {w wr w' : World} {B i : Nat} {d : Dk} {L x : List Int} {hv : Bool} (h : CI w wr B i d L hv) (hl : x.length ≤ 200) (hy : ∀ y ∈ x, isByte y) (hi : i ≤ 100) (ha : At w' B (saved d x)) (hk : Kept (fun k => k = B) wr w') :
    d.err (nxt (image d)) (frameI ((image d).t + 1) x) = 0 ∧ CI w w' B (i + 1) (saved d x) x true ∧ (image (saved d x)).hv = true ∧ (image (saved d x)).b = x := by
  have ht := h.t
  have s := saved_plain d x h.arm (by omega) h.by_ (by omega)
  have e1 : (image (saved d x)).hv = true := by rw [s.2.2.1]
  have e2 : (image (saved d x)).b = x := by rw [s.2.2.1]
  refine ⟨s.1, ⟨ha, saved_by h.by_ _ hy, h.k.up hk h.hB, h.hB, s.2.1, ?_, e1, fun _ => e2⟩, e1, e2⟩
  rw [s.2.2.1]
  show (image d).t + 1 ≤ _
  omega

theorem arm_image (d : Dk) (z : Int) : image (d.arm z) = image d := by
  rw [image_eq, image_eq]
  rfl

theorem CI.torn {w wr w' : World} {B i : Nat} {d : Dk} {L x : List Int} {hv : Bool} {z : Int} (h : CI w wr B i d L hv) (hz : 0 ≤ z) (hl : x.length ≤ 200) (hy : ∀ y ∈ x, isByte y) (hi : i ≤ 100) (ha : At w' B (saved (d.arm z) x)) (hk : Kept (fun k => k = B) wr w') :
    (d.arm z).err (nxt (image (d.arm z))) (frameI ((image (d.arm z)).t + 1) x) = 70 ∧ ((x.length : Int) + 16 ≤ z → CI w w' B (i + 1) (saved (d.arm z) x) x true ∧ (image (saved (d.arm z) x)).hv = true ∧ (image (saved (d.arm z) x)).b = x) ∧ (¬ (x.length : Int) + 16 ≤ z → CI w w' B (i + 1) (saved (d.arm z) x) L hv ∧ image (saved (d.arm z) x) = image d) := by
  have ht := h.t
  have by2 : (d.arm z).By := h.by_
  have s := saved_torn (d.arm z) x rfl (by omega) by2 (by rw [arm_image]; omega)
  have hn : (d.arm z).n.toNat = z.toNat := by show (max z 0).toNat = _; omega
  have up := h.k.up hk h.hB
  have sb := saved_by by2 x hy
  refine ⟨s.1, fun hq => ?_, fun hq => ?_⟩
  · have e := s.2.2.1
    rw [hn, if_pos (by omega), arm_image] at e
    have e1 : (image (saved (d.arm z) x)).hv = true := by rw [e]
    have e2 : (image (saved (d.arm z) x)).b = x := by rw [e]
    refine ⟨⟨ha, sb, up, h.hB, s.2.1, ?_, e1, fun _ => e2⟩, e1, e2⟩
    rw [e]
    show (image d).t + 1 ≤ _
    omega
  · have e := s.2.2.1
    rw [hn, if_neg (by omega), arm_image] at e
    exact ⟨⟨ha, sb, up, h.hB, s.2.1, by rw [e]; omega, by rw [e]; exact h.has, fun q => by rw [e]; exact h.b q⟩, e⟩
end Go.Proofs.Ytibbomeeoobgkaa
