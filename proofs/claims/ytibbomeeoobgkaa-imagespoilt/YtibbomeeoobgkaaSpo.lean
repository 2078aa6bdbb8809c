/- A disk with two images, of which one is spoilt; an area read as a row of the call's own. -/
import Derived.Test.YtibbomeeoobgkaaKnown
namespace Go.Proofs.Ytibbomeeoobgkaa
open Go.RowKit
set_option maxRecDepth 100000

theorem xor_other (x y : Int) (hx : isByte x) (hy : 0 ≤ y ∧ y ≤ 255) (h0 : ¬ y = 0) : isByte (bits .xor .u8 x y) ∧ bits .xor .u8 x y ≠ x := by
  obtain ⟨x, rfl⟩ := Int.eq_ofNat_of_zero_le hx.1
  obtain ⟨y, rfl⟩ := Int.eq_ofNat_of_zero_le hy.1
  have hx' := hx.2
  rw [u8_xor_nat x y (by omega) (by omega)]
  have hlt : x ^^^ y < 256 := Nat.xor_lt_two_pow (n := 8) (by omega) (by omega)
  refine ⟨⟨by omega, by omega⟩, fun h => h0 ?_⟩
  have h1 : x ^^^ y = x := by omega
  have h2 := congrArg (x ^^^ ·) h1
  simp only [← Nat.xor_assoc, Nat.xor_self, Nat.zero_xor] at h2
  omega
theorem row_set {w : World} {g k : Nat} {l : List Int} (y : Int) (h : w.heap[g]? = some (.cells (vals l).toArray 5 (0, 0))) :
    (w.setCell ⟨g, k, none⟩ (.int .u8 y)).heap[g]? = some (.cells (vals (l.set k y)).toArray 5 (0, 0)) ∧ Kept (fun i => i = g) w (w.setCell ⟨g, k, none⟩ (.int .u8 y)) := by
  refine ⟨?_, (Kept.refl (fun i => i = g) w).setCell ⟨g, k, none⟩ _ (fun _ => rfl)⟩
  rw [heap_setCell_same _ _ _ _ _ _ h]
  have e : (vals l).toArray.setIfInBounds k (.int .u8 y) = (vals (l.set k y)).toArray := by simp [vals, List.map_set]
  rw [e]

set_option maxHeartbeats 1000000 in
theorem read1_any (w : World) (B : Nat) (d : Dk) (h : At w B d) : Calls Try.prog 19 #[.pointer (some ⟨B, 0, none⟩), .int .i64 1] w fun e w' => e = .returned (.slice (some ⟨w.heap.size, 0, none⟩) d.a1.length d.a1.length) ∧ w'.heap[w.heap.size]? = some (.cells (vals d.a1).toArray 5 (0, 0)) ∧ Below w.heap.size w w' := by
  obtain ⟨p0, c0, p1, c1, hb, l0, l1, ok⟩ := h
  have h1 : w.cell? ⟨B, 1, none⟩ = some (.slice p1 d.a1.length c1) := by simp [World.cell?, hb]
  have C1 := Lib.hid (copy_any w p1 c1 d.a1 l1.bytes (by have := ok.a1; omega))
  clear hb l0 l1 ok
  go_enter Try.func19, Try.ntmps19
  go_wp2_with fail
  refine (has_any w _ 1).mono ?_
  rintro e w' ⟨rfl, rfl⟩
  have e : hasB 1 = true := by decide
  rw [e]
  clear e
  go_wp2_with fail
  refine C1.out.mono ?_
  rintro e w' ⟨rfl, hr, hk⟩
  have HR := Lib.hid hr
  have HK := Lib.hid hk
  clear hr hk
  go_wp2_with fail
  go_ret
  exact ⟨rfl, HR.out, HK.out⟩

def s1 (a : List Int) : Dk := saved Dk.new a
def s2 (a b : List Int) : Dk := saved (s1 a) b

theorem s1_is (a : List Int) (hl : a.length ≤ 40000) : Dk.new.err (nxt (image Dk.new)) (frameI ((image Dk.new).t + 1) a) = 0 ∧ (s1 a).armed = false ∧ image (s1 a) = ⟨0, 1, a, true⟩ ∧ s1 a = ⟨frameI 1 a, [], false, 0⟩ := by
  have h := saved_plain Dk.new a rfl hl new_by (by rw [new_image]; decide)
  refine ⟨h.1, h.2.1, h.2.2.1.trans ?_, h.2.2.2.trans ?_⟩
  · rw [new_image]; rfl
  · rw [new_image]; rfl

theorem s1_by {a : List Int} (ha : ∀ y ∈ a, isByte y) : (s1 a).By := saved_by new_by _ ha

theorem s2_is (a b : List Int) (ha : ∀ y ∈ a, isByte y) (hl : a.length ≤ 40000) (hl2 : b.length ≤ 40000) : (s1 a).err (nxt (image (s1 a))) (frameI ((image (s1 a)).t + 1) b) = 0 ∧ image (s2 a b) = ⟨1, 2, b, true⟩ ∧ s2 a b = ⟨frameI 1 a, frameI 2 b, false, 0⟩ := by
  have q := s1_is a hl
  have h := saved_plain (s1 a) b q.2.1 hl2 (s1_by ha) (by rw [q.2.2.1]; show (1 : Int) < 4294967295; decide)
  refine ⟨h.1, h.2.2.1.trans ?_, h.2.2.2.trans ?_⟩
  · rw [q.2.2.1]; rfl
  · rw [q.2.2.1, q.2.2.2]; rfl

theorem s2_by {a b : List Int} (ha : ∀ y ∈ a, isByte y) (hb : ∀ y ∈ b, isByte y) : (s2 a b).By := saved_by (s1_by ha) _ hb

/-- the later image spoilt: the elder one counts -/
theorem spoilt_image (a x : List Int) (hx : isFr x = false) : image ⟨frameI 1 a, x, false, 0⟩ = ⟨0, 1, a, true⟩ := by
  rw [image_eq]
  show (im1 (frameI 1 a)).step 1 x = _
  have h : im1 (frameI 1 a) = ⟨0, 1, a, true⟩ := by
    unfold im1
    rw [isFr_frame 1 a (by decide), if_pos rfl, parT_frame 1 a (by decide), parB_frame 1 a (by decide)]
  rw [h, step_cond, hx, Bool.false_and, if_neg (by simp)]
end Go.Proofs.Ytibbomeeoobgkaa
