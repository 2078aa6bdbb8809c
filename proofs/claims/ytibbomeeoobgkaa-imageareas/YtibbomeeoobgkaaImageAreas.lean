/- For every two areas the law ImageAreas returns true. No condition. -/
import Derived.Test.YtibbomeeoobgkaaRows
import Derived.Test.YtibbomeeoobgkaaRefp
import Derived.Test.YtibbomeeoobgkaaKnown
import Derived.Test.YtibbomeeoobgkaaOpen
import Derived.WalkKit
import Derived.ProofKit
import Derived.OpenShut
import Derived.ShutString
import Derived.ChangeOld
import Derived.Below
namespace Go.Proofs.Ytibbomeeoobgkaa.imageAreas
open Go.ChangeShapes Go.WideShapes Go.ChangeAt Go.RowKit
set_option maxRecDepth 100000

theorem own : ownKnob Try.prog.godebug = none := by kernel_rfl
theorem laidOut : laidOutB Try.prog = true := by kernel_rfl

set_option maxHeartbeats 1000000 in
theorem long0 (p1 : Option Addr) (m1 c1 : Nat) (p2 : Option Addr) (m2 c2 : Nat) (w : World) (h1 : 400 < m1) :
    Calls Try.prog 5 #[.slice p1 m1 c1, .slice p2 m2 c2] w fun e w' => e = .returned (.bool true) ∧ Below w.heap.size w w' := by
  have d1 : decide (400 < (m1 : Int)) = true := by rw [decide_eq_true_eq]; omega
  clear h1
  go_enter Try.func5, Try.ntmps5
  go_wp2_with fail
  refine (known_any w).mono ?_
  rintro e w1 ⟨rfl, k1⟩
  have K1 := Lib.hid k1
  clear k1
  go_wp2_with fail
  go_ret
  exact ⟨rfl, K1.out.below (Nat.le_refl _) (fun _ h => h.elim)⟩

set_option maxHeartbeats 1000000 in
theorem long1 (p1 : Option Addr) (m1 c1 : Nat) (p2 : Option Addr) (m2 c2 : Nat) (w : World) (h1 : m1 ≤ 400) (h2 : 400 < m2) :
    Calls Try.prog 5 #[.slice p1 m1 c1, .slice p2 m2 c2] w fun e w' => e = .returned (.bool true) ∧ Below w.heap.size w w' := by
  have d1 : decide (400 < (m1 : Int)) = false := by rw [decide_eq_false_iff_not]; omega
  have d2 : decide (400 < (m2 : Int)) = true := by rw [decide_eq_true_eq]; omega
  clear h1 h2
  go_enter Try.func5, Try.ntmps5
  go_wp2_with fail
  refine (known_any w).mono ?_
  rintro e w1 ⟨rfl, k1⟩
  have K1 := Lib.hid k1
  clear k1
  go_wp2_with fail
  go_ret
  exact ⟨rfl, K1.out.below (Nat.le_refl _) (fun _ h => h.elim)⟩

set_option maxHeartbeats 8000000 in
theorem coreA (p1 : Option Addr) (a : List Int) (c1 : Nat) (p2 : Option Addr) (b : List Int) (c2 : Nat) (w : World) (hb1 : Bytes w p1 a) (hy1 : ∀ y ∈ a, isByte y) (hc1 : a.length ≤ c1)
    (hb2 : Bytes w p2 b) (hy2 : ∀ y ∈ b, isByte y) (hc2 : b.length ≤ c2) (h1 : a.length ≤ 400) (h2 : b.length ≤ 400) (hp : isFr a = true) (hq : isFr b = false) :
    Calls Try.prog 5 #[.slice p1 a.length c1, .slice p2 b.length c2] w fun e w' => e = .returned (.bool true) ∧ Below w.heap.size w w' := by
  have d1 : decide (400 < (a.length : Int)) = false := by rw [decide_eq_false_iff_not]; omega
  have d2 : decide (400 < (b.length : Int)) = false := by rw [decide_eq_false_iff_not]; omega
  have IM := Lib.hid (show image ⟨a, b, false, 0⟩ = ⟨0, parT a, parB a, true⟩ by
    rw [image_eq]
    show (im1 a).step 1 b = _
    unfold im1
    rw [hp, if_pos rfl, step_cond, hq, Bool.false_and, if_neg (by simp)])
  have BY := Lib.hid (show (⟨a, b, false, 0⟩ : Dk).By from ⟨hy1, hy2⟩)
  have B1 := Lib.hid hb1
  have B2 := Lib.hid hb2
  have W1 := Lib.hid (fun w' B (h : At w' B Dk.new) (k : Kept (fun _ => False) w w') => write_any w' B Dk.new 0 p1 c1 a h (bytes_kept hb1 k (fun _ _ _ h => h)) hc1)
  have W2 := Lib.hid (fun w' B (h : At w' B ⟨a, [], false, 0⟩) (k : Kept (fun _ => False) w w') => write_any w' B ⟨a, [], false, 0⟩ 1 p2 c2 b h (bytes_kept hb2 k (fun _ _ _ h => h)) hc2)
  have R1 := Lib.hid (fun w' (k : Kept (fun _ => False) w w') => refParse_any w' p1 c1 a (bytes_kept hb1 k (fun _ _ _ h => h)) (by omega) hc1 hy1)
  have R2 := Lib.hid (fun w' (k : Kept (fun _ => False) w w') => refParse_any w' p2 c2 b (bytes_kept hb2 k (fun _ _ _ h => h)) (by omega) hc2 hy2)
  have e1 : Dk.new.err 0 a = 0 := by
    unfold Dk.err
    rw [if_pos (by decide), if_neg (by omega)]
    rfl
  have e2 : Dk.new.write 0 a = ⟨a, [], false, 0⟩ := by
    unfold Dk.write
    rw [if_pos (by decide), if_neg (by omega)]
    rfl
  have e3 : (⟨a, [], false, 0⟩ : Dk).err 1 b = 0 := by
    unfold Dk.err
    rw [if_pos (by decide), if_neg (by omega)]
    rfl
  have e4 : (⟨a, [], false, 0⟩ : Dk).write 1 b = ⟨a, b, false, 0⟩ := by
    unfold Dk.write
    rw [if_pos (by decide), if_neg (by omega)]
    rfl
  rw [e1, e2] at W1
  rw [e3, e4] at W2
  have P := Lib.hid hp
  have Q := Lib.hid hq
  rw [hp] at R1
  rw [hq] at R2
  generalize hm1 : a.length = m1 at *
  generalize hm2 : b.length = m2 at *
  clear hb1 hb2 hy1 hy2 hc1 hc2 e1 e2 e3 e4 h1 h2 hp hq hm1 hm2
  go_enter Try.func5, Try.ntmps5
  go_wp2_with fail
  refine (known_any w).mono ?_
  rintro e w1 ⟨rfl, k1⟩
  have K1 := Lib.hid k1
  clear k1
  go_wp2_with fail
  refine (dnew_any w1).mono ?_
  rintro e w2 ⟨rfl, g2, k2⟩
  obtain ⟨B, hB⟩ : ∃ B, w1.heap.size = B := ⟨_, rfl⟩
  rw [hB] at g2 ⊢
  have HB := Lib.hid (show w.heap.size ≤ B by rw [← hB]; exact K1.out.size)
  have G2 := Lib.hid g2
  have K2 := Lib.hid (K1.out.trans k2 (fun _ _ h => h))
  clear hB g2 k2 K1
  go_wp2_with fail
  refine (W1.out w2 B G2.out K2.out).mono ?_
  rintro e w3 ⟨rfl, g3, k3⟩
  have G3 := Lib.hid g3
  have K3 := Lib.hid (K2.out.up k3 HB.out)
  clear g3 k3 G2 K2 W1
  go_wp2_with fail
  refine (W2.out w3 B G3.out K3.out).mono ?_
  rintro e w4 ⟨rfl, g4, k4⟩
  have G4 := Lib.hid g4
  have K4 := Lib.hid (K3.out.up k4 HB.out)
  clear g4 k4 G3 K3 W2
  go_wp2_with fail
  refine (R1.out w4 K4.out).mono ?_
  rintro e w5 ⟨⟨ao5, c5, rfl, l5⟩, b5⟩
  have G5 := Lib.hid (G4.out.below b5)
  have K5 := Lib.hid (K4.out.upB b5)
  have L5 := Lib.hid (show Lie w5 ao5 (parB a) from ⟨bytes_belowS l5.bytes b5, l5.none⟩)
  clear l5 b5 G4 K4 R1
  go_wp2_with fail
  refine (R2.out w5 K5.out).mono ?_
  rintro e w6 ⟨⟨ao6, c6, rfl, l6⟩, b6⟩
  have G6 := Lib.hid (G5.out.below b6)
  have K6 := Lib.hid (K5.out.upB b6)
  have L6 := Lib.hid (show Lie w6 ao6 (parB b) from ⟨bytes_belowS l6.bytes b6, l6.none⟩)
  have L56 := Lib.hid (show Lie w6 ao5 (parB a) from ⟨bytes_belowS L5.out.bytes b6, L5.out.none⟩)
  clear l6 b6 G5 K5 R2 L5
  go_wp2_with fail
  have L := load_any w6 B _ G6.out BY.out
  rw [IM.out] at L
  refine L.mono ?_
  clear L
  rintro e w7 ⟨ao7, c7, rfl, t7, b7⟩
  have G7 := Lib.hid (G6.out.below b7)
  have K7 := Lib.hid (K6.out.upB b7)
  rw [if_pos rfl]
  have hs7 := str_bytes (c := c7) t7.bytes (fun h => (t7.none h).1)
  have hsx := str_bytes (c := c5) (bytes_belowS L56.out.bytes b7) L56.out.none
  clear t7 b7 G6 K6
  go_wp2_with fail
  have TT := turn_any w7 B _ G7.out BY.out
  rw [IM.out] at TT
  refine TT.mono ?_
  clear TT
  rintro e w8 ⟨rfl, b8⟩
  have K8 := Lib.hid (K7.out.upB b8)
  clear b8 hs7 hsx
  go_wp2_with fail
  go_ret
  exact ⟨rfl, K8.out.below (Nat.le_refl _) (fun _ h => h.elim)⟩

set_option maxHeartbeats 8000000 in
theorem coreN (p1 : Option Addr) (a : List Int) (c1 : Nat) (p2 : Option Addr) (b : List Int) (c2 : Nat) (w : World) (hb1 : Bytes w p1 a) (hy1 : ∀ y ∈ a, isByte y) (hc1 : a.length ≤ c1)
    (hb2 : Bytes w p2 b) (hy2 : ∀ y ∈ b, isByte y) (hc2 : b.length ≤ c2) (h1 : a.length ≤ 400) (h2 : b.length ≤ 400) (hp : isFr a = false) (hq : isFr b = false) :
    Calls Try.prog 5 #[.slice p1 a.length c1, .slice p2 b.length c2] w fun e w' => e = .returned (.bool true) ∧ Below w.heap.size w w' := by
  have d1 : decide (400 < (a.length : Int)) = false := by rw [decide_eq_false_iff_not]; omega
  have d2 : decide (400 < (b.length : Int)) = false := by rw [decide_eq_false_iff_not]; omega
  have IM := Lib.hid (show image ⟨a, b, false, 0⟩ = Im.zero by
    rw [image_eq]
    show (im1 a).step 1 b = _
    unfold im1
    rw [hp, if_neg (by simp), step_cond, hq, Bool.false_and, if_neg (by simp)])
  have BY := Lib.hid (show (⟨a, b, false, 0⟩ : Dk).By from ⟨hy1, hy2⟩)
  have B1 := Lib.hid hb1
  have B2 := Lib.hid hb2
  have W1 := Lib.hid (fun w' B (h : At w' B Dk.new) (k : Kept (fun _ => False) w w') => write_any w' B Dk.new 0 p1 c1 a h (bytes_kept hb1 k (fun _ _ _ h => h)) hc1)
  have W2 := Lib.hid (fun w' B (h : At w' B ⟨a, [], false, 0⟩) (k : Kept (fun _ => False) w w') => write_any w' B ⟨a, [], false, 0⟩ 1 p2 c2 b h (bytes_kept hb2 k (fun _ _ _ h => h)) hc2)
  have R1 := Lib.hid (fun w' (k : Kept (fun _ => False) w w') => refParse_any w' p1 c1 a (bytes_kept hb1 k (fun _ _ _ h => h)) (by omega) hc1 hy1)
  have R2 := Lib.hid (fun w' (k : Kept (fun _ => False) w w') => refParse_any w' p2 c2 b (bytes_kept hb2 k (fun _ _ _ h => h)) (by omega) hc2 hy2)
  have e1 : Dk.new.err 0 a = 0 := by
    unfold Dk.err
    rw [if_pos (by decide), if_neg (by omega)]
    rfl
  have e2 : Dk.new.write 0 a = ⟨a, [], false, 0⟩ := by
    unfold Dk.write
    rw [if_pos (by decide), if_neg (by omega)]
    rfl
  have e3 : (⟨a, [], false, 0⟩ : Dk).err 1 b = 0 := by
    unfold Dk.err
    rw [if_pos (by decide), if_neg (by omega)]
    rfl
  have e4 : (⟨a, [], false, 0⟩ : Dk).write 1 b = ⟨a, b, false, 0⟩ := by
    unfold Dk.write
    rw [if_pos (by decide), if_neg (by omega)]
    rfl
  rw [e1, e2] at W1
  rw [e3, e4] at W2
  have P := Lib.hid hp
  have Q := Lib.hid hq
  rw [hp] at R1
  rw [hq] at R2
  generalize hm1 : a.length = m1 at *
  generalize hm2 : b.length = m2 at *
  clear hb1 hb2 hy1 hy2 hc1 hc2 e1 e2 e3 e4 h1 h2 hp hq hm1 hm2
  go_enter Try.func5, Try.ntmps5
  go_wp2_with fail
  refine (known_any w).mono ?_
  rintro e w1 ⟨rfl, k1⟩
  have K1 := Lib.hid k1
  clear k1
  go_wp2_with fail
  refine (dnew_any w1).mono ?_
  rintro e w2 ⟨rfl, g2, k2⟩
  obtain ⟨B, hB⟩ : ∃ B, w1.heap.size = B := ⟨_, rfl⟩
  rw [hB] at g2 ⊢
  have HB := Lib.hid (show w.heap.size ≤ B by rw [← hB]; exact K1.out.size)
  have G2 := Lib.hid g2
  have K2 := Lib.hid (K1.out.trans k2 (fun _ _ h => h))
  clear hB g2 k2 K1
  go_wp2_with fail
  refine (W1.out w2 B G2.out K2.out).mono ?_
  rintro e w3 ⟨rfl, g3, k3⟩
  have G3 := Lib.hid g3
  have K3 := Lib.hid (K2.out.up k3 HB.out)
  clear g3 k3 G2 K2 W1
  go_wp2_with fail
  refine (W2.out w3 B G3.out K3.out).mono ?_
  rintro e w4 ⟨rfl, g4, k4⟩
  have G4 := Lib.hid g4
  have K4 := Lib.hid (K3.out.up k4 HB.out)
  clear g4 k4 G3 K3 W2
  go_wp2_with fail
  refine (R1.out w4 K4.out).mono ?_
  rintro e w5 ⟨⟨ao5, c5, rfl, l5⟩, b5⟩
  have G5 := Lib.hid (G4.out.below b5)
  have K5 := Lib.hid (K4.out.upB b5)
  have L5 := Lib.hid (show Lie w5 ao5 (parB a) from ⟨bytes_belowS l5.bytes b5, l5.none⟩)
  clear l5 b5 G4 K4 R1
  go_wp2_with fail
  refine (R2.out w5 K5.out).mono ?_
  rintro e w6 ⟨⟨ao6, c6, rfl, l6⟩, b6⟩
  have G6 := Lib.hid (G5.out.below b6)
  have K6 := Lib.hid (K5.out.upB b6)
  have L6 := Lib.hid (show Lie w6 ao6 (parB b) from ⟨bytes_belowS l6.bytes b6, l6.none⟩)
  have L56 := Lib.hid (show Lie w6 ao5 (parB a) from ⟨bytes_belowS L5.out.bytes b6, L5.out.none⟩)
  clear l6 b6 G5 K5 R2 L5
  go_wp2_with fail
  have L := load_any w6 B _ G6.out BY.out
  rw [IM.out] at L
  refine L.mono ?_
  clear L
  rintro e w7 ⟨ao7, c7, rfl, t7, b7⟩
  have G7 := Lib.hid (G6.out.below b7)
  have K7 := Lib.hid (K6.out.upB b7)
  rw [show Im.zero.hv = false from rfl, if_neg (by simp), show Im.zero.b.length = 0 from rfl]
  clear t7 b7 G6 K6
  go_wp2_with fail
  have TT := turn_any w7 B _ G7.out BY.out
  rw [IM.out, show Im.zero.t = 0 from rfl] at TT
  refine TT.mono ?_
  clear TT
  rintro e w8 ⟨rfl, b8⟩
  have K8 := Lib.hid (K7.out.upB b8)
  clear b8
  go_wp2_with fail
  go_ret
  exact ⟨rfl, K8.out.below (Nat.le_refl _) (fun _ h => h.elim)⟩

set_option maxHeartbeats 8000000 in
theorem coreB (p1 : Option Addr) (a : List Int) (c1 : Nat) (p2 : Option Addr) (b : List Int) (c2 : Nat) (w : World) (hb1 : Bytes w p1 a) (hy1 : ∀ y ∈ a, isByte y) (hc1 : a.length ≤ c1)
    (hb2 : Bytes w p2 b) (hy2 : ∀ y ∈ b, isByte y) (hc2 : b.length ≤ c2) (h1 : a.length ≤ 400) (h2 : b.length ≤ 400) (hp : isFr a = false) (hq : isFr b = true) :
    Calls Try.prog 5 #[.slice p1 a.length c1, .slice p2 b.length c2] w fun e w' => e = .returned (.bool true) ∧ Below w.heap.size w w' := by
  have d1 : decide (400 < (a.length : Int)) = false := by rw [decide_eq_false_iff_not]; omega
  have d2 : decide (400 < (b.length : Int)) = false := by rw [decide_eq_false_iff_not]; omega
  have IM := Lib.hid (show image ⟨a, b, false, 0⟩ = ⟨1, parT b, parB b, true⟩ by
    rw [image_eq]
    show (im1 a).step 1 b = _
    unfold im1
    rw [hp, if_neg (by simp), step_cond, hq]
    exact if_pos rfl)
  have BY := Lib.hid (show (⟨a, b, false, 0⟩ : Dk).By from ⟨hy1, hy2⟩)
  have B1 := Lib.hid hb1
  have B2 := Lib.hid hb2
  have W1 := Lib.hid (fun w' B (h : At w' B Dk.new) (k : Kept (fun _ => False) w w') => write_any w' B Dk.new 0 p1 c1 a h (bytes_kept hb1 k (fun _ _ _ h => h)) hc1)
  have W2 := Lib.hid (fun w' B (h : At w' B ⟨a, [], false, 0⟩) (k : Kept (fun _ => False) w w') => write_any w' B ⟨a, [], false, 0⟩ 1 p2 c2 b h (bytes_kept hb2 k (fun _ _ _ h => h)) hc2)
  have R1 := Lib.hid (fun w' (k : Kept (fun _ => False) w w') => refParse_any w' p1 c1 a (bytes_kept hb1 k (fun _ _ _ h => h)) (by omega) hc1 hy1)
  have R2 := Lib.hid (fun w' (k : Kept (fun _ => False) w w') => refParse_any w' p2 c2 b (bytes_kept hb2 k (fun _ _ _ h => h)) (by omega) hc2 hy2)
  have e1 : Dk.new.err 0 a = 0 := by
    unfold Dk.err
    rw [if_pos (by decide), if_neg (by omega)]
    rfl
  have e2 : Dk.new.write 0 a = ⟨a, [], false, 0⟩ := by
    unfold Dk.write
    rw [if_pos (by decide), if_neg (by omega)]
    rfl
  have e3 : (⟨a, [], false, 0⟩ : Dk).err 1 b = 0 := by
    unfold Dk.err
    rw [if_pos (by decide), if_neg (by omega)]
    rfl
  have e4 : (⟨a, [], false, 0⟩ : Dk).write 1 b = ⟨a, b, false, 0⟩ := by
    unfold Dk.write
    rw [if_pos (by decide), if_neg (by omega)]
    rfl
  rw [e1, e2] at W1
  rw [e3, e4] at W2
  have P := Lib.hid hp
  have Q := Lib.hid hq
  rw [hp] at R1
  rw [hq] at R2
  generalize hm1 : a.length = m1 at *
  generalize hm2 : b.length = m2 at *
  clear hb1 hb2 hy1 hy2 hc1 hc2 e1 e2 e3 e4 h1 h2 hp hq hm1 hm2
  go_enter Try.func5, Try.ntmps5
  go_wp2_with fail
  refine (known_any w).mono ?_
  rintro e w1 ⟨rfl, k1⟩
  have K1 := Lib.hid k1
  clear k1
  go_wp2_with fail
  refine (dnew_any w1).mono ?_
  rintro e w2 ⟨rfl, g2, k2⟩
  obtain ⟨B, hB⟩ : ∃ B, w1.heap.size = B := ⟨_, rfl⟩
  rw [hB] at g2 ⊢
  have HB := Lib.hid (show w.heap.size ≤ B by rw [← hB]; exact K1.out.size)
  have G2 := Lib.hid g2
  have K2 := Lib.hid (K1.out.trans k2 (fun _ _ h => h))
  clear hB g2 k2 K1
  go_wp2_with fail
  refine (W1.out w2 B G2.out K2.out).mono ?_
  rintro e w3 ⟨rfl, g3, k3⟩
  have G3 := Lib.hid g3
  have K3 := Lib.hid (K2.out.up k3 HB.out)
  clear g3 k3 G2 K2 W1
  go_wp2_with fail
  refine (W2.out w3 B G3.out K3.out).mono ?_
  rintro e w4 ⟨rfl, g4, k4⟩
  have G4 := Lib.hid g4
  have K4 := Lib.hid (K3.out.up k4 HB.out)
  clear g4 k4 G3 K3 W2
  go_wp2_with fail
  refine (R1.out w4 K4.out).mono ?_
  rintro e w5 ⟨⟨ao5, c5, rfl, l5⟩, b5⟩
  have G5 := Lib.hid (G4.out.below b5)
  have K5 := Lib.hid (K4.out.upB b5)
  have L5 := Lib.hid (show Lie w5 ao5 (parB a) from ⟨bytes_belowS l5.bytes b5, l5.none⟩)
  clear l5 b5 G4 K4 R1
  go_wp2_with fail
  refine (R2.out w5 K5.out).mono ?_
  rintro e w6 ⟨⟨ao6, c6, rfl, l6⟩, b6⟩
  have G6 := Lib.hid (G5.out.below b6)
  have K6 := Lib.hid (K5.out.upB b6)
  have L6 := Lib.hid (show Lie w6 ao6 (parB b) from ⟨bytes_belowS l6.bytes b6, l6.none⟩)
  have L56 := Lib.hid (show Lie w6 ao5 (parB a) from ⟨bytes_belowS L5.out.bytes b6, L5.out.none⟩)
  clear l6 b6 G5 K5 R2 L5
  go_wp2_with fail
  have L := load_any w6 B _ G6.out BY.out
  rw [IM.out] at L
  refine L.mono ?_
  clear L
  rintro e w7 ⟨ao7, c7, rfl, t7, b7⟩
  have G7 := Lib.hid (G6.out.below b7)
  have K7 := Lib.hid (K6.out.upB b7)
  rw [if_pos rfl]
  have hs7 := str_bytes (c := c7) t7.bytes (fun h => (t7.none h).1)
  have hsx := str_bytes (c := c6) (bytes_belowS L6.out.bytes b7) L6.out.none
  clear t7 b7 G6 K6
  go_wp2_with fail
  have TT := turn_any w7 B _ G7.out BY.out
  rw [IM.out] at TT
  refine TT.mono ?_
  clear TT
  rintro e w8 ⟨rfl, b8⟩
  have K8 := Lib.hid (K7.out.upB b8)
  clear b8 hs7 hsx
  go_wp2_with fail
  go_ret
  exact ⟨rfl, K8.out.below (Nat.le_refl _) (fun _ h => h.elim)⟩

set_option maxHeartbeats 8000000 in
theorem coreC (p1 : Option Addr) (a : List Int) (c1 : Nat) (p2 : Option Addr) (b : List Int) (c2 : Nat) (w : World) (hb1 : Bytes w p1 a) (hy1 : ∀ y ∈ a, isByte y) (hc1 : a.length ≤ c1)
    (hb2 : Bytes w p2 b) (hy2 : ∀ y ∈ b, isByte y) (hc2 : b.length ≤ c2) (h1 : a.length ≤ 400) (h2 : b.length ≤ 400) (hp : isFr a = true) (hq : isFr b = true) (ht : parT a < parT b) :
    Calls Try.prog 5 #[.slice p1 a.length c1, .slice p2 b.length c2] w fun e w' => e = .returned (.bool true) ∧ Below w.heap.size w w' := by
  have d1 : decide (400 < (a.length : Int)) = false := by rw [decide_eq_false_iff_not]; omega
  have d2 : decide (400 < (b.length : Int)) = false := by rw [decide_eq_false_iff_not]; omega
  have IM := Lib.hid (show image ⟨a, b, false, 0⟩ = ⟨1, parT b, parB b, true⟩ by
    rw [image_eq]
    show (im1 a).step 1 b = _
    unfold im1
    rw [hp, if_pos rfl, step_cond, hq]
    exact if_pos (by rw [decide_eq_true ht]; rfl))
  have ht2 := decide_eq_true ht
  clear ht
  have BY := Lib.hid (show (⟨a, b, false, 0⟩ : Dk).By from ⟨hy1, hy2⟩)
  have B1 := Lib.hid hb1
  have B2 := Lib.hid hb2
  have W1 := Lib.hid (fun w' B (h : At w' B Dk.new) (k : Kept (fun _ => False) w w') => write_any w' B Dk.new 0 p1 c1 a h (bytes_kept hb1 k (fun _ _ _ h => h)) hc1)
  have W2 := Lib.hid (fun w' B (h : At w' B ⟨a, [], false, 0⟩) (k : Kept (fun _ => False) w w') => write_any w' B ⟨a, [], false, 0⟩ 1 p2 c2 b h (bytes_kept hb2 k (fun _ _ _ h => h)) hc2)
  have R1 := Lib.hid (fun w' (k : Kept (fun _ => False) w w') => refParse_any w' p1 c1 a (bytes_kept hb1 k (fun _ _ _ h => h)) (by omega) hc1 hy1)
  have R2 := Lib.hid (fun w' (k : Kept (fun _ => False) w w') => refParse_any w' p2 c2 b (bytes_kept hb2 k (fun _ _ _ h => h)) (by omega) hc2 hy2)
  have e1 : Dk.new.err 0 a = 0 := by
    unfold Dk.err
    rw [if_pos (by decide), if_neg (by omega)]
    rfl
  have e2 : Dk.new.write 0 a = ⟨a, [], false, 0⟩ := by
    unfold Dk.write
    rw [if_pos (by decide), if_neg (by omega)]
    rfl
  have e3 : (⟨a, [], false, 0⟩ : Dk).err 1 b = 0 := by
    unfold Dk.err
    rw [if_pos (by decide), if_neg (by omega)]
    rfl
  have e4 : (⟨a, [], false, 0⟩ : Dk).write 1 b = ⟨a, b, false, 0⟩ := by
    unfold Dk.write
    rw [if_pos (by decide), if_neg (by omega)]
    rfl
  rw [e1, e2] at W1
  rw [e3, e4] at W2
  have P := Lib.hid hp
  have Q := Lib.hid hq
  rw [hp] at R1
  rw [hq] at R2
  generalize hm1 : a.length = m1 at *
  generalize hm2 : b.length = m2 at *
  clear hb1 hb2 hy1 hy2 hc1 hc2 e1 e2 e3 e4 h1 h2 hp hq hm1 hm2
  go_enter Try.func5, Try.ntmps5
  go_wp2_with fail
  refine (known_any w).mono ?_
  rintro e w1 ⟨rfl, k1⟩
  have K1 := Lib.hid k1
  clear k1
  go_wp2_with fail
  refine (dnew_any w1).mono ?_
  rintro e w2 ⟨rfl, g2, k2⟩
  obtain ⟨B, hB⟩ : ∃ B, w1.heap.size = B := ⟨_, rfl⟩
  rw [hB] at g2 ⊢
  have HB := Lib.hid (show w.heap.size ≤ B by rw [← hB]; exact K1.out.size)
  have G2 := Lib.hid g2
  have K2 := Lib.hid (K1.out.trans k2 (fun _ _ h => h))
  clear hB g2 k2 K1
  go_wp2_with fail
  refine (W1.out w2 B G2.out K2.out).mono ?_
  rintro e w3 ⟨rfl, g3, k3⟩
  have G3 := Lib.hid g3
  have K3 := Lib.hid (K2.out.up k3 HB.out)
  clear g3 k3 G2 K2 W1
  go_wp2_with fail
  refine (W2.out w3 B G3.out K3.out).mono ?_
  rintro e w4 ⟨rfl, g4, k4⟩
  have G4 := Lib.hid g4
  have K4 := Lib.hid (K3.out.up k4 HB.out)
  clear g4 k4 G3 K3 W2
  go_wp2_with fail
  refine (R1.out w4 K4.out).mono ?_
  rintro e w5 ⟨⟨ao5, c5, rfl, l5⟩, b5⟩
  have G5 := Lib.hid (G4.out.below b5)
  have K5 := Lib.hid (K4.out.upB b5)
  have L5 := Lib.hid (show Lie w5 ao5 (parB a) from ⟨bytes_belowS l5.bytes b5, l5.none⟩)
  clear l5 b5 G4 K4 R1
  go_wp2_with fail
  refine (R2.out w5 K5.out).mono ?_
  rintro e w6 ⟨⟨ao6, c6, rfl, l6⟩, b6⟩
  have G6 := Lib.hid (G5.out.below b6)
  have K6 := Lib.hid (K5.out.upB b6)
  have L6 := Lib.hid (show Lie w6 ao6 (parB b) from ⟨bytes_belowS l6.bytes b6, l6.none⟩)
  have L56 := Lib.hid (show Lie w6 ao5 (parB a) from ⟨bytes_belowS L5.out.bytes b6, L5.out.none⟩)
  clear l6 b6 G5 K5 R2 L5
  go_wp2_with fail
  have L := load_any w6 B _ G6.out BY.out
  rw [IM.out] at L
  refine L.mono ?_
  clear L
  rintro e w7 ⟨ao7, c7, rfl, t7, b7⟩
  have G7 := Lib.hid (G6.out.below b7)
  have K7 := Lib.hid (K6.out.upB b7)
  rw [if_pos rfl]
  have hs7 := str_bytes (c := c7) t7.bytes (fun h => (t7.none h).1)
  have hsx := str_bytes (c := c6) (bytes_belowS L6.out.bytes b7) L6.out.none
  clear t7 b7 G6 K6
  go_wp2_with fail
  have TT := turn_any w7 B _ G7.out BY.out
  rw [IM.out] at TT
  refine TT.mono ?_
  clear TT
  rintro e w8 ⟨rfl, b8⟩
  have K8 := Lib.hid (K7.out.upB b8)
  clear b8 hs7 hsx
  go_wp2_with fail
  go_ret
  exact ⟨rfl, K8.out.below (Nat.le_refl _) (fun _ h => h.elim)⟩

set_option maxHeartbeats 8000000 in
theorem coreD (p1 : Option Addr) (a : List Int) (c1 : Nat) (p2 : Option Addr) (b : List Int) (c2 : Nat) (w : World) (hb1 : Bytes w p1 a) (hy1 : ∀ y ∈ a, isByte y) (hc1 : a.length ≤ c1)
    (hb2 : Bytes w p2 b) (hy2 : ∀ y ∈ b, isByte y) (hc2 : b.length ≤ c2) (h1 : a.length ≤ 400) (h2 : b.length ≤ 400) (hp : isFr a = true) (hq : isFr b = true) (ht : ¬ parT a < parT b) :
    Calls Try.prog 5 #[.slice p1 a.length c1, .slice p2 b.length c2] w fun e w' => e = .returned (.bool true) ∧ Below w.heap.size w w' := by
  have d1 : decide (400 < (a.length : Int)) = false := by rw [decide_eq_false_iff_not]; omega
  have d2 : decide (400 < (b.length : Int)) = false := by rw [decide_eq_false_iff_not]; omega
  have IM := Lib.hid (show image ⟨a, b, false, 0⟩ = ⟨0, parT a, parB a, true⟩ by
    rw [image_eq]
    show (im1 a).step 1 b = _
    unfold im1
    rw [hp, if_pos rfl, step_cond, hq]
    exact if_neg (by rw [decide_eq_false ht]; simp))
  have ht2 := decide_eq_false ht
  clear ht
  have BY := Lib.hid (show (⟨a, b, false, 0⟩ : Dk).By from ⟨hy1, hy2⟩)
  have B1 := Lib.hid hb1
  have B2 := Lib.hid hb2
  have W1 := Lib.hid (fun w' B (h : At w' B Dk.new) (k : Kept (fun _ => False) w w') => write_any w' B Dk.new 0 p1 c1 a h (bytes_kept hb1 k (fun _ _ _ h => h)) hc1)
  have W2 := Lib.hid (fun w' B (h : At w' B ⟨a, [], false, 0⟩) (k : Kept (fun _ => False) w w') => write_any w' B ⟨a, [], false, 0⟩ 1 p2 c2 b h (bytes_kept hb2 k (fun _ _ _ h => h)) hc2)
  have R1 := Lib.hid (fun w' (k : Kept (fun _ => False) w w') => refParse_any w' p1 c1 a (bytes_kept hb1 k (fun _ _ _ h => h)) (by omega) hc1 hy1)
  have R2 := Lib.hid (fun w' (k : Kept (fun _ => False) w w') => refParse_any w' p2 c2 b (bytes_kept hb2 k (fun _ _ _ h => h)) (by omega) hc2 hy2)
  have e1 : Dk.new.err 0 a = 0 := by
    unfold Dk.err
    rw [if_pos (by decide), if_neg (by omega)]
    rfl
  have e2 : Dk.new.write 0 a = ⟨a, [], false, 0⟩ := by
    unfold Dk.write
    rw [if_pos (by decide), if_neg (by omega)]
    rfl
  have e3 : (⟨a, [], false, 0⟩ : Dk).err 1 b = 0 := by
    unfold Dk.err
    rw [if_pos (by decide), if_neg (by omega)]
    rfl
  have e4 : (⟨a, [], false, 0⟩ : Dk).write 1 b = ⟨a, b, false, 0⟩ := by
    unfold Dk.write
    rw [if_pos (by decide), if_neg (by omega)]
    rfl
  rw [e1, e2] at W1
  rw [e3, e4] at W2
  have P := Lib.hid hp
  have Q := Lib.hid hq
  rw [hp] at R1
  rw [hq] at R2
  generalize hm1 : a.length = m1 at *
  generalize hm2 : b.length = m2 at *
  clear hb1 hb2 hy1 hy2 hc1 hc2 e1 e2 e3 e4 h1 h2 hp hq hm1 hm2
  go_enter Try.func5, Try.ntmps5
  go_wp2_with fail
  refine (known_any w).mono ?_
  rintro e w1 ⟨rfl, k1⟩
  have K1 := Lib.hid k1
  clear k1
  go_wp2_with fail
  refine (dnew_any w1).mono ?_
  rintro e w2 ⟨rfl, g2, k2⟩
  obtain ⟨B, hB⟩ : ∃ B, w1.heap.size = B := ⟨_, rfl⟩
  rw [hB] at g2 ⊢
  have HB := Lib.hid (show w.heap.size ≤ B by rw [← hB]; exact K1.out.size)
  have G2 := Lib.hid g2
  have K2 := Lib.hid (K1.out.trans k2 (fun _ _ h => h))
  clear hB g2 k2 K1
  go_wp2_with fail
  refine (W1.out w2 B G2.out K2.out).mono ?_
  rintro e w3 ⟨rfl, g3, k3⟩
  have G3 := Lib.hid g3
  have K3 := Lib.hid (K2.out.up k3 HB.out)
  clear g3 k3 G2 K2 W1
  go_wp2_with fail
  refine (W2.out w3 B G3.out K3.out).mono ?_
  rintro e w4 ⟨rfl, g4, k4⟩
  have G4 := Lib.hid g4
  have K4 := Lib.hid (K3.out.up k4 HB.out)
  clear g4 k4 G3 K3 W2
  go_wp2_with fail
  refine (R1.out w4 K4.out).mono ?_
  rintro e w5 ⟨⟨ao5, c5, rfl, l5⟩, b5⟩
  have G5 := Lib.hid (G4.out.below b5)
  have K5 := Lib.hid (K4.out.upB b5)
  have L5 := Lib.hid (show Lie w5 ao5 (parB a) from ⟨bytes_belowS l5.bytes b5, l5.none⟩)
  clear l5 b5 G4 K4 R1
  go_wp2_with fail
  refine (R2.out w5 K5.out).mono ?_
  rintro e w6 ⟨⟨ao6, c6, rfl, l6⟩, b6⟩
  have G6 := Lib.hid (G5.out.below b6)
  have K6 := Lib.hid (K5.out.upB b6)
  have L6 := Lib.hid (show Lie w6 ao6 (parB b) from ⟨bytes_belowS l6.bytes b6, l6.none⟩)
  have L56 := Lib.hid (show Lie w6 ao5 (parB a) from ⟨bytes_belowS L5.out.bytes b6, L5.out.none⟩)
  clear l6 b6 G5 K5 R2 L5
  go_wp2_with fail
  have L := load_any w6 B _ G6.out BY.out
  rw [IM.out] at L
  refine L.mono ?_
  clear L
  rintro e w7 ⟨ao7, c7, rfl, t7, b7⟩
  have G7 := Lib.hid (G6.out.below b7)
  have K7 := Lib.hid (K6.out.upB b7)
  rw [if_pos rfl]
  have hs7 := str_bytes (c := c7) t7.bytes (fun h => (t7.none h).1)
  have hsx := str_bytes (c := c5) (bytes_belowS L56.out.bytes b7) L56.out.none
  clear t7 b7 G6 K6
  go_wp2_with fail
  have TT := turn_any w7 B _ G7.out BY.out
  rw [IM.out] at TT
  refine TT.mono ?_
  clear TT
  rintro e w8 ⟨rfl, b8⟩
  have K8 := Lib.hid (K7.out.upB b8)
  clear b8 hs7 hsx
  go_wp2_with fail
  go_ret
  exact ⟨rfl, K8.out.below (Nat.le_refl _) (fun _ h => h.elim)⟩

theorem walk (p1 : Option Addr) (a : List Int) (c1 : Nat) (p2 : Option Addr) (b : List Int) (c2 : Nat) (w : World) (hb1 : Bytes w p1 a) (hy1 : ∀ y ∈ a, isByte y) (hc1 : a.length ≤ c1) (_ : p1 = none → c1 = 0)
    (hb2 : Bytes w p2 b) (hy2 : ∀ y ∈ b, isByte y) (hc2 : b.length ≤ c2) (_ : p2 = none → c2 = 0) :
    Calls Try.prog 5 #[.slice p1 a.length c1, .slice p2 b.length c2] w fun e w' => e = .returned (.bool true) ∧ Below w.heap.size w w' := by
  by_cases h1 : a.length ≤ 400
  · by_cases h2 : b.length ≤ 400
    · cases hp : isFr a with
      | true =>
        cases hq : isFr b with
        | true =>
          by_cases ht : parT a < parT b
          · exact coreC p1 a c1 p2 b c2 w hb1 hy1 hc1 hb2 hy2 hc2 h1 h2 hp hq ht
          · exact coreD p1 a c1 p2 b c2 w hb1 hy1 hc1 hb2 hy2 hc2 h1 h2 hp hq ht
        | false => exact coreA p1 a c1 p2 b c2 w hb1 hy1 hc1 hb2 hy2 hc2 h1 h2 hp hq
      | false =>
        cases hq : isFr b with
        | true => exact coreB p1 a c1 p2 b c2 w hb1 hy1 hc1 hb2 hy2 hc2 h1 h2 hp hq
        | false => exact coreN p1 a c1 p2 b c2 w hb1 hy1 hc1 hb2 hy2 hc2 h1 h2 hp hq
    · exact long1 p1 a.length c1 p2 b.length c2 w h1 (by omega)
  · exact long0 p1 a.length c1 p2 b.length c2 w (by omega)


theorem lifted (os : Os) (started : os.Started) (H : Type) (enc : TypeId × Value → H) :
    ReturnsInHanded {} Try.checked os 5 .any (Rows.imageAreasSpec.pre6 enc Try.prog Try.f5 Rows.imageAreasRow.domain false) (Rows.imageAreasSpec.post enc Try.prog Try.f5 false true false false) := by
  refine returnsInHanded_of_change (C := Try.checked) own started (by kernel_rfl) Try.func5
    (ChangeSpec.witness6 (enc := enc) (C := Try.checked) false ⟨#[], #[.slice none 0 0, .slice none 0 0], []⟩ 8 (by kernel_rfl) (by kernel_rfl) (by kernel_rfl) (by kernel_rfl)) ?_
  intro W base args ds gs before hval0 hW hcnd _
  have hval : ∀ (j : Nat) t v, Try.f5.params[j]? = some t → args[j]? = some v → Value.okWide Try.prog W .any base t v := hval0
  have hW' := hW
  obtain ⟨p, q, hA0, hV, rfl, hfz, hnd⟩ := hW
  have hA : DataW.TrodAll enc Try.prog W 0 (fun _ => true) true Try.f5.params.toList args.toList ds p := hA0
  rw [Try.params5] at hA hval
  obtain ⟨v0, vs0, d0, ds0, p0, q0, hargs, rfl, rfl, h0, r0⟩ := trodAll_cons hA
  obtain ⟨v1, vs1, d1, ds1, p1, q1, rfl, rfl, rfl, h1, r1⟩ := trodAll_cons r0
  obtain ⟨rfl, rfl, rfl⟩ := trodAll_nil r1
  obtain rfl : args = #[v0, v1] := by cases args; simp_all
  obtain ⟨rfl, rfl⟩ := trodVars_none hV
  have k0 := h0
  have lt0 : ∀ x ∈ p0, x.block < W.heap.size := by obtain ⟨m, hm⟩ := k0; exact DataW.trod_lt m _ _ _ hm
  obtain ⟨ax0, ln0, cx0, rfl⟩ := okWide_slice Try.underlying23 (hval 0 23 v0 rfl rfl)
  obtain ⟨a0, l0, c0, hv0, hb0, hby0, hcap0, hno0⟩ : ∃ (ao : Option Addr) (l : List Int) (cap : Nat), Value.slice ax0 ln0 cx0 = .slice ao l.length cap ∧ Bytes W ao l ∧ (∀ y ∈ l, isByte y) ∧ l.length ≤ cap ∧ (ao = none → cap = 0) := by
    obtain ⟨fuel, hf⟩ := h0
    exact open_bytes (by simpa [Value.cells] using hf)
  injection hv0 with hv0a hv0b hv0c
  subst hv0a hv0b hv0c
  have k1 := h1
  have lt1 : ∀ x ∈ p1, x.block < W.heap.size := by obtain ⟨m, hm⟩ := k1; exact DataW.trod_lt m _ _ _ hm
  obtain ⟨ax1, ln1, cx1, rfl⟩ := okWide_slice Try.underlying23 (hval 1 23 v1 rfl rfl)
  obtain ⟨a1, l1, c1, hv1, hb1, hby1, hcap1, hno1⟩ : ∃ (ao : Option Addr) (l : List Int) (cap : Nat), Value.slice ax1 ln1 cx1 = .slice ao l.length cap ∧ Bytes W ao l ∧ (∀ y ∈ l, isByte y) ∧ l.length ≤ cap ∧ (ao = none → cap = 0) := by
    obtain ⟨fuel, hf⟩ := h1
    exact open_bytes (by simpa [Value.cells] using hf)
  injection hv1 with hv1a hv1b hv1c
  subst hv1a hv1b hv1c
  clear hA0 hval0
  refine (walk ax0 l0 cx0 ax1 l1 cx1 W hb0 hby0 hcap0 hno0 hb1 hby1 hcap1 hno1).mono fun e W' ⟨he, bel⟩ => ?_
  subst he
  exact ⟨_, rfl, _, _, _, [], _, [], hW', trodAll_mk1 (shut_bool Try.underlying4 _), (trodAll_cons_mk (Below.trod laidOut (by kernel_rfl) (of_decide_eq_true (by kernel_rfl)) k0 bel lt0) (trodAll_cons_mk (Below.trod laidOut (by kernel_rfl) (of_decide_eq_true (by kernel_rfl)) k1 bel lt1) trodAll_mk0)), rfl, bel.frame _, fun h => by cases h⟩

theorem over : Rows.imageAreasRow.holds Try.pinned (OpenSpec.ofChange Rows.imageAreasSpec) :=
  OpenClaim.holds_of_wide 5 Try.f5 rfl rfl rfl rfl rfl rfl rfl ⟨rfl, rfl, rfl, rfl, rfl⟩ rfl rfl rfl rfl rfl (by kernel_rfl) Try.func5 (by kernel_rfl)
    (of_decide_eq_true (by kernel_rfl)) (by unfold Func.isWrapper; first | (rw [if_pos (by decide +kernel)]; kernel_rfl) | (rw [if_neg (by decide +kernel)]; exact ⟨rfl, rfl⟩))
    (fun os started H enc _ => lifted os started H enc)

theorem proved : Rows.ImageAreasSaid := over
#print axioms proved
end Go.Proofs.Ytibbomeeoobgkaa.imageAreas
