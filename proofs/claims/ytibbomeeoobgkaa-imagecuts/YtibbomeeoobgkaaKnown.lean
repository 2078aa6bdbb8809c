/- The law's known answers: they hold, and leave what was there as it was. -/
import Derived.Test.YtibbomeeoobgkaaImg
import Derived.Lib.SlBytesConst
namespace Go.Proofs.Ytibbomeeoobgkaa
open Go.RowKit
set_option maxRecDepth 100000

theorem bytes_lit {w : World} {g : Nat} {x : Int} {T : TypeId} {fr : Nat × Nat} (h : w.heap[g]? = some (.cells #[.int .u8 x] T fr)) : Bytes w (some ⟨g, 0, none⟩) [x] := by
  intro i hi
  refine ⟨_, rfl, ?_⟩
  have e : (⟨g, 0, none⟩ : Addr).add i = ⟨g, i, none⟩ := by unfold Addr.add; split <;> simp_all
  rw [e]
  have hi2 : i < 1 := hi
  obtain rfl : i = 0 := by omega
  simp [World.cell?, h]

set_option maxHeartbeats 4000000 in
theorem known_any (w : World) : Calls Try.prog 8 #[] w fun e w' => e = .returned (.bool true) ∧ Kept (fun _ => False) w w' := by
  go_enter Try.func8, Try.ntmps8
  go_wp2_with fail
  refine (dnew_any w).mono ?_
  rintro e w1 ⟨rfl, h1, k1⟩
  obtain ⟨B, hB⟩ : ∃ B, w.heap.size = B := ⟨_, rfl⟩
  rw [hB] at h1 ⊢
  have HB := Lib.hid (Nat.le_of_eq hB)
  have H1 := Lib.hid h1
  have K1 := Lib.hid k1
  clear hB h1 k1
  go_wp2_with fail
  have L := load_any w1 B _ H1.out new_by
  rw [new_image] at L
  refine L.mono ?_
  clear L
  rintro e w2 ⟨ao2, c2, rfl, t2, b2⟩
  rw [show Im.zero.hv = false from rfl, if_neg (by simp), show Im.zero.b.length = 0 from rfl]
  have H2 := Lib.hid (H1.out.below b2)
  have K2 := Lib.hid (K1.out.upB b2)
  clear t2 b2 H1 K1
  have kc := Lib.run_convert_bytes_const (P := Try.prog) w2 23 5 #[.int .u8 97] 1 1 Try.underlying23 Try.underlying5
  have hal : w2.heap.size < (w2.alloc (.cells #[.int .u8 97] 5 (1, 2))).heap.size := by simp
  obtain ⟨W2, hW⟩ : ∃ W, W = w2.alloc (.cells #[.int .u8 97] 5 (1, 2)) := ⟨_, rfl⟩
  have kW : Kept (fun _ => False) w2 W2 := by rw [hW]; exact (Kept.refl _ w2).alloc _
  have HA := Lib.hid (H2.out.kept kW (fun _ _ h => h))
  have KA := Lib.hid (K2.out.trans kW (fun _ _ h => h))
  have HX : Hid (Bytes W2 (some ⟨w2.heap.size, 0, none⟩) [97]) := Lib.hid (bytes_lit (T := 5) (fr := (1, 2)) (by rw [hW]; exact heap_alloc_new _ _))
  have HW := Lib.hid hW
  have SV := save_any W2 B Dk.new _ 1 [97] HA.out new_by HX.out (by decide) by97 (by rw [new_image]; decide)
  rw [ka_is.1] at SV
  have SV := Lib.hid SV
  clear hW kW hal
  go_wp2_with fail
  rw [← HW.out]
  refine SV.out.mono ?_
  rintro e w3 ⟨rfl, h3, k3⟩
  have H3 := Lib.hid (show At w3 B ka from h3)
  have K3 := Lib.hid (KA.out.up k3 HB.out)
  clear h3 k3 SV HX HW KA H2 K2 kc HA
  have kc := Lib.run_convert_bytes_const (P := Try.prog) w3 23 5 #[.int .u8 98] 1 1 Try.underlying23 Try.underlying5
  have hal : w3.heap.size < (w3.alloc (.cells #[.int .u8 98] 5 (1, 2))).heap.size := by simp
  obtain ⟨W3, hW⟩ : ∃ W, W = w3.alloc (.cells #[.int .u8 98] 5 (1, 2)) := ⟨_, rfl⟩
  have kW : Kept (fun _ => False) w3 W3 := by rw [hW]; exact (Kept.refl _ w3).alloc _
  have HA := Lib.hid (H3.out.kept kW (fun _ _ h => h))
  have KA := Lib.hid (K3.out.trans kW (fun _ _ h => h))
  have HX : Hid (Bytes W3 (some ⟨w3.heap.size, 0, none⟩) [98]) := Lib.hid (bytes_lit (T := 5) (fr := (1, 2)) (by rw [hW]; exact heap_alloc_new _ _))
  have HW := Lib.hid hW
  have SV := save_any W3 B ka _ 1 [98] HA.out ka_by HX.out (by decide) by98 (by rw [ka_is.2.2]; decide)
  rw [kb_is.1] at SV
  have SV := Lib.hid SV
  clear hW kW hal
  go_wp2_with fail
  rw [← HW.out]
  refine SV.out.mono ?_
  rintro e w4 ⟨rfl, h4, k4⟩
  have H4 := Lib.hid (show At w4 B kb from h4)
  have K4 := Lib.hid (KA.out.up k4 HB.out)
  clear h4 k4 SV HX HW KA H3 K3 kc HA
  go_wp2_with fail
  have L := load_any w4 B _ H4.out kb_by
  rw [kb_is.2.2] at L
  refine L.mono ?_
  clear L
  rintro e w5 ⟨ao5, c5, rfl, t5, b5⟩
  have hs : (convert 23 9 (.slice ao5 1 c5)).run Try.prog w5 = .ok (.string ⟨#[98]⟩) w5 := str_bytes (l := [98]) t5.bytes (fun h => (t5.none h).1)
  have H5 := Lib.hid (H4.out.below b5)
  have K5 := Lib.hid (K4.out.upB b5)
  rw [if_pos rfl, show ([98] : List Int).length = 1 from rfl]
  clear t5 b5 H4 K4
  go_wp2_with fail
  have T := turn_any w5 B _ H5.out kb_by
  rw [kb_is.2.2] at T
  refine T.mono ?_
  clear T
  rintro e w6 ⟨rfl, b6⟩
  have K6 := Lib.hid (K5.out.upB b6)
  clear b6 H5 K5 hs
  go_wp2_with fail
  go_ret
  exact ⟨rfl, K6.out⟩
end Go.Proofs.Ytibbomeeoobgkaa
