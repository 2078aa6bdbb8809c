/- The law's known answers: they hold, and leave what was there as it was. -/
import Derived.Test.YteognfhlpmpckaaWrite
import Derived.Deep.RegionHeld3
import Derived.Lib.SlBytesConst
import Derived.Deep.RegionWith
namespace Go.Proofs.Yteognfhlpmpckaa
open Go.RowKit
set_option maxRecDepth 100000

theorem Kept.up {B : Nat} {a b c : World} (h : Kept (fun _ => False) a b) (k : Kept (fun k => k = B) b c) (hB : a.heap.size ≤ B) : Kept (fun _ => False) a c :=
  ⟨k.os.trans h.os, k.tape.trans h.tape, k.output.trans h.output, Nat.le_trans h.size k.size, fun i hi _ => (k.block i (Nat.lt_of_lt_of_le hi h.size) (by omega)).trans (h.block i hi (fun h => h))⟩

theorem Kept.upB {a b c : World} (h : Kept (fun _ => False) a b) (k : Below b.heap.size b c) : Kept (fun _ => False) a c :=
  h.trans (Kept.ofBelow (S := fun _ => False) k) (fun _ _ h => h)

def dk1 : Dk := ⟨[97], [], false, 1⟩
def ab : List Int := [97, 98]
theorem bytes_ab {w : World} {g : Nat} {T : TypeId} {fr : Nat × Nat} (h : w.heap[g]? = some (.cells #[.int .u8 97, .int .u8 98] T fr)) : Bytes w (some ⟨g, 0, none⟩) ab := by
  intro i hi
  refine ⟨_, rfl, ?_⟩
  have e : (⟨g, 0, none⟩ : Addr).add i = ⟨g, i, none⟩ := by unfold Addr.add; split <;> simp_all
  rw [e]
  have hi2 : i < 2 := hi
  rcases i with _ | _ | i
  · simp [World.cell?, h, ab]
  · simp [World.cell?, h, ab]
  · omega

/-- a row of n zeros is made -/
theorem make_any (w : World) (n : Nat) (hn : n ≤ 1000000) : ∃ w1, (Instr.makeSlice 27 (.int .i64 (n : Int)) (.int .i64 (n : Int))).run Try.prog w = .ok (.slice (some ⟨w.heap.size, 0, none⟩) n n) w1 ∧ Bytes w1 (some ⟨w.heap.size, 0, none⟩) (List.replicate n 0) ∧ Kept (fun _ => False) w w1 := by
  obtain ⟨i0, hi0, hz0, hz1, hz2⟩ := info_parts byte_info
  obtain ⟨w1, hmk, ho, hgr⟩ := run_make_full (P := Try.prog) w 0 27 5 i0 _ 1 Try.underlying27 hi0 hz0 hz1 .i64 .i64 n (by rw [hz2]; omega) (by simp only [maxLen]; omega) (Nat.zero_le _)
  have e : (madeCells (Value.int .u8 0).cells (n * 1)).toList = vals (List.replicate n 0) := by
    rw [Nat.mul_one, show (Value.int IntKind.u8 0).cells = #[Value.int .u8 0] from rfl, toList_madeCells_one]
    simp [vals]
  rw [e] at ho
  exact ⟨w1, hmk, own_bytes ho, (Kept.ofGrown hgr).mono (fun _ _ h => by cases h)⟩

set_option maxHeartbeats 4000000 in
theorem known_any (w : World) : Calls Try.prog 6 #[] w fun e w' => e = .returned (.bool true) ∧ Kept (fun _ => False) w w' := by
  go_enter Try.func6, Try.ntmps6
  go_wp2_with fail
  refine (new_any w).mono ?_
  rintro e w1 ⟨rfl, h1, k1⟩
  obtain ⟨B, hB⟩ : ∃ B, w.heap.size = B := ⟨_, rfl⟩
  rw [hB] at h1 ⊢
  have HB := Lib.hid hB
  have H1 := Lib.hid h1
  have K1 := Lib.hid k1
  clear hB h1 k1
  go_wp2_with fail
  refine (arm_any _ B _ 1 H1.out (by decide)).mono ?_
  rintro e w2 ⟨rfl, h2, k2⟩
  have H2 := Lib.hid h2
  have K2 := Lib.hid (K1.out.up k2 (by have := HB.out; omega))
  clear h2 k2 H1 K1
  go_wp2_with fail
  refine (armed_any _ B _ H2.out).mono ?_
  rintro e w' ⟨rfl, rfl⟩
  have kc := Lib.run_convert_bytes_const (P := Try.prog) w2 27 5 #[.int .u8 97, .int .u8 98] 2 2 Try.underlying27 Try.underlying5
  have hal : w2.heap.size < (w2.alloc (.cells #[.int .u8 97, .int .u8 98] 5 (2, 3))).heap.size := by simp
  obtain ⟨W, hW⟩ : ∃ W, W = w2.alloc (.cells #[.int .u8 97, .int .u8 98] 5 (2, 3)) := ⟨_, rfl⟩
  have kW : Kept (fun _ => False) w2 W := by rw [hW]; exact (Kept.refl _ w2).alloc _
  have HA := Lib.hid (H2.out.kept kW (fun _ _ h => h))
  have KA := Lib.hid (K2.out.trans kW (fun _ _ h => h))
  have HX : Hid (Bytes W (some ⟨w2.heap.size, 0, none⟩) ab) := Lib.hid (bytes_ab (T := 5) (fr := (2, 3)) (by rw [hW]; exact heap_alloc_new _ _))
  have HW := Lib.hid hW
  clear hW kW hal
  go_wp2_with fail
  rw [← HW.out]
  refine (write_any W B _ 0 _ 2 ab HA.out HX.out (by decide)).mono ?_
  rintro e w3 ⟨rfl, h3, k3⟩
  have e1 : (Dk.new.arm 1).err 0 ab = 70 := by decide
  have e2 : (Dk.new.arm 1).write 0 ab = dk1 := rfl
  have e3 : (Dk.new.arm 1).armed = true := by decide
  rw [e1, e3]
  rw [e2] at h3
  have H3 := Lib.hid h3
  have K3 := Lib.hid (KA.out.up k3 (by have := HB.out; omega))
  clear h3 k3 HX HW KA H2 K2 kc e1 e2 e3 HA
  go_wp2_with fail
  refine (read_any w3 B dk1 0 H3.out).mono ?_
  rintro e w4 ⟨ao, c, rfl, t4, b4⟩
  have hs : (convert 27 9 (.slice ao 1 c)).run Try.prog w4 = .ok (.string ⟨#[97]⟩) w4 := str_bytes (l := [97]) t4.bytes (fun h => (t4.none h).1)
  have H4 := Lib.hid (H3.out.below b4)
  have K4 := Lib.hid (K3.out.upB b4)
  rw [show (dk1.area 0).length = 1 from rfl]
  clear t4 b4 H3 K3
  go_wp2_with fail
  refine (armed_any w4 B dk1 H4.out).mono ?_
  rintro e w' ⟨rfl, rfl⟩
  rw [show dk1.armed = false from rfl]
  go_wp2_with fail
  refine (write_none w4 B dk1 5 none 0 0 H4.out (by decide)).mono ?_
  rintro e w5 ⟨rfl, h5, k5⟩
  have K5 := Lib.hid (K4.out.up k5 (by have := HB.out; omega))
  clear h5 k5 K4 H4 hs
  go_wp2_with fail
  go_ret
  exact ⟨rfl, K5.out⟩
end Go.Proofs.Yteognfhlpmpckaa
