/- The law's known answers: they hold, and leave what was there as it was. -/
import Derived.Test.YtibbomeeoobgkaaDWrite
import Derived.Deep.RegionHeld3
import Derived.Lib.SlBytesConst
import Derived.Deep.RegionWith
namespace Go.Proofs.Ytibbomeeoobgkaa
open Go.RowKit
set_option maxRecDepth 100000

theorem Kept.up {B : Nat} {a b c : World} (h : Kept (fun _ => False) a b) (k : Kept (fun k => k = B) b c) (hB : a.heap.size ≤ B) : Kept (fun _ => False) a c :=
  ⟨k.os.trans h.os, k.tape.trans h.tape, k.output.trans h.output, Nat.le_trans h.size k.size, fun i hi _ => (k.block i (Nat.lt_of_lt_of_le hi h.size) (by omega)).trans (h.block i hi (fun h => h))⟩

theorem Kept.upB {a b c : World} (h : Kept (fun _ => False) a b) (k : Below b.heap.size b c) : Kept (fun _ => False) a c :=
  h.trans (Kept.ofBelow (S := fun _ => False) k) (fun _ _ h => h)

def dk1 : Dk := ⟨[97], [], false, 1⟩
def ab : List Int := [97, 98]
theorem bytes_ab {w : World} {g : Nat} {T : TypeId} {fr : Nat × Nat} (h : w.heap[g]? = some (.cells #[.int .u8 97, .int .u8 98] T fr)) : Bytes w (some ⟨g, 0, none⟩) ab := by
  intro i hi
  refine ⟨_, rfl, ?_⟩
  have e : (⟨g, 0, none⟩ : Addr).add i = ⟨g, i, none⟩ := by unfold Addr.add; split <;> simp_all
  rw [e]
  have hi2 : i < 2 := hi
  rcases i with _ | _ | i
  · simp [World.cell?, h, ab]
  · simp [World.cell?, h, ab]
  · omega

/-- a row of n zeros is made -/
theorem make_any (w : World) (n : Nat) (hn : n ≤ 1000000) : ∃ w1, (Instr.makeSlice 23 (.int .i64 (n : Int)) (.int .i64 (n : Int))).run Try.prog w = .ok (.slice (some ⟨w.heap.size, 0, none⟩) n n) w1 ∧ Bytes w1 (some ⟨w.heap.size, 0, none⟩) (List.replicate n 0) ∧ Kept (fun _ => False) w w1 := by
  obtain ⟨i0, hi0, hz0, hz1, hz2⟩ := info_parts byte_info
  obtain ⟨w1, hmk, ho, hgr⟩ := run_make_full (P := Try.prog) w 0 23 5 i0 _ 1 Try.underlying23 hi0 hz0 hz1 .i64 .i64 n (by rw [hz2]; omega) (by simp only [maxLen]; omega) (Nat.zero_le _)
  have e : (madeCells (Value.int .u8 0).cells (n * 1)).toList = vals (List.replicate n 0) := by
    rw [Nat.mul_one, show (Value.int IntKind.u8 0).cells = #[Value.int .u8 0] from rfl, toList_madeCells_one]
    simp [vals]
  rw [e] at ho
  exact ⟨w1, hmk, own_bytes ho, (Kept.ofGrown hgr).mono (fun _ _ h => by cases h)⟩

end Go.Proofs.Ytibbomeeoobgkaa
