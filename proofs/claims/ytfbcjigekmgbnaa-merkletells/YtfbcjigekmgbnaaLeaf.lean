/- Leaf, here and in the document: the sum of the page's number and its bytes. -/
import Derived.Test.YtfbcjigekmgbnaaMix
namespace Go.Proofs.Ytfbcjigekmgbnaa
open Go.RowKit
set_option maxRecDepth 100000

/-- the sum of page p's bytes -/
def leafI (p : Int) (l : List Int) : Int := sumI ([p % 256] ++ l)

theorem own_lit (w : World) (l : List Int) (n : Nat) (hn : l.length = n) (hm : n ≤ maxLen) : (w.alloc (.cells (vals l).toArray 5)).ownsRow 0 5 1 (.slice (some ⟨w.heap.size, 0, none⟩) n n) n (vals l) := by
  have hl : (vals l).length = n := by simp [vals, hn]
  refine ⟨by rw [hl, Nat.mul_one], .inr ⟨w.heap.size, n, (vals l).toArray, rfl, Nat.zero_le _, heap_alloc_new _ _, Nat.le_refl _, hm, by simp [hl], ?_⟩⟩
  rw [Nat.mul_one, List.take_of_length_le (by simp [hl])]

set_option maxHeartbeats 400000 in
theorem leaf_any (w : World) (p : Int) (ao : Option Addr) (cap : Nat) (l : List Int) (hb : Bytes w ao l) (hnone : ao = none → l = [] ∧ cap = 0) (hl : l.length ≤ 100000) :
    Calls Try.prog 19 #[.int .i64 p, .slice ao l.length cap] w fun e w' => e = .returned (.int .u64 (leafI p l)) ∧ Below w.heap.size w w' := by
  have OL := Lib.hid (own_lit w [p % 256] 1 rfl (by unfold maxLen; omega))
  have HB := Lib.hid (bytes_kept hb ((Kept.refl (fun _ => False) w).alloc (.cells (vals [p % 256]).toArray 5)) (fun _ _ _ h => h))
  have HN := Lib.hid hnone
  obtain ⟨n, hn⟩ : ∃ n, n = l.length := ⟨_, rfl⟩
  rw [← hn] at hl ⊢
  have HL := Lib.hid hn
  clear hb hnone hn
  go_enter Try.func19, Try.ntmps19
  go_wp2_with (at_builtin
               refine wpList_app _ rfl (.tmp 7) (.tmp 8) rfl (.slice (some ⟨w.heap.size, 0, none⟩) 1 1) 1 [p % 256] rfl OL.out ao n cap l rfl HL.out.symm HB.out (fun e => by obtain ⟨h1, h2⟩ := HN.out e; refine ⟨?_, h2⟩; have := HL.out; rw [h1] at this; simpa using this) (by omega) ?_
               intro ao' cap' w' ho' hk' hg'
               have hb' := own_bytes ho'
               have hl' : ([p % 256] ++ l).length = 1 + n := by rw [HL.out]; simp; omega
               have S := sum_any ao' ([p % 256] ++ l) cap' w' hb' (by rw [hl']; unfold maxLen; omega)
               rw [hl'] at S
               have S := Lib.hid S
               have hk := ((Below.refl w.heap.size w).alloc (Nat.le_refl _) (.cells (vals [p % 256]).toArray 5)).trans (hk'.below (by simp) (fun k e => by simp [Value.ownBlock] at e; omega))
               have HK := Lib.hid hk
               clear ho' hk' hg' hb' hl' hk)
  refine S.out.mono ?_
  rintro e w2 ⟨rfl, rfl⟩
  go_wp2
  go_ret
  exact ⟨rfl, HK.out⟩

set_option maxHeartbeats 400000 in
theorem refLeaf_any (w : World) (p : Int) (ao : Option Addr) (cap : Nat) (l : List Int) (hb : Bytes w ao l) (hnone : ao = none → l = [] ∧ cap = 0) (hl : l.length ≤ 100000) :
    Calls Try.prog 20 #[.int .i64 p, .slice ao l.length cap] w fun e w' => e = .returned (.int .u64 (leafI p l)) ∧ Below w.heap.size w w' := by
  have OL := Lib.hid (own_lit w [p % 256] 1 rfl (by unfold maxLen; omega))
  have HB := Lib.hid (bytes_kept hb ((Kept.refl (fun _ => False) w).alloc (.cells (vals [p % 256]).toArray 5)) (fun _ _ _ h => h))
  have HN := Lib.hid hnone
  obtain ⟨n, hn⟩ : ∃ n, n = l.length := ⟨_, rfl⟩
  rw [← hn] at hl ⊢
  have HL := Lib.hid hn
  clear hb hnone hn
  go_enter Try.func20, Try.ntmps20
  go_wp2_with (at_builtin
               refine wpList_app _ rfl (.tmp 7) (.tmp 8) rfl (.slice (some ⟨w.heap.size, 0, none⟩) 1 1) 1 [p % 256] rfl OL.out ao n cap l rfl HL.out.symm HB.out (fun e => by obtain ⟨h1, h2⟩ := HN.out e; refine ⟨?_, h2⟩; have := HL.out; rw [h1] at this; simpa using this) (by omega) ?_
               intro ao' cap' w' ho' hk' hg'
               have hb' := own_bytes ho'
               have hl' : ([p % 256] ++ l).length = 1 + n := by rw [HL.out]; simp; omega
               have S := refSum_any ao' ([p % 256] ++ l) cap' w' hb' (by rw [hl']; unfold maxLen; omega)
               rw [hl'] at S
               have S := Lib.hid S
               have hk := ((Below.refl w.heap.size w).alloc (Nat.le_refl _) (.cells (vals [p % 256]).toArray 5)).trans (hk'.below (by simp) (fun k e => by simp [Value.ownBlock] at e; omega))
               have HK := Lib.hid hk
               clear ho' hk' hg' hb' hl' hk)
  refine S.out.mono ?_
  rintro e w2 ⟨rfl, rfl⟩
  go_wp2
  go_ret
  exact ⟨rfl, HK.out⟩
end Go.Proofs.Ytfbcjigekmgbnaa
