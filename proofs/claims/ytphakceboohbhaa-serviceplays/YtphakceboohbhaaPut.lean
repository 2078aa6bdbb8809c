/- The document's own bytes of a number, appended to a row of the call's own. -/
import Derived.Test.YtphakceboohbhaaOwn
namespace Go.Proofs.Ytphakceboohbhaa
open Go.RowKit
set_option maxRecDepth 100000

/-- the byte of x that stands m places from the lowest -/
def byteAt (x : Int) (m : Nat) : Int := x / 2 ^ (8 * m) % 256
/-- the lowest m bytes of x, the highest first -/
def be (x : Int) : Nat → List Int
  | 0 => []
  | m + 1 => byteAt x m :: be x m

theorem be_length (x : Int) (m : Nat) : (be x m).length = m := by
  induction m with
  | zero => rfl
  | succ m ih => simp [be, ih]

theorem be_take (x : Int) : ∀ (m j : Nat), j < m → (be x m).take (j + 1) = (be x m).take j ++ [byteAt x (m - 1 - j)] := by
  intro m
  induction m with
  | zero => intro j h; omega
  | succ m ih =>
    intro j h
    cases j with
    | zero => simp [be]
    | succ j =>
      simp only [be, List.take_succ_cons, List.cons_append]
      rw [ih j (by omega), show m + 1 - 1 - (j + 1) = m - 1 - j from by omega]

/-- a row was grown in its place, or laid anew -/
def Grew (w : World) (v v' : Value) : Prop := v'.ownBlock = v.ownBlock ∨ ∃ k, v'.ownBlock = some k ∧ w.heap.size ≤ k

theorem Grew.step {w w1 : World} {v v1 v2 : Value} (h : Grew w v v1) (hk : w.heap.size ≤ w1.heap.size) (h2 : v2.ownBlock = v1.ownBlock ∨ v2.ownBlock = some w1.heap.size) : Grew w v v2 := by
  rcases h2 with e | e
  · rcases h with e1 | ⟨k, e1, hk1⟩
    · exact .inl (e.trans e1)
    · exact .inr ⟨k, e.trans e1, hk1⟩
  · exact .inr ⟨_, e, hk⟩

theorem grew_kept {w w1 w2 : World} {v v1 : Value} (h : Grew w v v1) (hk : Kept (fun k => some k = v.ownBlock) w w1) (hk2 : Kept (fun k => some k = v1.ownBlock) w1 w2) : Kept (fun k => some k = v.ownBlock) w w2 := by
  refine hk.trans hk2 (fun i hi e => ?_)
  rcases h with e1 | ⟨k, e1, hk1⟩
  · exact e.trans e1
  · rw [e1] at e; injection e with e; omega

set_option maxHeartbeats 1600000 in
theorem put1_any (ao : Option Addr) (n cap : Nat) (xs : List Int) (x : Int) (m : Nat) (w : World) (hown : w.ownsRow 0 5 1 (.slice ao n cap) n (vals xs)) (hm : m ≤ 8) (hn : n ≤ 900000) :
    Calls Try.prog 33 #[.slice ao n cap, .int .u64 x, .int .i64 m] w fun e w' => ∃ ao' c', e = .returned (.slice ao' (n + m) c') ∧ w'.ownsRow 0 5 1 (.slice ao' (n + m) c') (n + m) (vals (xs ++ be x m)) ∧ Kept (fun k => some k = (Value.slice ao n cap).ownBlock) w w' ∧ Grew w (.slice ao n cap) (.slice ao' (n + m) c') := by
  have HO := Lib.hid hown
  clear hown
  go_enter Try.func33, Try.ntmps33
  go_wp2_with fail
  go_loopw [0, 7] (fun u i w' => ∃ (j : Nat) (a : Option Addr) (c : Nat), j ≤ m ∧ i = .int .i64 ((m : Int) - 1 - j) ∧ u = .slice a (n + j) c ∧ w'.ownsRow 0 5 1 (.slice a (n + j) c) (n + j) (vals (xs ++ (be x m).take j)) ∧ Kept (fun k => some k = (Value.slice ao n cap).ownBlock) w w' ∧ Grew w (.slice ao n cap) (.slice a (n + j) c)) (fun _ i _ => (intOf i + 1).toNat)
  case atStart => exact ⟨0, ao, cap, by omega, by simp, rfl, by simpa using HO.out, Kept.refl _ _, .inl rfl⟩
  case round =>
    obtain ⟨j, a, c, hj, rfl, rfl, hown, hk, hg⟩ := hrel
    have HO1 := Lib.hid hown
    have HK := Lib.hid hk
    have HG := Lib.hid hg
    clear hown hk hg
    by_cases hlt : j < m
    · have HV := Lib.hid (be_take x m j hlt)
      go_wp2_with (at_builtin
                   refine wpList_app _ rfl (.tmp 14) (.tmp 21) rfl (.slice a (n + j) c) (n + j) _ rfl (HO1.out.alloc _) (some ⟨wr.heap.size, 0, none⟩) 1 1 [byteAt x (m - 1 - j)] rfl rfl (bytes_new wr [byteAt x (m - 1 - j)] 5) (by intro h; cases h) (by omega) ?_
                   intro ao' cap' w' ho' hk' hg'
                   have hk2 := grew_kept HG.out HK.out ((Kept.refl _ wr |>.alloc (.cells #[.int .u8 (byteAt x (m - 1 - j))] 5)).trans hk' (fun _ _ e => e))
                   have hg2 := HG.out.step (w1 := wr.alloc (.cells #[.int .u8 (byteAt x (m - 1 - j))] 5)) (by have := HK.out.size; simp; omega) hg'
                   rw [List.append_assoc, ← HV.out] at ho'
                   have HO2 := Lib.hid ho'
                   have HK2 := Lib.hid hk2
                   have HG2 := Lib.hid hg2
                   clear ho' hk' hg' hk2 hg2)
      exact ⟨⟨j + 1, ao', cap', by omega, by go_num, rfl, HO2.out, HK2.out, HG2.out⟩, by simp [intOf]; omega⟩
    · obtain rfl : j = m := by omega
      go_wp2_with fail
      go_ret
      refine ⟨a, c, rfl, ?_, HK.out, HG.out⟩
      have h := HO1.out
      rw [List.take_of_length_le (by rw [be_length]; omega)] at h
      exact h
end Go.Proofs.Ytphakceboohbhaa
