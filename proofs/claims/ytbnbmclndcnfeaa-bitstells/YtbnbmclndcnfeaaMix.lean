/- Mix, here and in the document: the sum of the eight bytes of a, then of b, the highest first. -/
import Derived.Test.YtbnbmclndcnfeaaSums
import Derived.WalkKit
import Derived.OwnWalk
import Derived.WalkSpells
import Derived.Deep.AppendLies
import Derived.Lib.Hide
namespace Go.Proofs.Ytbnbmclndcnfeaa
open Go.RowKit

/-- the byte of x that stands m places from the lowest -/
def byteAt (x : Int) (m : Nat) : Int := x / 2 ^ (8 * m) % 256
/-- the lowest m bytes of x, the highest first -/
def be (x : Int) : Nat → List Int
  | 0 => []
  | m + 1 => byteAt x m :: be x m

def mixAt (a b : Int) (k j : Nat) : Int :=
  if j < 8 then (if j < k then byteAt a (7 - j) else 0) else (if j - 8 < k then byteAt b (15 - j) else 0)

theorem mix_next (wr : World) (g : Nat) (a b : Int) (k : Nat) (hk : k < 8) (hc : ∀ j, j < 16 → wr.cell? ⟨g, j, none⟩ = some (.int .u8 (mixAt a b k j))) :
    ∀ j, j < 16 → ((wr.setCell ⟨g, k, none⟩ (.int .u8 (a / 2 ^ (56 - 8 * k) % 256))).setCell ⟨g, 8 + k, none⟩ (.int .u8 (b / 2 ^ (56 - 8 * k) % 256))).cell? ⟨g, j, none⟩ = some (.int .u8 (mixAt a b (k + 1) j)) := by
  intro j hj
  have e7 : 8 * (7 - k) = 56 - 8 * k := by omega
  have hcA := hc k (by omega)
  have hcB := hc (8 + k) (by omega)
  by_cases h1 : j = 8 + k
  · subst h1
    rw [World.cell?_setCell_same' _ _ _ (by rw [World.cell?_setCell_other _ _ _ _ (by simp <;> omega), hcB]; rfl)]
    unfold mixAt byteAt
    rw [if_neg (by omega), if_pos (by omega), show 15 - (8 + k) = 7 - k from by omega, e7]
  · rw [World.cell?_setCell_other _ _ _ _ (by simp <;> omega)]
    by_cases h2 : j = k
    · subst h2
      rw [World.cell?_setCell_same' _ _ _ (by rw [hcA]; rfl)]
      unfold mixAt byteAt
      rw [if_pos hk, if_pos (by omega), e7]
    · rw [World.cell?_setCell_other _ _ _ _ (by simp <;> omega), hc j hj]
      have e : mixAt a b k j = mixAt a b (k + 1) j := by
        unfold mixAt
        by_cases h8 : j < 8
        · rw [if_pos h8, if_pos h8]
          by_cases hjk : j < k
          · rw [if_pos hjk, if_pos (by omega)]
          · rw [if_neg hjk, if_neg (by omega)]
        · rw [if_neg h8, if_neg h8]
          by_cases hjk : j - 8 < k
          · rw [if_pos hjk, if_pos (by omega)]
          · rw [if_neg hjk, if_neg (by omega)]
      rw [e]

theorem mix_done (a b : Int) (j : Nat) (hj : j < 16) : mixAt a b 8 j = (be a 8 ++ be b 8).getD j 0 := by
  have h : j = 0 ∨ j = 1 ∨ j = 2 ∨ j = 3 ∨ j = 4 ∨ j = 5 ∨ j = 6 ∨ j = 7 ∨ j = 8 ∨ j = 9 ∨ j = 10 ∨ j = 11 ∨ j = 12 ∨ j = 13 ∨ j = 14 ∨ j = 15 := by omega
  rcases h with rfl | rfl | rfl | rfl | rfl | rfl | rfl | rfl | rfl | rfl | rfl | rfl | rfl | rfl | rfl | rfl <;> rfl

theorem mix_start (w : World) (a b : Int) (o : Obj) (ho : o = Obj.cells #[.int .u8 0, .int .u8 0, .int .u8 0, .int .u8 0, .int .u8 0, .int .u8 0, .int .u8 0, .int .u8 0, .int .u8 0, .int .u8 0, .int .u8 0, .int .u8 0, .int .u8 0, .int .u8 0, .int .u8 0, .int .u8 0] 42) :
    (∀ j, j < 16 → (w.alloc o).cell? ⟨w.heap.size, j, none⟩ = some (.int .u8 (mixAt a b 0 j))) ∧ (∀ j, (w.alloc o).frozen? ⟨w.heap.size, j, none⟩ = false) := by
  subst ho
  have hh := heap_alloc_new w (Obj.cells #[.int .u8 0, .int .u8 0, .int .u8 0, .int .u8 0, .int .u8 0, .int .u8 0, .int .u8 0, .int .u8 0, .int .u8 0, .int .u8 0, .int .u8 0, .int .u8 0, .int .u8 0, .int .u8 0, .int .u8 0, .int .u8 0] 42)
  refine ⟨fun j hj => ?_, fun j => frozen_of_row _ _ j _ _ hh⟩
  rw [cell_of_row _ _ j _ _ _ hh]
  have h : j = 0 ∨ j = 1 ∨ j = 2 ∨ j = 3 ∨ j = 4 ∨ j = 5 ∨ j = 6 ∨ j = 7 ∨ j = 8 ∨ j = 9 ∨ j = 10 ∨ j = 11 ∨ j = 12 ∨ j = 13 ∨ j = 14 ∨ j = 15 := by omega
  rcases h with rfl | rfl | rfl | rfl | rfl | rfl | rfl | rfl | rfl | rfl | rfl | rfl | rfl | rfl | rfl | rfl <;> rfl

set_option maxHeartbeats 400000 in
theorem mix_any (a b : Int) (w : World) :
    Calls Try.prog 17 #[.int .u64 a, .int .u64 b] w fun e w' => e = .returned (.int .u64 (sumI (be a 8 ++ be b 8))) ∧ Below w.heap.size w w' := by
  go_enter Try.func17, Try.ntmps17
  go_wp2_with fail
  go_loopw [8] (fun i w' => ∃ k : Nat, k ≤ 8 ∧ i = .int .i64 k ∧ (∀ j, j < 16 → w'.cell? ⟨w.heap.size, j, none⟩ = some (.int .u8 (mixAt a b k j))) ∧ (∀ j, w'.frozen? ⟨w.heap.size, j, none⟩ = false) ∧ Below w.heap.size w w') (fun i _ => 8 - (intOf i).toNat)
  case atStart =>
    obtain ⟨h1, h2⟩ := mix_start w a b _ rfl
    exact ⟨0, by omega, rfl, h1, h2, (Below.refl _ _).alloc (Nat.le_refl _) _⟩
  case round =>
    obtain ⟨k, hk, rfl, hc, hf, hbel⟩ := hrel
    have HC := Lib.hid hc
    have HF := Lib.hid hf
    have HB := Lib.hid hbel
    clear hc hf hbel
    by_cases hlt : k < 8
    · have hcA := HC.out k (by omega)
      have hcB := HC.out (8 + k) (by omega)
      have hfA := HF.out k
      have hfB := HF.out (8 + k)
      go_wp2_with fail
      refine ⟨⟨k + 1, by omega, by go_num, mix_next _ _ a b k hlt HC.out, ?_, (HB.out.setCell (Nat.le_refl _) _).setCell (Nat.le_refl _) _⟩, by simp [intOf]; omega⟩
      intro j
      simp [HF.out j]
    · obtain rfl : k = 8 := by omega
      have hbytes : Bytes wr (some ⟨w.heap.size, 0, none⟩) (be a 8 ++ be b 8) := by
        intro j hj
        have hj' : j < 16 := hj
        refine ⟨_, rfl, ?_⟩
        rw [← mix_done a b j hj', ← HC.out j hj']
        congr 1
        unfold Addr.add
        by_cases h0 : j = 0
        · subst h0; rfl
        · rw [if_neg h0, Nat.zero_add]
      have hs : Calls Try.prog 15 #[.slice (some ⟨w.heap.size, 0, none⟩) 16 16] wr fun e w' => e = .returned (.int .u64 (sumI (be a 8 ++ be b 8))) ∧ wr = w' := sum_any (some ⟨w.heap.size, 0, none⟩) (be a 8 ++ be b 8) 16 wr hbytes (by show 16 ≤ maxLen; unfold maxLen; omega)
      have HS := Lib.hid hs
      clear hs hbytes
      go_wp2_with (go_at_call 15; refine HS.out.mono ?_; rintro e w' ⟨rfl, rfl⟩)
      go_ret
      exact ⟨rfl, HB.out⟩

theorem byte_info : (Try.prog.info? 5).map (fun i => (i.zero, i.size, i.bytes)) = some (some (.int .u8 0), 1, 1) := by kernel_rfl

theorem be_length (x : Int) (m : Nat) : (be x m).length = m := by
  induction m with
  | zero => rfl
  | succ m ih => simp [be, ih]

theorem be_take (x : Int) : ∀ (m j : Nat), j < m → (be x m).take (j + 1) = (be x m).take j ++ [byteAt x (m - 1 - j)] := by
  intro m
  induction m with
  | zero => intro j h; omega
  | succ m ih =>
    intro j h
    cases j with
    | zero => simp [be]
    | succ j =>
      simp only [be, List.take_succ_cons, List.cons_append]
      rw [ih j (by omega), show m + 1 - 1 - (j + 1) = m - 1 - j from by omega]

theorem put_take (xs : List Int) (x : Int) (m j : Nat) (h : j < m) : vals (xs ++ (be x m).take j) ++ [.int .u8 (byteAt x (m - 1 - j))] = vals (xs ++ (be x m).take (j + 1)) := by
  rw [be_take x m j h]; simp [vals]

theorem new_cell (w : World) (u : Value) (t : TypeId) : ∀ (j : Nat) (u' : Value), [u][j]? = some u' → (w.alloc (.cells #[u] t)).cell? ((⟨w.heap.size, 0, none⟩ : Addr).add j) = some u' := by
  intro j u' h
  cases j with
  | zero =>
    simp at h; subst h
    show (w.alloc (.cells #[u] t)).cell? ⟨w.heap.size, 0, none⟩ = some u
    rw [cell_of_row _ _ 0 _ _ _ (heap_alloc_new w (.cells #[u] t))]; rfl
  | succ j => simp at h

set_option maxHeartbeats 400000 in
theorem put_any (v : Value) (n : Nat) (xs : List Int) (x : Int) (m base : Nat) (w : World) (hown : w.ownsRow base 5 1 v n (vals xs)) (hm : m ≤ 8) (hn : n ≤ 65536) (hbase : base ≤ w.heap.size) :
    Calls Try.prog 22 #[v, .int .u64 x, .int .i64 m] w fun e w' => ∃ v', e = .returned v' ∧ w'.ownsRow base 5 1 v' (n + m) (vals (xs ++ be x m)) ∧ Below base w w' := by
  obtain ⟨i0, hi0, hz0, hz1, hz2⟩ := info_parts byte_info
  have HO := Lib.hid hown
  have Hi := Lib.hid hi0
  have Hz0 := Lib.hid hz0
  have Hz1 := Lib.hid hz1
  have Hz2 := Lib.hid hz2
  clear hown hi0 hz0 hz1 hz2
  go_enter Try.func22, Try.ntmps22
  go_wp2_with fail
  go_loopw [0, 7] (fun u i w' => ∃ j : Nat, j ≤ m ∧ i = .int .i64 ((m : Int) - 1 - j) ∧ w'.ownsRow base 5 1 u (n + j) (vals (xs ++ (be x m).take j)) ∧ Below base w w') (fun _ i _ => (intOf i + 1).toNat)
  case atStart => exact ⟨0, by omega, by simp, by simpa using HO.out, Below.refl _ _⟩
  case round =>
    obtain ⟨j, hj, rfl, hown, hbel⟩ := hrel
    have HO1 := Lib.hid hown
    have HB := Lib.hid hbel
    clear hown hbel
    by_cases hlt : j < m
    · have hsz := HB.out.size
      have HV := Lib.hid (put_take xs x m j hlt)
      go_wp2_with (at_builtin
                   refine wpList_append_own _ rfl (.tmp 14) (.tmp 21) _ rfl base 5 i0 _ 1 1 Try.underlying25 Hi.out Hz0.out Hz1.out Hz2.out rfl (by omega) _ (n + j) _ rfl
                     (HO1.out.alloc _) ⟨wr.heap.size, 0, none⟩ 1 1 [.int .u8 (byteAt x (m - 1 - j))] rfl rfl (new_cell wr _ 5) (by simp [Value.oneCell']) (by simp only [maxLen]; omega) (by omega) (by simp; omega) ?_
                   intro v1 w1 hown1 hg1 hat1
                   rw [HV.out] at hown1
                   have hbel1 := (HB.out.alloc (by omega) (.cells #[.int .u8 (byteAt x (m - 1 - j))] 5)).grown hg1 (by simp; omega) (fun k hk => ((HO1.out.alloc (.cells #[.int .u8 (byteAt x (m - 1 - j))] 5)).lt k hk).1)
                   have HO2 := Lib.hid hown1
                   have HB2 := Lib.hid hbel1
                   clear hown1 hg1 hat1 hbel1)
      exact ⟨⟨j + 1, by omega, by go_num, HO2.out, HB2.out⟩, by simp [intOf]; omega⟩
    · obtain rfl : j = m := by omega
      go_wp2_with fail
      go_ret
      refine ⟨u0, rfl, ?_, HB.out⟩
      have h := HO1.out
      rw [List.take_of_length_le (by rw [be_length]; omega)] at h
      exact h

set_option maxHeartbeats 400000 in
theorem refMix_any (a b : Int) (w : World) :
    Calls Try.prog 18 #[.int .u64 a, .int .u64 b] w fun e w' => e = .returned (.int .u64 (sumI (be a 8 ++ be b 8))) ∧ Below w.heap.size w w' := by
  have hfirst : w.ownsRow w.heap.size 5 1 (.slice none 0 0) 0 (vals []) := ⟨by simp [vals], .inl ⟨rfl, rfl⟩⟩
  have P1 := Lib.hid (put_any (.slice none 0 0) 0 [] a 8 w.heap.size w hfirst (by omega) (by omega) (Nat.le_refl _))
  clear hfirst
  go_enter Try.func18, Try.ntmps18
  go_wp2_with fail
  refine P1.out.mono ?_
  rintro e w1 ⟨v1, rfl, hown1, hbel1⟩
  have P2 := Lib.hid (put_any v1 (0 + 8) ([] ++ be a 8) b 8 w.heap.size w1 hown1 (by omega) (by omega) hbel1.size)
  have HB1 := Lib.hid hbel1
  clear hown1 hbel1
  go_wp2_with fail
  refine P2.out.mono ?_
  rintro e w2 ⟨v2, rfl, hown2, hbel2⟩
  obtain ⟨g, c2, rfl, hbg, hlt2⟩ := hown2.form (by omega)
  have hs : Calls Try.prog 16 #[.slice (some ⟨g, 0, none⟩) (0 + 8 + 8) c2] w2 fun e w' => e = .returned (.int .u64 (sumI (be a 8 ++ be b 8))) ∧ w2 = w' :=
    refSum_any (some ⟨g, 0, none⟩) (be a 8 ++ be b 8) c2 w2 (bytes_own hown2) (by show 16 ≤ maxLen; unfold maxLen; omega)
  have HS := Lib.hid hs
  have HB := Lib.hid (HB1.out.trans hbel2)
  clear hs hown2 hbel2
  go_wp2_with fail
  refine HS.out.mono ?_
  rintro e w' ⟨rfl, rfl⟩
  go_wp2
  go_ret
  exact ⟨rfl, HB.out⟩
end Go.Proofs.Ytbnbmclndcnfeaa
