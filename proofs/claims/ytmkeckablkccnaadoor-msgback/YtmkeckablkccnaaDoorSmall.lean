/- The small questions of package msg; what a kind's messages carry. -/
import Derived.Test.YtmkeckablkccnaaDoorText
namespace Go.Proofs.YtmkeckablkccnaaDoor
open Go.RowKit
set_option maxRecDepth 100000

def isEp (x : Int) : Bool := decide (1 ≤ x) && decide (x ≤ 200)
def isVw (x : Int) : Bool := decide (x ≤ 1048576)
def isNv (x : Int) : Bool := decide (1 ≤ x) && decide (x ≤ 1048576)
def isSq (x : Int) : Bool := decide (x ≤ 1073741824)
def isPl (x : Int) : Bool := decide (1 ≤ x) && decide (x ≤ 1073741824)
def isPh (x : Int) : Bool := decide (2 ≤ x) && decide (x ≤ 4)
def isRp (x : Int) : Bool := decide (x < 4)

theorem isReplica_any (x : Int) (w : World) : Calls Tryd.prog 78 #[.int .u8 x] w fun e w' => e = .returned (.bool (isRp x)) ∧ w' = w := by
  unfold isRp
  by_cases h0 : x < 4 <;>
  · go_enter Tryd.func78, Tryd.ntmps78
    go_wp2
    go_ret
    refine ⟨?_, rfl⟩
    simp_all

theorem isEpoch_any (x : Int) (w : World) : Calls Tryd.prog 79 #[.int .u8 x] w fun e w' => e = .returned (.bool (isEp x)) ∧ w' = w := by
  unfold isEp
  by_cases h0 : 1 ≤ x <;> by_cases h1 : x ≤ 200 <;>
  · go_enter Tryd.func79, Tryd.ntmps79
    go_wp2
    go_ret
    refine ⟨?_, rfl⟩
    simp_all

theorem isView_any (x : Int) (w : World) : Calls Tryd.prog 80 #[.int .u32 x] w fun e w' => e = .returned (.bool (isVw x)) ∧ w' = w := by
  unfold isVw
  by_cases h0 : x ≤ 1048576 <;>
  · go_enter Tryd.func80, Tryd.ntmps80
    go_wp2
    go_ret
    refine ⟨?_, rfl⟩
    simp_all

theorem isNewView_any (x : Int) (w : World) : Calls Tryd.prog 81 #[.int .u32 x] w fun e w' => e = .returned (.bool (isNv x)) ∧ w' = w := by
  unfold isNv
  by_cases h0 : 1 ≤ x <;> by_cases h1 : x ≤ 1048576 <;>
  · go_enter Tryd.func81, Tryd.ntmps81
    go_wp2
    go_ret
    refine ⟨?_, rfl⟩
    simp_all

theorem isSeq_any (x : Int) (w : World) : Calls Tryd.prog 82 #[.int .u32 x] w fun e w' => e = .returned (.bool (isSq x)) ∧ w' = w := by
  unfold isSq
  by_cases h0 : x ≤ 1073741824 <;>
  · go_enter Tryd.func82, Tryd.ntmps82
    go_wp2
    go_ret
    refine ⟨?_, rfl⟩
    simp_all

theorem isPlace_any (x : Int) (w : World) : Calls Tryd.prog 84 #[.int .u32 x] w fun e w' => e = .returned (.bool (isPl x)) ∧ w' = w := by
  unfold isPl
  by_cases h0 : 1 ≤ x <;> by_cases h1 : x ≤ 1073741824 <;>
  · go_enter Tryd.func84, Tryd.ntmps84
    go_wp2
    go_ret
    refine ⟨?_, rfl⟩
    simp_all

theorem isPhase_any (x : Int) (w : World) : Calls Tryd.prog 83 #[.int .u8 x] w fun e w' => e = .returned (.bool (isPh x)) ∧ w' = w := by
  unfold isPh
  by_cases h0 : 2 ≤ x <;> by_cases h1 : x ≤ 4 <;>
  · go_enter Tryd.func83, Tryd.ntmps83
    go_wp2
    go_ret
    refine ⟨?_, rfl⟩
    simp_all

def partsOf (k : Int) : List Int :=
  if k = 1 then [2] else if k = 2 then [0, 1, 2] else if k = 3 then [0, 1, 2] else if k = 4 then [0, 1, 2] else if k = 5 then [1, 3] else if k = 6 then [7] else if k = 7 then [0, 8] else if k = 8 then [4] else if k = 9 then [4] else if k = 10 then [4, 1] else if k = 11 then [1, 5] else if k = 12 then [1, 9] else if k = 13 then [1, 5, 10] else if k = 14 then [0, 2, 6] else []

theorem parts_any (k : Int) (w : World) : Calls Tryd.prog 32 #[.int .u8 k] w fun e w' => ∃ ao, e = .returned (.slice ao (partsOf k).length (partsOf k).length) ∧ Bytes w' ao (partsOf k) ∧ (ao = none → partsOf k = []) ∧ Below w.heap.size w w' := by
  by_cases h1 : k = 1
  · subst h1
    go_enter Tryd.func32, Tryd.ntmps32
    go_wp2
    go_ret
    refine ⟨some ⟨w.heap.size, 0, none⟩, rfl, bytes_new w [2] 75, (fun h => by cases h), (Below.refl _ _).alloc (Nat.le_refl _) _⟩
  by_cases h2 : k = 2
  · subst h2
    go_enter Tryd.func32, Tryd.ntmps32
    go_wp2
    go_ret
    refine ⟨some ⟨w.heap.size, 0, none⟩, rfl, bytes_new w [0, 1, 2] 75, (fun h => by cases h), (Below.refl _ _).alloc (Nat.le_refl _) _⟩
  by_cases h3 : k = 3
  · subst h3
    go_enter Tryd.func32, Tryd.ntmps32
    go_wp2
    go_ret
    refine ⟨some ⟨w.heap.size, 0, none⟩, rfl, bytes_new w [0, 1, 2] 75, (fun h => by cases h), (Below.refl _ _).alloc (Nat.le_refl _) _⟩
  by_cases h4 : k = 4
  · subst h4
    go_enter Tryd.func32, Tryd.ntmps32
    go_wp2
    go_ret
    refine ⟨some ⟨w.heap.size, 0, none⟩, rfl, bytes_new w [0, 1, 2] 75, (fun h => by cases h), (Below.refl _ _).alloc (Nat.le_refl _) _⟩
  by_cases h5 : k = 5
  · subst h5
    go_enter Tryd.func32, Tryd.ntmps32
    go_wp2
    go_ret
    refine ⟨some ⟨w.heap.size, 0, none⟩, rfl, bytes_new w [1, 3] 75, (fun h => by cases h), (Below.refl _ _).alloc (Nat.le_refl _) _⟩
  by_cases h6 : k = 6
  · subst h6
    go_enter Tryd.func32, Tryd.ntmps32
    go_wp2
    go_ret
    refine ⟨some ⟨w.heap.size, 0, none⟩, rfl, bytes_new w [7] 75, (fun h => by cases h), (Below.refl _ _).alloc (Nat.le_refl _) _⟩
  by_cases h7 : k = 7
  · subst h7
    go_enter Tryd.func32, Tryd.ntmps32
    go_wp2
    go_ret
    refine ⟨some ⟨w.heap.size, 0, none⟩, rfl, bytes_new w [0, 8] 75, (fun h => by cases h), (Below.refl _ _).alloc (Nat.le_refl _) _⟩
  by_cases h8 : k = 8
  · subst h8
    go_enter Tryd.func32, Tryd.ntmps32
    go_wp2
    go_ret
    refine ⟨some ⟨w.heap.size, 0, none⟩, rfl, bytes_new w [4] 75, (fun h => by cases h), (Below.refl _ _).alloc (Nat.le_refl _) _⟩
  by_cases h9 : k = 9
  · subst h9
    go_enter Tryd.func32, Tryd.ntmps32
    go_wp2
    go_ret
    refine ⟨some ⟨w.heap.size, 0, none⟩, rfl, bytes_new w [4] 75, (fun h => by cases h), (Below.refl _ _).alloc (Nat.le_refl _) _⟩
  by_cases h10 : k = 10
  · subst h10
    go_enter Tryd.func32, Tryd.ntmps32
    go_wp2
    go_ret
    refine ⟨some ⟨w.heap.size, 0, none⟩, rfl, bytes_new w [4, 1] 75, (fun h => by cases h), (Below.refl _ _).alloc (Nat.le_refl _) _⟩
  by_cases h11 : k = 11
  · subst h11
    go_enter Tryd.func32, Tryd.ntmps32
    go_wp2
    go_ret
    refine ⟨some ⟨w.heap.size, 0, none⟩, rfl, bytes_new w [1, 5] 75, (fun h => by cases h), (Below.refl _ _).alloc (Nat.le_refl _) _⟩
  by_cases h12 : k = 12
  · subst h12
    go_enter Tryd.func32, Tryd.ntmps32
    go_wp2
    go_ret
    refine ⟨some ⟨w.heap.size, 0, none⟩, rfl, bytes_new w [1, 9] 75, (fun h => by cases h), (Below.refl _ _).alloc (Nat.le_refl _) _⟩
  by_cases h13 : k = 13
  · subst h13
    go_enter Tryd.func32, Tryd.ntmps32
    go_wp2
    go_ret
    refine ⟨some ⟨w.heap.size, 0, none⟩, rfl, bytes_new w [1, 5, 10] 75, (fun h => by cases h), (Below.refl _ _).alloc (Nat.le_refl _) _⟩
  by_cases h14 : k = 14
  · subst h14
    go_enter Tryd.func32, Tryd.ntmps32
    go_wp2
    go_ret
    refine ⟨some ⟨w.heap.size, 0, none⟩, rfl, bytes_new w [0, 2, 6] 75, (fun h => by cases h), (Below.refl _ _).alloc (Nat.le_refl _) _⟩
  · have e0 : partsOf k = [] := by unfold partsOf; simp [h1, h2, h3, h4, h5, h6, h7, h8, h9, h10, h11, h12, h13, h14]
    rw [e0]
    go_enter Tryd.func32, Tryd.ntmps32
    go_wp2
    go_ret
    exact ⟨none, rfl, (fun i hi => by simp at hi), (by simp), Below.refl _ _⟩
end Go.Proofs.YtmkeckablkccnaaDoor
