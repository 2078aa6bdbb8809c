import Derived.Test.YtmkeckablkccnaaDoorOwn
import Derived.BigQuiet
import Derived.Laws.StructEq
import Derived.Shelf.SlicesQ.Equal
namespace Go.Proofs.YtmkeckablkccnaaDoor
open Go.RowKit
set_option maxRecDepth 100000

/-- a request -/
structure Rq where
  c : Int
  t : Int
  k : Int
  y : Int
  v : Int
deriving DecidableEq

def Rq.cells (r : Rq) : List Value := [.int .u8 r.c, .int .u32 r.t, .int .u8 r.k, .int .u8 r.y, .int .u16 r.v]
def Rq.zero : Rq := ⟨0, 0, 0, 0, 0⟩
/-- P3.1 -/
def Rq.isOp (r : Rq) : Bool := decide (1 ≤ r.k) && (decide (r.k ≤ 3) && (decide (r.y < 64) && (decide (r.k ≠ 2) || decide (r.v = 0))))
def Rq.is (r : Rq) : Bool := decide (r = Rq.zero) || (decide (1 ≤ r.c) && decide (r.c ≤ 4)) && (decide (r.t ≠ 0) && r.isOp)

theorem eql27 (x y : Rq) (w : World) : (binOp .eql 27 (.agg x.cells.toArray) (.agg y.cells.toArray)).run Tryd.prog w = .ok (.bool (decide (x = y))) w := by
  have u5 := Tryd.underlying5; have a5 := Tryd.isAgg5; have z5 := Tryd.sizeOf5
  have u22 := Tryd.underlying22; have a22 := Tryd.isAgg22; have z22 := Tryd.sizeOf22
  have u23 := Tryd.underlying23; have a23 := Tryd.isAgg23; have z23 := Tryd.sizeOf23
  have u25 := Tryd.underlying25; have a25 := Tryd.isAgg25; have z25 := Tryd.sizeOf25
  have hS : Tryd.prog.underlying 27 = some (.struct (Tryd.prog.fieldsOf 27)) := by kernel_rfl
  have hp : Tryd.prog.stoodInHeld 27 = false := by kernel_rfl
  have hS5 : Tryd.prog.underlying 25 = some (.struct (Tryd.prog.fieldsOf 25)) := by kernel_rfl
  have hp5 : Tryd.prog.stoodInHeld 25 = false := by kernel_rfl
  have h25 : ∀ (xs ys : Array Value) (w : World), (Op.equalIn 9999 25 (.agg xs) (.agg ys)).run Tryd.prog w = (Op.eqFields 9998 xs ys (Tryd.prog.fieldsOf 25).toList).run Tryd.prog w := fun xs ys w => by
    rw [show (9999 : Nat) = 9998 + 1 from rfl, run_equalIn_agg w 9998 25 _ _ hS5 hp5]
  simp only [Rq.cells]
  rw [run_eql_struct, show (10000 : Nat) = 9999 + 1 from rfl, run_equalIn_agg w 9999 27 _ _ hS hp]
  simp only [Program.fieldsOf, Tryd.underlying27]
  simp only [Program.fieldsOf, Tryd.underlying25] at h25
  go_simp
  obtain ⟨x1, x2, x3, x4, x5⟩ := x
  obtain ⟨y1, y2, y3, y4, y5⟩ := y
  simp only [Rq.mk.injEq]
  by_cases h1 : x1 = y1 <;> by_cases h2 : x2 = y2 <;> by_cases h3 : x3 = y3 <;> by_cases h4 : x4 = y4 <;> by_cases h5 : x5 = y5 <;> simp [h1, h2, h3, h4, h5]

theorem guard27 : GuardAt Tryd.prog 27 (fun x : Rq => .agg x.cells.toArray) := GuardAt.agg _ (by kernel_rfl)

theorem neq27 (x y : Rq) (w : World) : (binOp .neq 27 (.agg x.cells.toArray) (.agg y.cells.toArray)).run Tryd.prog w = .ok (.bool (!decide (x = y))) w := by
  have h := eql27 x y w
  simp only [binOp] at h ⊢
  generalize Op.equal 27 (Value.agg x.cells.toArray) (Value.agg y.cells.toArray) = m at h ⊢
  simp only [Sem.run_bind] at h ⊢
  cases hm : m.run Tryd.prog w with
  | ok b w1 => rw [hm] at h; simp at h ⊢; obtain ⟨h1, h2⟩ := h; subst h1; subst h2; simp
  | _ => rw [hm] at h; simp at h

theorem isClient_any (c : Int) (w : World) : Calls Tryd.prog 128 #[.int .u8 c] w fun e w' => e = .returned (.bool (decide (1 ≤ c) && decide (c ≤ 4))) ∧ w' = w := by
  by_cases h1 : 1 ≤ c <;> by_cases h2 : c ≤ 4 <;>
  · go_enter Tryd.func128, Tryd.ntmps128
    go_wp2
    go_ret
    refine ⟨?_, rfl⟩
    simp_all

theorem isOp_any (r : Rq) (w : World) : Calls Tryd.prog 129 #[.agg #[.int .u8 r.k, .int .u8 r.y, .int .u16 r.v]] w fun e w' => e = .returned (.bool r.isOp) ∧ w' = w.alloc (.cells #[.int .u8 r.k, .int .u8 r.y, .int .u16 r.v] 25) := by
  obtain ⟨b, hb⟩ : ∃ b, b = r.isOp := ⟨_, rfl⟩
  rw [← hb]
  unfold Rq.isOp at hb
  have HB := Lib.hid hb
  clear hb
  obtain ⟨c, t, k, y, v⟩ := r
  by_cases h1 : 1 ≤ k <;> by_cases h2 : k ≤ 3 <;> by_cases h3 : y < 64 <;> by_cases h4 : k = 2 <;> by_cases h5 : v = 0 <;> try (exfalso; omega)
  all_goals
    go_enter Tryd.func129, Tryd.ntmps129
    go_wp2
    go_ret
    refine ⟨?_, rfl⟩
    have := HB.out
    simp_all

set_option maxHeartbeats 400000 in
theorem isReq_any (r : Rq) (w : World) : Calls Tryd.prog 110 #[.agg r.cells.toArray] w fun e w' => e = .returned (.bool r.is) ∧ Below w.heap.size w w' := by
  have hq := eql27 r Rq.zero
  have hg := fun op a b w => guard27 op a b r Rq.zero w
  simp only [Rq.cells, Rq.zero] at hq hg
  obtain ⟨b, hb⟩ : ∃ b, b = r.is := ⟨_, rfl⟩
  rw [← hb]
  unfold Rq.is Rq.zero at hb
  have HB := Lib.hid hb
  clear hb
  simp only [Rq.cells]
  by_cases h0 : r = ⟨0, 0, 0, 0, 0⟩
  · simp only [h0, decide_true] at hq
    go_enter Tryd.func110, Tryd.ntmps110
    go_wp2_with fail
    go_ret
    refine ⟨?_, (Below.refl _ _).alloc (Nat.le_refl _) _⟩
    have := HB.out
    rw [this]; simp [h0]
  · simp only [h0, decide_false] at hq
    have H0 := Lib.hid h0
    have hO := isOp_any r
    have hC := isClient_any r.c
    generalize r.isOp = o at hO HB
    generalize hc : (decide (1 ≤ r.c) && decide (r.c ≤ 4)) = cb at hC HB
    have HC := Lib.hid hC
    have HO := Lib.hid hO
    clear h0 hO hC hc
    cases cb
    · go_enter Tryd.func110, Tryd.ntmps110
      go_wp2_with fail
      refine Calls.mono (HC.out _) ?_
      rintro e w' ⟨rfl, rfl⟩
      go_wp2_with fail
      go_ret
      refine ⟨?_, (Below.refl _ _).alloc (Nat.le_refl _) _⟩
      rw [HB.out]; simp [H0.out]
    · by_cases ht : r.t = 0
      · simp only [ht] at hq hg
        go_enter Tryd.func110, Tryd.ntmps110
        go_wp2_with fail
        refine Calls.mono (HC.out _) ?_
        rintro e w' ⟨rfl, rfl⟩
        go_wp2_with fail
        go_ret
        refine ⟨?_, (Below.refl _ _).alloc (Nat.le_refl _) _⟩
        rw [HB.out]; simp [H0.out, ht]
      · go_enter Tryd.func110, Tryd.ntmps110
        go_wp2_with fail
        refine Calls.mono (HC.out _) ?_
        rintro e w' ⟨rfl, rfl⟩
        go_wp2_with fail
        refine Calls.mono (HO.out _) ?_
        rintro e w' ⟨rfl, rfl⟩
        go_wp2_with fail
        go_ret
        refine ⟨?_, ((Below.refl _ _).alloc (Nat.le_refl _) _).alloc (by simp) _⟩
        rw [HB.out]; simp [H0.out, ht]
end Go.Proofs.YtmkeckablkccnaaDoor
