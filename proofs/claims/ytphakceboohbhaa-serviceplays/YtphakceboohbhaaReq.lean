import Derived.Test.YtphakceboohbhaaOwn
import Derived.BigQuiet
import Derived.Laws.StructEq
import Derived.Shelf.SlicesQ.Equal
namespace Go.Proofs.Ytphakceboohbhaa
open Go.RowKit
set_option maxRecDepth 100000

/-- a request -/
structure Rq where
  c : Int
  t : Int
  k : Int
  y : Int
  v : Int
deriving DecidableEq

def Rq.cells (r : Rq) : List Value := [.int .u8 r.c, .int .u32 r.t, .int .u8 r.k, .int .u8 r.y, .int .u16 r.v]
def Rq.zero : Rq := ⟨0, 0, 0, 0, 0⟩
/-- P3.1 -/
def Rq.isOp (r : Rq) : Bool := decide (1 ≤ r.k) && (decide (r.k ≤ 3) && (decide (r.y < 64) && (decide (r.k ≠ 2) || decide (r.v = 0))))
def Rq.is (r : Rq) : Bool := decide (r = Rq.zero) || (decide (1 ≤ r.c) && decide (r.c ≤ 4)) && (decide (r.t ≠ 0) && r.isOp)

theorem eql27 (x y : Rq) (w : World) : (binOp .eql 38 (.agg x.cells.toArray) (.agg y.cells.toArray)).run Try.prog w = .ok (.bool (decide (x = y))) w := by
  have u5 := Try.underlying5; have a5 := Try.isAgg5; have z5 := Try.sizeOf5
  have u22 := Try.underlying29; have a22 := Try.isAgg29; have z22 := Try.sizeOf29
  have u23 := Try.underlying27; have a23 := Try.isAgg27; have z23 := Try.sizeOf27
  have u25 := Try.underlying36; have a25 := Try.isAgg36; have z25 := Try.sizeOf36
  have hS : Try.prog.underlying 38 = some (.struct (Try.prog.fieldsOf 38)) := by kernel_rfl
  have hp : Try.prog.stoodInHeld 38 = false := by kernel_rfl
  have hS5 : Try.prog.underlying 36 = some (.struct (Try.prog.fieldsOf 36)) := by kernel_rfl
  have hp5 : Try.prog.stoodInHeld 36 = false := by kernel_rfl
  have h25 : ∀ (xs ys : Array Value) (w : World), (Op.equalIn 9999 36 (.agg xs) (.agg ys)).run Try.prog w = (Op.eqFields 9998 xs ys (Try.prog.fieldsOf 36).toList).run Try.prog w := fun xs ys w => by
    rw [show (9999 : Nat) = 9998 + 1 from rfl, run_equalIn_agg w 9998 36 _ _ hS5 hp5]
  simp only [Rq.cells]
  rw [run_eql_struct, show (10000 : Nat) = 9999 + 1 from rfl, run_equalIn_agg w 9999 38 _ _ hS hp]
  simp only [Program.fieldsOf, Try.underlying38]
  simp only [Program.fieldsOf, Try.underlying36] at h25
  go_simp
  obtain ⟨x1, x2, x3, x4, x5⟩ := x
  obtain ⟨y1, y2, y3, y4, y5⟩ := y
  simp only [Rq.mk.injEq]
  by_cases h1 : x1 = y1 <;> by_cases h2 : x2 = y2 <;> by_cases h3 : x3 = y3 <;> by_cases h4 : x4 = y4 <;> by_cases h5 : x5 = y5 <;> simp [h1, h2, h3, h4, h5]

theorem guard27 : GuardAt Try.prog 38 (fun x : Rq => .agg x.cells.toArray) := GuardAt.agg _ (by kernel_rfl)

theorem neq27 (x y : Rq) (w : World) : (binOp .neq 38 (.agg x.cells.toArray) (.agg y.cells.toArray)).run Try.prog w = .ok (.bool (!decide (x = y))) w := by
  have h := eql27 x y w
  simp only [binOp] at h ⊢
  generalize Op.equal 38 (Value.agg x.cells.toArray) (Value.agg y.cells.toArray) = m at h ⊢
  simp only [Sem.run_bind] at h ⊢
  cases hm : m.run Try.prog w with
  | ok b w1 => rw [hm] at h; simp at h ⊢; obtain ⟨h1, h2⟩ := h; subst h1; subst h2; simp
  | _ => rw [hm] at h; simp at h

theorem mIsClient_any (c : Int) (w : World) : Calls Try.prog 41 #[.int .u8 c] w fun e w' => e = .returned (.bool (decide (1 ≤ c) && decide (c ≤ 4))) ∧ w' = w := by
  by_cases h1 : 1 ≤ c <;> by_cases h2 : c ≤ 4 <;>
  · go_enter Try.func41, Try.ntmps41
    go_wp2
    go_ret
    refine ⟨?_, rfl⟩
    simp_all

theorem isOp_any (r : Rq) (w : World) : Calls Try.prog 42 #[.agg #[.int .u8 r.k, .int .u8 r.y, .int .u16 r.v]] w fun e w' => e = .returned (.bool r.isOp) ∧ w' = w.alloc (.cells #[.int .u8 r.k, .int .u8 r.y, .int .u16 r.v] 36) := by
  obtain ⟨b, hb⟩ : ∃ b, b = r.isOp := ⟨_, rfl⟩
  rw [← hb]
  unfold Rq.isOp at hb
  have HB := Lib.hid hb
  clear hb
  obtain ⟨c, t, k, y, v⟩ := r
  by_cases h1 : 1 ≤ k <;> by_cases h2 : k ≤ 3 <;> by_cases h3 : y < 64 <;> by_cases h4 : k = 2 <;> by_cases h5 : v = 0 <;> try (exfalso; omega)
  all_goals
    go_enter Try.func42, Try.ntmps42
    go_wp2
    go_ret
    refine ⟨?_, rfl⟩
    have := HB.out
    simp_all

set_option maxHeartbeats 400000 in
theorem isReq_any (r : Rq) (w : World) : Calls Try.prog 35 #[.agg r.cells.toArray] w fun e w' => e = .returned (.bool r.is) ∧ Below w.heap.size w w' := by
  have hq := eql27 r Rq.zero
  have hg := fun op a b w => guard27 op a b r Rq.zero w
  simp only [Rq.cells, Rq.zero] at hq hg
  obtain ⟨b, hb⟩ : ∃ b, b = r.is := ⟨_, rfl⟩
  rw [← hb]
  unfold Rq.is Rq.zero at hb
  have HB := Lib.hid hb
  clear hb
  simp only [Rq.cells]
  by_cases h0 : r = ⟨0, 0, 0, 0, 0⟩
  · simp only [h0, decide_true] at hq
    go_enter Try.func35, Try.ntmps35
    go_wp2_with fail
    go_ret
    refine ⟨?_, (Below.refl _ _).alloc (Nat.le_refl _) _⟩
    have := HB.out
    rw [this]; simp [h0]
  · simp only [h0, decide_false] at hq
    have H0 := Lib.hid h0
    have hO := isOp_any r
    have hC := mIsClient_any r.c
    generalize r.isOp = o at hO HB
    generalize hc : (decide (1 ≤ r.c) && decide (r.c ≤ 4)) = cb at hC HB
    have HC := Lib.hid hC
    have HO := Lib.hid hO
    clear h0 hO hC hc
    cases cb
    · go_enter Try.func35, Try.ntmps35
      go_wp2_with fail
      refine Calls.mono (HC.out _) ?_
      rintro e w' ⟨rfl, rfl⟩
      go_wp2_with fail
      go_ret
      refine ⟨?_, (Below.refl _ _).alloc (Nat.le_refl _) _⟩
      rw [HB.out]; simp [H0.out]
    · by_cases ht : r.t = 0
      · simp only [ht] at hq hg
        go_enter Try.func35, Try.ntmps35
        go_wp2_with fail
        refine Calls.mono (HC.out _) ?_
        rintro e w' ⟨rfl, rfl⟩
        go_wp2_with fail
        go_ret
        refine ⟨?_, (Below.refl _ _).alloc (Nat.le_refl _) _⟩
        rw [HB.out]; simp [H0.out, ht]
      · go_enter Try.func35, Try.ntmps35
        go_wp2_with fail
        refine Calls.mono (HC.out _) ?_
        rintro e w' ⟨rfl, rfl⟩
        go_wp2_with fail
        refine Calls.mono (HO.out _) ?_
        rintro e w' ⟨rfl, rfl⟩
        go_wp2_with fail
        go_ret
        refine ⟨?_, ((Below.refl _ _).alloc (Nat.le_refl _) _).alloc (by simp) _⟩
        rw [HB.out]; simp [H0.out, ht]
end Go.Proofs.Ytphakceboohbhaa
