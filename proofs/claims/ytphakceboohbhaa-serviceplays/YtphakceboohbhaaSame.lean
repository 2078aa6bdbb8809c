/- Same: whether two maps have the same cells. -/
import Derived.Test.YtphakceboohbhaaTake
import Derived.Test.YtphakceboohbhaaHeld
import Derived.Laws.StructEq
namespace Go.Proofs.Ytphakceboohbhaa
open Go.RowKit
set_option maxRecDepth 100000

theorem arr_eq {P : Program} (w : World) (d : Nat) (t e : TypeId) (n s : Nat) (ht : P.underlying t = some (.array n e)) (hs : ∀ w, (sizeOf e).run P w = .ok s w) (xs ys : Array Value) (a b : Nat → Value) (q : Nat → Bool)
    (hx : ∀ i, i < n → (part e xs (i * s)).run P w = .ok (a i) w) (hy : ∀ i, i < n → (part e ys (i * s)).run P w = .ok (b i) w) (hq : ∀ i, i < n → (Op.equalIn d e (a i) (b i)).run P w = .ok (q i) w) :
    (Op.equalIn (d + 1) t (.agg xs) (.agg ys)).run P w = .ok ((List.range n).all q) w := by
  rw [List.range_eq_range', Op.equalIn]
  simp only [Sem.run_bind, run_underlying ht, Result.andThen_ok, hs, Std.Legacy.Range.forIn_eq_forIn_range', Std.Legacy.Range.size, Nat.sub_zero, Nat.add_sub_cancel, Nat.div_one]
  have hl : ∀ i ∈ List.range' 0 n 1, i < n := fun i hi => by simpa using (List.mem_range'_1.1 hi).2
  generalize List.range' 0 n 1 = l at hl ⊢
  induction l with
  | nil => simp
  | cons i l ih =>
    have hi : i < n := hl i (by simp)
    simp only [List.forIn_cons, Sem.run_bind, hx i hi, hy i hi, hq i hi, Result.andThen_ok, List.all_cons]
    cases hb : q i
    · simp
    · simp only [Bool.not_true, Bool.false_eq_true, if_false, Sem.run_pure, Result.andThen_ok, Bool.true_and]
      exact ih fun j hj => hl j (by simp [hj])

theorem mapA_get (V T R : Nat → Int) (i : Nat) (hi : i < 72) : (mapL V T R).toArray[i]? = some (cellM V T R i) := by
  rw [List.getElem?_toArray, mapL_get, if_pos hi]

/-- an entry's fields -/
theorem eq45 (w : World) (x y x' y' : Int) : (Op.equalIn 9998 59 (.agg #[.int .u32 x, .int .u32 y]) (.agg #[.int .u32 x', .int .u32 y'])).run Try.prog w = .ok (x == x' && y == y') w := by
  have u30 := Try.underlying29; have a30 := Try.isAgg29; have z30 := Try.sizeOf29
  rw [show (9998 : Nat) = 9997 + 1 from rfl, run_equalIn_agg w 9997 59 _ _ (by kernel_rfl) (by kernel_rfl)]
  simp only [Program.fieldsOf, Try.underlying59]
  go_simp
  by_cases h1 : x = x' <;> by_cases h2 : y = y' <;> simp [h1, h2]

/-- the four entries -/
def cliA (T R : Nat → Int) : Array Value := #[.int .u32 (T 0), .int .u32 (R 0), .int .u32 (T 1), .int .u32 (R 1), .int .u32 (T 2), .int .u32 (R 2), .int .u32 (T 3), .int .u32 (R 3)]
theorem part45 (T R : Nat → Int) (w : World) (i : Nat) (hi : i < 4) : (part 59 (cliA T R) (i * 2)).run Try.prog w = .ok (.agg #[.int .u32 (T i), .int .u32 (R i)]) w := by
  rcases (by omega : i = 0 ∨ i = 1 ∨ i = 2 ∨ i = 3) with rfl | rfl | rfl | rfl <;> kernel_rfl
theorem eq46 (w : World) (T R T' R' : Nat → Int) : (Op.equalIn 9999 60 (.agg (cliA T R)) (.agg (cliA T' R'))).run Try.prog w = .ok ((List.range 4).all fun i => T i == T' i && R i == R' i) w :=
  arr_eq w 9998 60 59 4 2 (by kernel_rfl) (fun w => by kernel_rfl) _ _ _ _ _ (fun i hi => part45 T R w i hi) (fun i hi => part45 T' R' w i hi) (fun i _ => eq45 w _ _ _ _)

def valA (V : Nat → Int) : Array Value := ((List.range 64).map fun i => Value.int .u16 (V i)).toArray
theorem part28 (V : Nat → Int) (w : World) (i : Nat) (hi : i < 64) : (part 27 (valA V) (i * 1)).run Try.prog w = .ok (.int .u16 (V i)) w := by
  have a28 := Try.isAgg27
  have e : (valA V)[i * 1]? = some (.int .u16 (V i)) := by simp [valA, hi]
  unfold part
  simp only [Sem.run_bind, a28, Result.andThen_ok, Bool.false_eq_true, if_false, e, Sem.run_pure]
theorem eq43 (w : World) (V V' : Nat → Int) : (Op.equalIn 9999 28 (.agg (valA V)) (.agg (valA V'))).run Try.prog w = .ok ((List.range 64).all fun i => V i == V' i) w :=
  arr_eq w 9998 28 27 64 1 (by kernel_rfl) (fun w => by kernel_rfl) _ _ _ _ _ (fun i hi => part28 V w i hi) (fun i hi => part28 V' w i hi) (fun i _ => run_equalIn_int w _ 27 .u16 .u16 _ _ (by kernel_rfl))

theorem ext43 (V T R : Nat → Int) : (mapL V T R).toArray.extract 0 64 = valA V := by kernel_rfl
theorem ext46 (V T R : Nat → Int) : (mapL V T R).toArray.extract 64 72 = cliA T R := by kernel_rfl

/-- whether two maps are the same -/
def sameM (V T R V' T' R' : Nat → Int) : Bool := ((List.range 64).all fun i => V i == V' i) && ((List.range 4).all fun i => T i == T' i && R i == R' i)
theorem eql48 (w : World) (V T R V' T' R' : Nat → Int) : (binOp .eql 62 (.agg (mapL V T R).toArray) (.agg (mapL V' T' R').toArray)).run Try.prog w = .ok (.bool (sameM V T R V' T' R')) w := by
  rw [run_eql_struct, show (10000 : Nat) = 9999 + 1 from rfl, run_equalIn_agg w 9999 62 _ _ (by kernel_rfl) (by kernel_rfl)]
  simp only [Program.fieldsOf, Try.underlying62]
  have p1 := ext43 V T R
  have p2 := ext43 V' T' R'
  have p3 := ext46 V T R
  have p4 := ext46 V' T' R'
  have q1 := fun w => eq43 w V V'
  have q2 := fun w => eq46 w T R T' R'
  unfold sameM
  generalize (mapL V T R).toArray = A at *
  generalize (mapL V' T' R').toArray = A' at *
  generalize ((List.range 64).all fun i => V i == V' i) = b1 at *
  generalize ((List.range 4).all fun i => T i == T' i && R i == R' i) = b2 at *
  go_simp
  cases b1 <;> cases b2 <;> simp
theorem guard48 : ∀ (op : BinOp) (a b : Operand) (xs ys : Array Value) (w : World), (eqGuard op 62 a b (.agg xs) (.agg ys)).run Try.prog w = .ok () w := fun op a b xs ys w => run_eqGuard_agg w op 62 a b xs ys (by kernel_rfl)

set_option maxHeartbeats 1600000 in
theorem same_any (w : World) (B F : Nat) (V T R V' T' R' : Nat → Int) (h : Mp w B V T R) (h' : Mp w F V' T' R') :
    Calls Try.prog 18 #[.pointer (some ⟨B, 0, none⟩), .pointer (some ⟨F, 0, none⟩)] w fun e w' => e = .returned (.bool (sameM V T R V' T' R')) ∧ Kept (fun _ => False) w w' := by
  have hq := fun w => eql48 w V T R V' T' R'
  have hg := fun op a b w => guard48 op a b (mapL V T R).toArray (mapL V' T' R').toArray w
  have z1 : (mapL V T R).toArray.size = 72 := by simp [mapL_len]
  have z2 : (mapL V' T' R').toArray.size = 72 := by simp [mapL_len]
  unfold Mp at h h'
  generalize (mapL V T R).toArray = A at *
  generalize (mapL V' T' R').toArray = A2 at *
  generalize sameM V T R V' T' R' = b at *
  have HB := Lib.hid (And.intro h h')
  have LB : ∀ w, w.heap[B]? = some (.cells A 62 (0, 0)) → (Instr.loadAt 62 (.pointer (some ⟨B, 0, none⟩))).run Try.prog w = .ok (.agg A) w := fun w hw => by
    simp only [Instr.loadAt, Instr.sureAddr, Sem.run_bind, Sem.run_pure, Result.andThen_ok, run_loadVar_row (P := Try.prog) w B 62 62 A (0, 0) _ hw Try.underlying62 rfl (by rw [z1]; kernel_rfl)]
  have LF : ∀ w, w.heap[F]? = some (.cells A2 62 (0, 0)) → (Instr.loadAt 62 (.pointer (some ⟨F, 0, none⟩))).run Try.prog w = .ok (.agg A2) w := fun w hw => by
    simp only [Instr.loadAt, Instr.sureAddr, Sem.run_bind, Sem.run_pure, Result.andThen_ok, run_loadVar_row (P := Try.prog) w F 62 62 A2 (0, 0) _ hw Try.underlying62 rfl (by rw [z2]; kernel_rfl)]
  have HG := Lib.hid hg
  have HQ := Lib.hid hq
  clear h h' hq hg z1 z2
  go_enter Try.func18, Try.ntmps18
  go_wp2_with fail
  refine wp_region_held_drew (S := fun wx => wx.heap[B]? = some (.cells A 62 (0, 0)) ∧ wx.heap[F]? = some (.cells A2 62 (0, 0))) (by kernel_rfl) (HB.out) (fun hS => ?_)
  refine takeA (i := 0) (v := .pointer (some ⟨B, 0, none⟩)) ({ tmps := #[.pointer (some ⟨B, 0, none⟩), .pointer (some ⟨F, 0, none⟩), undef, undef, .bool false, .pointer (some ⟨B, 0, none⟩), undef, undef, undef, undef, undef, undef], defers := [] }) rfl (by kernel_rfl) (by kernel_rfl) (by kernel_rfl) (fun _ _ _ h => h) (.inl ⟨rfl, fun _ _ => rfl⟩) hS rfl ?_
  refine takeA (i := 1) (v := .pointer (some ⟨B, 0, none⟩)) ({ tmps := #[.pointer (some ⟨B, 0, none⟩), .pointer (some ⟨F, 0, none⟩), undef, undef, .bool false, .pointer (some ⟨B, 0, none⟩), .pointer (some ⟨B, 0, none⟩), undef, undef, undef, undef, undef], defers := [] }) rfl (by kernel_rfl) (by kernel_rfl) (by kernel_rfl) (fun _ _ _ h => h) (.inl ⟨rfl, fun _ _ => rfl⟩) hS rfl ?_
  refine takeA (i := 2) (v := .agg A) ({ tmps := #[.pointer (some ⟨B, 0, none⟩), .pointer (some ⟨F, 0, none⟩), undef, undef, .bool false, .pointer (some ⟨B, 0, none⟩), .pointer (some ⟨B, 0, none⟩), .agg A, undef, undef, undef, undef], defers := [] }) rfl (by kernel_rfl) (by kernel_rfl) (by kernel_rfl) (fun _ _ _ h => h) (yi_load 62 (.tmp 6) (.pointer (some ⟨B, 0, none⟩)) rfl rfl rfl (fun w hw => LB w hw.1)) hS rfl ?_
  refine takeA (i := 3) (v := .pointer (some ⟨F, 0, none⟩)) ({ tmps := #[.pointer (some ⟨B, 0, none⟩), .pointer (some ⟨F, 0, none⟩), undef, undef, .bool false, .pointer (some ⟨B, 0, none⟩), .pointer (some ⟨B, 0, none⟩), .agg A, .pointer (some ⟨F, 0, none⟩), undef, undef, undef], defers := [] }) rfl (by kernel_rfl) (by kernel_rfl) (by kernel_rfl) (fun _ _ _ h => h) (.inl ⟨rfl, fun _ _ => rfl⟩) hS rfl ?_
  refine takeA (i := 4) (v := .pointer (some ⟨F, 0, none⟩)) ({ tmps := #[.pointer (some ⟨B, 0, none⟩), .pointer (some ⟨F, 0, none⟩), undef, undef, .bool false, .pointer (some ⟨B, 0, none⟩), .pointer (some ⟨B, 0, none⟩), .agg A, .pointer (some ⟨F, 0, none⟩), .pointer (some ⟨F, 0, none⟩), undef, undef], defers := [] }) rfl (by kernel_rfl) (by kernel_rfl) (by kernel_rfl) (fun _ _ _ h => h) (.inl ⟨rfl, fun _ _ => rfl⟩) hS rfl ?_
  refine takeA (i := 5) (v := .agg A2) ({ tmps := #[.pointer (some ⟨B, 0, none⟩), .pointer (some ⟨F, 0, none⟩), undef, undef, .bool false, .pointer (some ⟨B, 0, none⟩), .pointer (some ⟨B, 0, none⟩), .agg A, .pointer (some ⟨F, 0, none⟩), .pointer (some ⟨F, 0, none⟩), .agg A2, undef], defers := [] }) rfl (by kernel_rfl) (by kernel_rfl) (by kernel_rfl) (fun _ _ _ h => h) (yi_load 62 (.tmp 9) (.pointer (some ⟨F, 0, none⟩)) rfl rfl rfl (fun w hw => LF w hw.2)) hS rfl ?_
  refine takeA (i := 6) (v := .bool b) ({ tmps := #[.pointer (some ⟨B, 0, none⟩), .pointer (some ⟨F, 0, none⟩), undef, undef, .bool false, .pointer (some ⟨B, 0, none⟩), .pointer (some ⟨B, 0, none⟩), .agg A, .pointer (some ⟨F, 0, none⟩), .pointer (some ⟨F, 0, none⟩), .agg A2, .bool b], defers := [] }) rfl (by kernel_rfl) (by kernel_rfl) (by kernel_rfl) (fun _ _ _ h => h) (yi_bin .eql 62 62 (.tmp 7) (.tmp 10) (.agg A) (.agg A2) rfl rfl rfl rfl (fun w => HG.out _ _ _ w) (fun w _ => HQ.out w)) hS rfl ?_
  refine takeA (i := 7) (v := .bool b) ({ tmps := #[.pointer (some ⟨B, 0, none⟩), .pointer (some ⟨F, 0, none⟩), undef, undef, .bool b, .pointer (some ⟨B, 0, none⟩), .pointer (some ⟨B, 0, none⟩), .agg A, .pointer (some ⟨F, 0, none⟩), .pointer (some ⟨F, 0, none⟩), .agg A2, .bool b], defers := [] }) rfl (by kernel_rfl) (by kernel_rfl) (by kernel_rfl) (fun _ _ _ h => h) (.inl ⟨rfl, fun _ _ => rfl⟩) hS rfl ?_
  refine wpAnyH_done (by kernel_rfl) ?_ _
  go_wp2_with fail
  go_ret
  exact ⟨rfl, (Kept.refl _ _).drew⟩
end Go.Proofs.Ytphakceboohbhaa
