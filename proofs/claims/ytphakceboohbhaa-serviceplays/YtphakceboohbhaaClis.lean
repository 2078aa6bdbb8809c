/- A map's clients: isClient, isPage, Client, SetClient. -/
import Derived.Test.YtphakceboohbhaaMaps
namespace Go.Proofs.Ytphakceboohbhaa
open Go.RowKit
set_option maxRecDepth 100000

theorem isClient_any (w : World) (k : Nat) :
    Calls Try.prog 34 #[.int .u8 k] w fun e w' => e = .returned (.bool (decide (1 ≤ k ∧ k ≤ 4))) ∧ w' = w := by
  by_cases h1 : 1 ≤ k
  · have h2 : (1 : Int) ≤ k := by omega
    go_enter Try.func34, Try.ntmps34
    go_wp2
    go_ret
    exact ⟨by simp [h1]; omega, rfl⟩
  · have h2 : ¬ (1 : Int) ≤ k := by omega
    go_enter Try.func34, Try.ntmps34
    go_wp2
    go_ret
    exact ⟨by simp, rfl⟩

theorem isPage_any (w : World) (k : Int) :
    Calls Try.prog 30 #[.int .i64 k] w fun e w' => e = .returned (.bool (decide (0 ≤ k ∧ k < 8))) ∧ w' = w := by
  by_cases h2 : (0 : Int) ≤ k
  · go_enter Try.func30, Try.ntmps30
    go_wp2
    go_ret
    exact ⟨by congr 2; simp; omega, rfl⟩
  · go_enter Try.func30, Try.ntmps30
    go_wp2
    go_ret
    exact ⟨by congr 2; simp; omega, rfl⟩

theorem client_none (w : World) (B : Nat) (k : Nat) (hk : ¬ (1 ≤ k ∧ k ≤ 4)) :
    Calls Try.prog 21 #[.pointer (some ⟨B, 0, none⟩), .int .u8 k] w fun e w' => e = .returned (.tuple #[.int .u32 0, .int .u32 0]) ∧ w' = w := by
  have H := isClient_any w k
  rw [decide_eq_false hk] at H
  have H := Lib.hid H
  go_enter Try.func21, Try.ntmps21
  go_wp2_with fail
  refine H.out.mono ?_
  rintro e w' ⟨rfl, rfl⟩
  go_wp2_with fail
  exact bodyPost_ret (v := .tuple #[.int .u32 0, .int .u32 0]) (by simp [results, Try.results21, go_sem]) rfl ⟨rfl, rfl⟩

theorem client_some (w : World) (B : Nat) (k : Nat) (V T R : Nat → Int) (h : Mp w B V T R) (hk : 1 ≤ k ∧ k ≤ 4) :
    Calls Try.prog 21 #[.pointer (some ⟨B, 0, none⟩), .int .u8 k] w fun e w' => e = .returned (.tuple #[.int .u32 (T (k - 1)), .int .u32 (R (k - 1))]) ∧ Kept (fun _ => False) w w' := by
  have H := isClient_any w k
  rw [decide_eq_true hk] at H
  have H := Lib.hid H
  have c1 := h.ts (k - 1) (by omega)
  have c2 := h.rs (k - 1) (by omega)
  have hW : (IntKind.u8.wrap ((k : Int) - 1)) = ((k - 1 : Nat) : Int) := by
    have : IntKind.u8.wrap ((k : Int) - 1) = ((k : Int) - 1) % 256 := rfl
    omega
  have hB : ((k - 1 : Nat) : Int) < 4 := by omega
  have hk := Lib.hid hk
  generalize k - 1 = j at *
  generalize T j = t at *
  generalize R j = r at *
  clear h
  go_enter Try.func21, Try.ntmps21
  go_wp2_with fail
  refine H.out.mono ?_
  rintro e w' ⟨rfl, rfl⟩
  go_wp2_with fail
  go_region
  go_wp2_with fail
  exact bodyPost_ret (v := .tuple #[.int .u32 t, .int .u32 r]) (by simp [results, Try.results21, go_sem]) rfl ⟨rfl, ((Kept.refl _ _).alloc _).drew⟩

theorem setClient_none (w : World) (B : Nat) (k : Nat) (ts rs : Int) (hk : ¬ (1 ≤ k ∧ k ≤ 4)) :
    Calls Try.prog 29 #[.pointer (some ⟨B, 0, none⟩), .int .u8 k, .int .u32 ts, .int .u32 rs] w fun e w' => e = .returned (.tuple #[]) ∧ w' = w := by
  have H := isClient_any w k
  rw [decide_eq_false hk] at H
  have H := Lib.hid H
  go_enter Try.func29, Try.ntmps29
  go_wp2_with fail
  refine H.out.mono ?_
  rintro e w' ⟨rfl, rfl⟩
  go_wp2_with fail
  exact bodyPost_ret (v := .tuple #[]) (by simp [results, Try.results29, go_sem]) rfl ⟨rfl, rfl⟩

theorem kept2 (w : World) (B o1 o2 : Nat) (u v : Value) (ob : Obj) : Kept (fun i => i = B) w (((w.setCell ⟨B, o1, none⟩ u).setCell ⟨B, o2, none⟩ v).alloc ob).drew :=
  ((((Kept.refl (fun i => i = B) w).setCell ⟨B, o1, none⟩ u (fun _ => rfl)).setCell ⟨B, o2, none⟩ v (fun _ => rfl)).alloc ob).drew

theorem setClient_some (w : World) (B : Nat) (k : Nat) (ts rs : Int) (V T R : Nat → Int) (h : Mp w B V T R) (hk : 1 ≤ k ∧ k ≤ 4) :
    Calls Try.prog 29 #[.pointer (some ⟨B, 0, none⟩), .int .u8 k, .int .u32 ts, .int .u32 rs] w fun e w' => e = .returned (.tuple #[]) ∧ Kept (fun i => i = B) w w' ∧
      Mp w' B V (upd T (k - 1) ts) (upd R (k - 1) (if ts = 0 then 0 else rs)) := by
  have H := isClient_any w k
  rw [decide_eq_true hk] at H
  have H := Lib.hid H
  have c1 := h.ts (k - 1) (by omega)
  have c2 := h.rs (k - 1) (by omega)
  have hW : (IntKind.u8.wrap ((k : Int) - 1)) = ((k - 1 : Nat) : Int) := by
    have : IntKind.u8.wrap ((k : Int) - 1) = ((k : Int) - 1) % 256 := rfl
    omega
  have hB : ((k - 1 : Nat) : Int) < 4 := by omega
  have hk := Lib.hid hk
  have hl := h.lt
  generalize k - 1 = j at *
  have c1 : w.cell? ⟨B, 64 + j * 2, none⟩ = some (.int .u32 (T j)) := c1
  generalize T j = t at *
  generalize R j = r at *
  have f1 := h.frozen (64 + j * 2)
  have f2 := h.frozen (64 + j * 2 + 1)
  have hs1 := fun x y => (h.setts j x (by omega)).setrs j y (by omega)
  have h := Lib.hid h
  have HS := Lib.hid hs1
  clear hs1
  by_cases hts : ts = 0
  · subst hts
    go_enter Try.func29, Try.ntmps29
    go_wp2_with fail
    refine H.out.mono ?_
    rintro e w' ⟨rfl, rfl⟩
    go_wp2_with fail
    go_region
    go_wp2_with fail
    go_end0
    refine ⟨rfl, kept2 _ _ _ _ _ _ _, ?_⟩
    exact (HS.out 0 0).kept (S := fun _ => False) ((Kept.refl _ _).alloc _).drew (fun h => h)
  · go_enter Try.func29, Try.ntmps29
    go_wp2_with fail
    refine H.out.mono ?_
    rintro e w' ⟨rfl, rfl⟩
    go_wp2_with fail
    go_region
    go_wp2_with fail
    go_end0
    refine ⟨rfl, kept2 _ _ _ _ _ _ _, ?_⟩
    exact (HS.out ts rs).kept (S := fun _ => False) ((Kept.refl _ _).alloc _).drew (fun h => h)
end Go.Proofs.Ytphakceboohbhaa
