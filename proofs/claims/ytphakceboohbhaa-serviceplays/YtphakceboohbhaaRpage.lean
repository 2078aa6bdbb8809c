/- The document's Page: the bytes of a map's page. -/
import Derived.Test.YtphakceboohbhaaRmap
import Derived.Test.YtphakceboohbhaaMine
import Derived.Test.YtphakceboohbhaaTake
import Derived.Test.YtphakceboohbhaaHeld
namespace Go.Proofs.Ytphakceboohbhaa
open Go.RowKit
set_option maxRecDepth 100000

/-- the keys of page p from k on, one by one -/
def pgs (V : Nat → Int) (p k : Nat) : List Int :=
  if k < 64 then (if k % 7 = p ∧ V k ≠ 0 then [(k : Int), V k / 256 % 256, V k % 256] else []) ++ pgs V p (k + 1) else []
termination_by 64 - k
theorem pgs_end {V : Nat → Int} {p k : Nat} (h : ¬ k < 64) : pgs V p k = [] := by rw [pgs, if_neg h]
theorem pgs_no {V : Nat → Int} {p k : Nat} (hk : k < 64) (h : ¬ (k % 7 = p ∧ V k ≠ 0)) : pgs V p (k + 1) = pgs V p k := by
  rw [pgs.eq_1 V p k, if_pos hk, if_neg h, List.nil_append]
theorem pgs_yes {V : Nat → Int} {p k : Nat} (hk : k < 64) (h : k % 7 = p ∧ V k ≠ 0) : [(k : Int), V k / 256 % 256, V k % 256] ++ pgs V p (k + 1) = pgs V p k := by
  rw [pgs.eq_1 V p k, if_pos hk, if_pos h]
/-- the same keys, each seventh -/
theorem pgs_pg (V : Nat → Int) (p : Nat) (hp : p < 7) : ∀ n k, 64 - k ≤ n → pgs V p k = pg V (k + (p + 7 - k % 7) % 7) := by
  intro n
  induction n with
  | zero => intro k h; rw [pgs_end (by omega), pg_end (by omega)]
  | succ n ih =>
    intro k h
    by_cases hk : k < 64
    · have e := ih (k + 1) (by omega)
      by_cases hm : k % 7 = p
      · have e1 : k + (p + 7 - k % 7) % 7 = k := by omega
        have e2 : k + 1 + (p + 7 - (k + 1) % 7) % 7 = k + 7 := by omega
        rw [e2] at e
        rw [e1]
        by_cases hv : V k = 0
        · rw [← pgs_no hk (fun h => h.2 hv), e]; exact pg_no hk hv
        · rw [← pgs_yes hk ⟨hm, hv⟩, e, pg.eq_1 V k, if_pos hk, if_neg hv]
      · rw [← pgs_no hk (fun h => hm h.1), e]
        congr 1
        omega
    · rw [pgs_end hk, pg_end (by omega)]
theorem pgs_all (V : Nat → Int) (p : Nat) (hp : p < 7) : pgs V p 0 = pg V p := by
  rw [pgs_pg V p hp 64 0 (by omega)]
  congr 1
  omega
theorem be_2 (x : Int) : be x 2 = [x / 256 % 256, x % 256] := by simp [be, byteAt]
theorem be_4 (x : Int) : be x 4 = be4 x := by simp [be, byteAt, be4]
/-- what is written behind the keys below k -/
def PI (w wr : World) (v : Value) (V : Nat → Int) (p k : Nat) : Prop :=
  ∃ ao n c xs, v = .slice ao n c ∧ Mine w.heap.size w wr ao n c xs ∧ xs ++ pgs V p k = pg V p
/-- what is written behind the clients below i -/
def CIr (w wr : World) (v : Value) (T R : Nat → Int) (i : Nat) : Prop :=
  ∃ ao n c xs, v = .slice ao n c ∧ Mine w.heap.size w wr ao n c xs ∧ xs ++ cg T R i = cg T R 0
theorem fits' {xs ys : List Int} {V : Nat → Int} {p : Nat} (h : xs ++ ys = pg V p) : xs.length ≤ 30 := by
  have := pg_short V p
  rw [← h, List.length_append] at this
  omega

set_option maxHeartbeats 16000000 in
theorem refPage_keys (w : World) (B : Nat) (p : Nat) (V T R : Nat → Int) (h : Rp w B V T R) (VR : ∀ i, 0 ≤ V i ∧ V i ≤ 65535) (hp : p < 7) :
    Calls Try.prog 16 #[.pointer (some ⟨B, 0, none⟩), .int .i64 p] w fun e w' => ∃ ao c, e = .returned (.slice ao (pg V p).length c) ∧ New w.heap.size w' ao c (pg V p) ∧ Below w.heap.size w w' := by
  have K0 : PI w w (.slice none 0 0) V p 0 := ⟨none, 0, 0, [], rfl, Mine.nil w, by rw [List.nil_append, pgs_all V p hp]⟩
  have K0 := Lib.hid K0
  have HM := Lib.hid h
  have hlt := Lib.hid h.lt
  have hp1 : (0 : Int) ≤ p := by omega
  have hp2 : (p : Int) < 7 := by omega
  have hp3 : ¬ (p : Int) = 7 := by omega
  have hp4 : ((p : Int) == 7) = false := by simp; omega
  replace VR := Lib.hid VR
  clear h
  go_enter Try.func16, Try.ntmps16
  go_wp2_with fail
  go_loopw [5, 6] (fun v5 v6 wr => ∃ k : Nat, v6 = .int .i64 k ∧ k ≤ 64 ∧ Hid (PI w wr v5 V p k)) (fun _ v6 _ => 64 - (intOf v6).toNat)
  case atStart => exact ⟨0, rfl, by omega, K0⟩
  case round =>
    obtain ⟨k, rfl, hk, I⟩ := hrel
    obtain ⟨ao, n, c, xs, rfl, hI, hxs⟩ := I.out
    have HI := Lib.hid hI
    have HX := Lib.hid hxs
    clear I hI hxs
    by_cases hk64 : k < 64
    · have hk64' : (k : Int) < 64 := by omega
      obtain ⟨m, hm⟩ : ∃ m, m = k % 7 := ⟨_, rfl⟩
      have em : ((k : Int) % 7) = (m : Int) := by omega
      have em2 : ((k : Int).tmod 7) = (m : Int) := by rw [Int.tmod_eq_emod_of_nonneg (by omega)]; exact em
      have hv := (HM.out.below HI.out.below hlt.out).val k hk64
      have hn30 : n ≤ 30 := by
        have h1 := HI.out.own.1
        have h2 := fits' HX.out
        simp [vals] at h1; omega
      obtain ⟨x, hx⟩ : ∃ x, x = V k := ⟨_, rfl⟩
      rw [← hx] at hv
      replace hx := Lib.hid hx
      replace hm := Lib.hid hm
      by_cases hmp : m = p
      · subst hmp
        by_cases h0 : x = 0
        · have I2 : Hid (PI w wr (.slice ao n c) V m (k + 1)) := Lib.hid ⟨ao, n, c, xs, rfl, HI.out, by rw [pgs_no hk64 (fun h => h.2 (by rw [← hx.out]; exact h0))]; exact HX.out⟩
          have hb : (x != 0) = false := by rw [h0]; rfl
          clear h0
          go_wp2_with fail
          exact ⟨⟨k + 1, by go_num, by omega, I2⟩, by simp [intOf]; omega⟩
        · have hb : (x != 0) = true := by simp only [bne_iff_ne]; exact h0
          replace h0 := Lib.hid h0
          go_wp2_with fail
          have CV : ∀ wx, Below w.heap.size w wx → wx.cell? ⟨B, k, none⟩ = some (.int .u16 x) := fun wx hw => by
            have := (HM.out.below hw hlt.out).val k hk64
            rwa [← hx.out] at this
          have BX : Hid (∀ (wx : World) (a : Option Addr) (n c : Nat) (l : List Int), Mine w.heap.size w wx a n c l → Below w.heap.size w wx) := Lib.hid (fun _ _ _ _ _ h => h.below)
          have M0 := Lib.hid (HI.out.kept ((Below.refl _ wr).drew))
          have hx0 := VR.out k
          rw [← hx.out] at hx0
          have hwx : IntKind.u64.wrap x = x := by rw [IntKind.wrap_u64]; omega
          have hwk : IntKind.u8.wrap (k : Int) = k := by show (k : Int) % 256 = k; omega
          clear hv hx0
          refine wp_region_held_drew (S := Below w.heap.size w) (by kernel_rfl) ((BX.out _ _ _ _ _ M0.out)) (fun hS => ?_)
          refine takeA (i := 0) (v := .slice ao n c) ({ tmps := #[.pointer (some ⟨B, 0, none⟩), .int .i64 ↑m, undef, undef, .slice none 0 0, .slice ao n c, .int .i64 ↑k, undef, .int .i64 ↑m, .bool true, .bool true, .int .i64 ↑m, .bool true, .bool true, .bool true, .int .i64 ↑k, .bool true, .bool true, u18, u19, .int .i64 ↑k, .int .i64 ↑m, .int .i64 ↑m, .bool true, .bool true, .pointer (some ⟨B, 0, none⟩), .int .i64 ↑k, .pointer (some ⟨B, 0, none⟩), .pointer (some ⟨B, 0, none⟩), .pointer (some ⟨B, k, none⟩), .int .u16 x, .bool true, .bool true, .slice ao n c, u34, u35, u36, u37, u38, u39, u40, u41, u42, u43, u44, u45, undef, undef, undef, undef, undef, undef, undef, undef, undef, undef, undef, undef, undef, undef, undef, undef, undef, undef, undef, undef, undef, undef, undef, undef, undef, undef, undef, undef, undef, undef, undef, undef, undef, undef, undef, undef, undef], defers := [] }) rfl (by kernel_rfl) (by kernel_rfl) (by kernel_rfl) (fun _ _ _ h => h) (.inl ⟨rfl, fun _ _ => rfl⟩) hS rfl ?_
          refine takeA (i := 1) (v := .int .i64 ↑k) ({ tmps := #[.pointer (some ⟨B, 0, none⟩), .int .i64 ↑m, undef, undef, .slice none 0 0, .slice ao n c, .int .i64 ↑k, undef, .int .i64 ↑m, .bool true, .bool true, .int .i64 ↑m, .bool true, .bool true, .bool true, .int .i64 ↑k, .bool true, .bool true, u18, u19, .int .i64 ↑k, .int .i64 ↑m, .int .i64 ↑m, .bool true, .bool true, .pointer (some ⟨B, 0, none⟩), .int .i64 ↑k, .pointer (some ⟨B, 0, none⟩), .pointer (some ⟨B, 0, none⟩), .pointer (some ⟨B, k, none⟩), .int .u16 x, .bool true, .bool true, .slice ao n c, .int .i64 ↑k, u35, u36, u37, u38, u39, u40, u41, u42, u43, u44, u45, undef, undef, undef, undef, undef, undef, undef, undef, undef, undef, undef, undef, undef, undef, undef, undef, undef, undef, undef, undef, undef, undef, undef, undef, undef, undef, undef, undef, undef, undef, undef, undef, undef, undef, undef, undef, undef], defers := [] }) rfl (by kernel_rfl) (by kernel_rfl) (by kernel_rfl) (fun _ _ _ h => h) (.inl ⟨rfl, fun _ _ => rfl⟩) hS rfl ?_
          refine takeA (i := 2) (v := .int .u8 ↑k) ({ tmps := #[.pointer (some ⟨B, 0, none⟩), .int .i64 ↑m, undef, undef, .slice none 0 0, .slice ao n c, .int .i64 ↑k, undef, .int .i64 ↑m, .bool true, .bool true, .int .i64 ↑m, .bool true, .bool true, .bool true, .int .i64 ↑k, .bool true, .bool true, u18, u19, .int .i64 ↑k, .int .i64 ↑m, .int .i64 ↑m, .bool true, .bool true, .pointer (some ⟨B, 0, none⟩), .int .i64 ↑k, .pointer (some ⟨B, 0, none⟩), .pointer (some ⟨B, 0, none⟩), .pointer (some ⟨B, k, none⟩), .int .u16 x, .bool true, .bool true, .slice ao n c, .int .i64 ↑k, .int .u8 ↑k, u36, u37, u38, u39, u40, u41, u42, u43, u44, u45, undef, undef, undef, undef, undef, undef, undef, undef, undef, undef, undef, undef, undef, undef, undef, undef, undef, undef, undef, undef, undef, undef, undef, undef, undef, undef, undef, undef, undef, undef, undef, undef, undef, undef, undef, undef, undef], defers := [] }) rfl (by kernel_rfl) (by kernel_rfl) (by kernel_rfl) (fun _ _ _ h => h) (.inl ⟨rfl, fun _ _ => by go_simp <;> exact hwk⟩) hS rfl ?_
          refine takeA (i := 5) (v := .pointer (some ⟨B, 0, none⟩)) ({ tmps := #[.pointer (some ⟨B, 0, none⟩), .int .i64 ↑m, undef, undef, .slice none 0 0, .slice ao n c, .int .i64 ↑k, undef, .int .i64 ↑m, .bool true, .bool true, .int .i64 ↑m, .bool true, .bool true, .bool true, .int .i64 ↑k, .bool true, .bool true, u18, u19, .int .i64 ↑k, .int .i64 ↑m, .int .i64 ↑m, .bool true, .bool true, .pointer (some ⟨B, 0, none⟩), .int .i64 ↑k, .pointer (some ⟨B, 0, none⟩), .pointer (some ⟨B, 0, none⟩), .pointer (some ⟨B, k, none⟩), .int .u16 x, .bool true, .bool true, .slice ao n c, .int .i64 ↑k, .int .u8 ↑k, u36, u37, .pointer (some ⟨B, 0, none⟩), u39, u40, u41, u42, u43, u44, u45, undef, undef, undef, undef, undef, undef, undef, undef, undef, undef, undef, undef, undef, undef, undef, undef, undef, undef, undef, undef, undef, undef, undef, undef, undef, undef, undef, undef, undef, undef, undef, undef, undef, undef, undef, undef, undef], defers := [] }) rfl (by kernel_rfl) (by kernel_rfl) (by kernel_rfl) (fun _ _ _ h => h) (.inl ⟨rfl, fun _ _ => rfl⟩) hS rfl ?_
          refine takeA (i := 6) (v := .int .i64 ↑k) ({ tmps := #[.pointer (some ⟨B, 0, none⟩), .int .i64 ↑m, undef, undef, .slice none 0 0, .slice ao n c, .int .i64 ↑k, undef, .int .i64 ↑m, .bool true, .bool true, .int .i64 ↑m, .bool true, .bool true, .bool true, .int .i64 ↑k, .bool true, .bool true, u18, u19, .int .i64 ↑k, .int .i64 ↑m, .int .i64 ↑m, .bool true, .bool true, .pointer (some ⟨B, 0, none⟩), .int .i64 ↑k, .pointer (some ⟨B, 0, none⟩), .pointer (some ⟨B, 0, none⟩), .pointer (some ⟨B, k, none⟩), .int .u16 x, .bool true, .bool true, .slice ao n c, .int .i64 ↑k, .int .u8 ↑k, u36, u37, .pointer (some ⟨B, 0, none⟩), .int .i64 ↑k, u40, u41, u42, u43, u44, u45, undef, undef, undef, undef, undef, undef, undef, undef, undef, undef, undef, undef, undef, undef, undef, undef, undef, undef, undef, undef, undef, undef, undef, undef, undef, undef, undef, undef, undef, undef, undef, undef, undef, undef, undef, undef, undef], defers := [] }) rfl (by kernel_rfl) (by kernel_rfl) (by kernel_rfl) (fun _ _ _ h => h) (.inl ⟨rfl, fun _ _ => rfl⟩) hS rfl ?_
          refine takeA (i := 7) (v := .pointer (some ⟨B, 0, none⟩)) ({ tmps := #[.pointer (some ⟨B, 0, none⟩), .int .i64 ↑m, undef, undef, .slice none 0 0, .slice ao n c, .int .i64 ↑k, undef, .int .i64 ↑m, .bool true, .bool true, .int .i64 ↑m, .bool true, .bool true, .bool true, .int .i64 ↑k, .bool true, .bool true, u18, u19, .int .i64 ↑k, .int .i64 ↑m, .int .i64 ↑m, .bool true, .bool true, .pointer (some ⟨B, 0, none⟩), .int .i64 ↑k, .pointer (some ⟨B, 0, none⟩), .pointer (some ⟨B, 0, none⟩), .pointer (some ⟨B, k, none⟩), .int .u16 x, .bool true, .bool true, .slice ao n c, .int .i64 ↑k, .int .u8 ↑k, u36, u37, .pointer (some ⟨B, 0, none⟩), .int .i64 ↑k, .pointer (some ⟨B, 0, none⟩), u41, u42, u43, u44, u45, undef, undef, undef, undef, undef, undef, undef, undef, undef, undef, undef, undef, undef, undef, undef, undef, undef, undef, undef, undef, undef, undef, undef, undef, undef, undef, undef, undef, undef, undef, undef, undef, undef, undef, undef, undef, undef], defers := [] }) rfl (by kernel_rfl) (by kernel_rfl) (by kernel_rfl) (fun _ _ _ h => h) (.inl ⟨rfl, fun _ _ => by go_simp⟩) hS rfl ?_
          refine takeA (i := 8) (v := .pointer (some ⟨B, 0, none⟩)) ({ tmps := #[.pointer (some ⟨B, 0, none⟩), .int .i64 ↑m, undef, undef, .slice none 0 0, .slice ao n c, .int .i64 ↑k, undef, .int .i64 ↑m, .bool true, .bool true, .int .i64 ↑m, .bool true, .bool true, .bool true, .int .i64 ↑k, .bool true, .bool true, u18, u19, .int .i64 ↑k, .int .i64 ↑m, .int .i64 ↑m, .bool true, .bool true, .pointer (some ⟨B, 0, none⟩), .int .i64 ↑k, .pointer (some ⟨B, 0, none⟩), .pointer (some ⟨B, 0, none⟩), .pointer (some ⟨B, k, none⟩), .int .u16 x, .bool true, .bool true, .slice ao n c, .int .i64 ↑k, .int .u8 ↑k, u36, u37, .pointer (some ⟨B, 0, none⟩), .int .i64 ↑k, .pointer (some ⟨B, 0, none⟩), .pointer (some ⟨B, 0, none⟩), u42, u43, u44, u45, undef, undef, undef, undef, undef, undef, undef, undef, undef, undef, undef, undef, undef, undef, undef, undef, undef, undef, undef, undef, undef, undef, undef, undef, undef, undef, undef, undef, undef, undef, undef, undef, undef, undef, undef, undef, undef], defers := [] }) rfl (by kernel_rfl) (by kernel_rfl) (by kernel_rfl) (fun _ _ _ h => h) (.inl ⟨rfl, fun _ _ => by go_simp⟩) hS rfl ?_
          refine takeA (i := 9) (v := .pointer (some ⟨B, k, none⟩)) ({ tmps := #[.pointer (some ⟨B, 0, none⟩), .int .i64 ↑m, undef, undef, .slice none 0 0, .slice ao n c, .int .i64 ↑k, undef, .int .i64 ↑m, .bool true, .bool true, .int .i64 ↑m, .bool true, .bool true, .bool true, .int .i64 ↑k, .bool true, .bool true, u18, u19, .int .i64 ↑k, .int .i64 ↑m, .int .i64 ↑m, .bool true, .bool true, .pointer (some ⟨B, 0, none⟩), .int .i64 ↑k, .pointer (some ⟨B, 0, none⟩), .pointer (some ⟨B, 0, none⟩), .pointer (some ⟨B, k, none⟩), .int .u16 x, .bool true, .bool true, .slice ao n c, .int .i64 ↑k, .int .u8 ↑k, u36, u37, .pointer (some ⟨B, 0, none⟩), .int .i64 ↑k, .pointer (some ⟨B, 0, none⟩), .pointer (some ⟨B, 0, none⟩), .pointer (some ⟨B, k, none⟩), u43, u44, u45, undef, undef, undef, undef, undef, undef, undef, undef, undef, undef, undef, undef, undef, undef, undef, undef, undef, undef, undef, undef, undef, undef, undef, undef, undef, undef, undef, undef, undef, undef, undef, undef, undef, undef, undef, undef, undef], defers := [] }) rfl (by kernel_rfl) (by kernel_rfl) (by kernel_rfl) (fun _ _ _ h => h) (.inl ⟨rfl, fun _ _ => by go_simp⟩) hS rfl ?_
          refine takeA (i := 10) (v := .int .u16 x) ({ tmps := #[.pointer (some ⟨B, 0, none⟩), .int .i64 ↑m, undef, undef, .slice none 0 0, .slice ao n c, .int .i64 ↑k, undef, .int .i64 ↑m, .bool true, .bool true, .int .i64 ↑m, .bool true, .bool true, .bool true, .int .i64 ↑k, .bool true, .bool true, u18, u19, .int .i64 ↑k, .int .i64 ↑m, .int .i64 ↑m, .bool true, .bool true, .pointer (some ⟨B, 0, none⟩), .int .i64 ↑k, .pointer (some ⟨B, 0, none⟩), .pointer (some ⟨B, 0, none⟩), .pointer (some ⟨B, k, none⟩), .int .u16 x, .bool true, .bool true, .slice ao n c, .int .i64 ↑k, .int .u8 ↑k, u36, u37, .pointer (some ⟨B, 0, none⟩), .int .i64 ↑k, .pointer (some ⟨B, 0, none⟩), .pointer (some ⟨B, 0, none⟩), .pointer (some ⟨B, k, none⟩), .int .u16 x, u44, u45, undef, undef, undef, undef, undef, undef, undef, undef, undef, undef, undef, undef, undef, undef, undef, undef, undef, undef, undef, undef, undef, undef, undef, undef, undef, undef, undef, undef, undef, undef, undef, undef, undef, undef, undef, undef, undef], defers := [] }) rfl (by kernel_rfl) (by kernel_rfl) (by kernel_rfl) (fun _ _ _ h => h) (yi_load 27 _ (.pointer (some ⟨B, k, none⟩)) rfl rfl rfl (fun w hw => by have q := CV w hw; go_simp)) hS rfl ?_
          refine takeA (i := 11) (v := .int .u64 x) ({ tmps := #[.pointer (some ⟨B, 0, none⟩), .int .i64 ↑m, undef, undef, .slice none 0 0, .slice ao n c, .int .i64 ↑k, undef, .int .i64 ↑m, .bool true, .bool true, .int .i64 ↑m, .bool true, .bool true, .bool true, .int .i64 ↑k, .bool true, .bool true, u18, u19, .int .i64 ↑k, .int .i64 ↑m, .int .i64 ↑m, .bool true, .bool true, .pointer (some ⟨B, 0, none⟩), .int .i64 ↑k, .pointer (some ⟨B, 0, none⟩), .pointer (some ⟨B, 0, none⟩), .pointer (some ⟨B, k, none⟩), .int .u16 x, .bool true, .bool true, .slice ao n c, .int .i64 ↑k, .int .u8 ↑k, u36, u37, .pointer (some ⟨B, 0, none⟩), .int .i64 ↑k, .pointer (some ⟨B, 0, none⟩), .pointer (some ⟨B, 0, none⟩), .pointer (some ⟨B, k, none⟩), .int .u16 x, .int .u64 x, u45, undef, undef, undef, undef, undef, undef, undef, undef, undef, undef, undef, undef, undef, undef, undef, undef, undef, undef, undef, undef, undef, undef, undef, undef, undef, undef, undef, undef, undef, undef, undef, undef, undef, undef, undef, undef, undef], defers := [] }) rfl (by kernel_rfl) (by kernel_rfl) (by kernel_rfl) (fun _ _ _ h => h) (.inl ⟨rfl, fun _ _ => by go_simp <;> exact hwx⟩) hS rfl ?_
          refine wpAnyH_ready (rs := [3]) (by kernel_rfl) (by simp) ?_
          refine AllReadyH.cons rfl (fun K hK => ?_) AllReadyH.nil
          rw [if_pos (by rfl)]
          go_simp
          refine hK.out ({ tmps := #[.pointer (some ⟨B, 0, none⟩), .int .i64 ↑m, undef, undef, .slice none 0 0, .slice ao n c, .int .i64 ↑k, undef, .int .i64 ↑m, .bool true, .bool true, .int .i64 ↑m, .bool true, .bool true, .bool true, .int .i64 ↑k, .bool true, .bool true, u18, u19, .int .i64 ↑k, .int .i64 ↑m, .int .i64 ↑m, .bool true, .bool true, .pointer (some ⟨B, 0, none⟩), .int .i64 ↑k, .pointer (some ⟨B, 0, none⟩), .pointer (some ⟨B, 0, none⟩), .pointer (some ⟨B, k, none⟩), .int .u16 x, .bool true, .bool true, .slice ao n c, .int .i64 ↑k, .int .u8 ↑k, .slice (some ⟨wr.drew.heap.size, 0, none⟩) 1 1, u37, .pointer (some ⟨B, 0, none⟩), .int .i64 ↑k, .pointer (some ⟨B, 0, none⟩), .pointer (some ⟨B, 0, none⟩), .pointer (some ⟨B, k, none⟩), .int .u16 x, .int .u64 x, u45, undef, undef, undef, undef, undef, undef, undef, undef, undef, undef, undef, undef, undef, undef, undef, undef, undef, undef, undef, undef, undef, undef, undef, undef, undef, undef, undef, undef, undef, undef, undef, undef, undef, undef, undef, undef, undef], defers := [] }) _ ((BX.out _ _ _ _ _ (M0.out.kept ((Below.refl _ _).alloc (Nat.le_refl _) _)))) (fun hS => ?_)
          clear hK K
          refine wpAnyH_ready (rs := [4]) (by kernel_rfl) (by simp) ?_
          refine AllReadyH.cons rfl (fun K hK => ?_) AllReadyH.nil
          rw [if_pos (by rfl)]
          refine app_mine (M0.out.kept ((Below.refl _ _).alloc (Nat.le_refl _) _)) (.tmp 33) (.tmp 36) rfl rfl (some ⟨wr.drew.heap.size, 0, none⟩) 1 1 [(k : Int)] rfl rfl (by exact bytes_new _ [(k : Int)] 5) (by intro h; cases h) (by omega) ?_
          intro a1 c1 w4 M4 _ _
          refine hK.out ({ tmps := #[.pointer (some ⟨B, 0, none⟩), .int .i64 ↑m, undef, undef, .slice none 0 0, .slice ao n c, .int .i64 ↑k, undef, .int .i64 ↑m, .bool true, .bool true, .int .i64 ↑m, .bool true, .bool true, .bool true, .int .i64 ↑k, .bool true, .bool true, u18, u19, .int .i64 ↑k, .int .i64 ↑m, .int .i64 ↑m, .bool true, .bool true, .pointer (some ⟨B, 0, none⟩), .int .i64 ↑k, .pointer (some ⟨B, 0, none⟩), .pointer (some ⟨B, 0, none⟩), .pointer (some ⟨B, k, none⟩), .int .u16 x, .bool true, .bool true, .slice ao n c, .int .i64 ↑k, .int .u8 ↑k, .slice (some ⟨wr.drew.heap.size, 0, none⟩) 1 1, .slice a1 (n + 1) c1, .pointer (some ⟨B, 0, none⟩), .int .i64 ↑k, .pointer (some ⟨B, 0, none⟩), .pointer (some ⟨B, 0, none⟩), .pointer (some ⟨B, k, none⟩), .int .u16 x, .int .u64 x, u45, undef, undef, undef, undef, undef, undef, undef, undef, undef, undef, undef, undef, undef, undef, undef, undef, undef, undef, undef, undef, undef, undef, undef, undef, undef, undef, undef, undef, undef, undef, undef, undef, undef, undef, undef, undef, undef], defers := [] }) _ ((BX.out _ _ _ _ _ M4)) (fun hS => ?_)
          clear hK K
          refine wpAnyH_ready (rs := [12]) (by kernel_rfl) (by simp) ?_
          refine AllReadyH.cons rfl (fun K hK => ?_) AllReadyH.nil
          rw [if_pos (by rfl)]
          go_simp
          refine Calls.mono (put_mine w.heap.size w a1 (n + 1) c1 (xs ++ [(k : Int)]) x 2 (n + 3) _ M4 (by omega) (by omega) (by omega)) ?_
          rintro e w5 ⟨a2, c2, rfl, M5⟩
          refine hK.out ({ tmps := #[.pointer (some ⟨B, 0, none⟩), .int .i64 ↑m, undef, undef, .slice none 0 0, .slice ao n c, .int .i64 ↑k, undef, .int .i64 ↑m, .bool true, .bool true, .int .i64 ↑m, .bool true, .bool true, .bool true, .int .i64 ↑k, .bool true, .bool true, u18, u19, .int .i64 ↑k, .int .i64 ↑m, .int .i64 ↑m, .bool true, .bool true, .pointer (some ⟨B, 0, none⟩), .int .i64 ↑k, .pointer (some ⟨B, 0, none⟩), .pointer (some ⟨B, 0, none⟩), .pointer (some ⟨B, k, none⟩), .int .u16 x, .bool true, .bool true, .slice ao n c, .int .i64 ↑k, .int .u8 ↑k, .slice (some ⟨wr.drew.heap.size, 0, none⟩) 1 1, .slice a1 (n + 1) c1, .pointer (some ⟨B, 0, none⟩), .int .i64 ↑k, .pointer (some ⟨B, 0, none⟩), .pointer (some ⟨B, 0, none⟩), .pointer (some ⟨B, k, none⟩), .int .u16 x, .int .u64 x, .slice a2 (n + 3) c2, undef, undef, undef, undef, undef, undef, undef, undef, undef, undef, undef, undef, undef, undef, undef, undef, undef, undef, undef, undef, undef, undef, undef, undef, undef, undef, undef, undef, undef, undef, undef, undef, undef, undef, undef, undef, undef], defers := [] }) _ ((BX.out _ _ _ _ _ M5)) (fun hS => ?_)
          clear hK K
          refine takeA (i := 13) (v := .slice a2 (n + 3) c2) ({ tmps := #[.pointer (some ⟨B, 0, none⟩), .int .i64 ↑m, undef, undef, .slice none 0 0, .slice a2 (n + 3) c2, .int .i64 ↑k, undef, .int .i64 ↑m, .bool true, .bool true, .int .i64 ↑m, .bool true, .bool true, .bool true, .int .i64 ↑k, .bool true, .bool true, u18, u19, .int .i64 ↑k, .int .i64 ↑m, .int .i64 ↑m, .bool true, .bool true, .pointer (some ⟨B, 0, none⟩), .int .i64 ↑k, .pointer (some ⟨B, 0, none⟩), .pointer (some ⟨B, 0, none⟩), .pointer (some ⟨B, k, none⟩), .int .u16 x, .bool true, .bool true, .slice ao n c, .int .i64 ↑k, .int .u8 ↑k, .slice (some ⟨wr.drew.heap.size, 0, none⟩) 1 1, .slice a1 (n + 1) c1, .pointer (some ⟨B, 0, none⟩), .int .i64 ↑k, .pointer (some ⟨B, 0, none⟩), .pointer (some ⟨B, 0, none⟩), .pointer (some ⟨B, k, none⟩), .int .u16 x, .int .u64 x, .slice a2 (n + 3) c2, undef, undef, undef, undef, undef, undef, undef, undef, undef, undef, undef, undef, undef, undef, undef, undef, undef, undef, undef, undef, undef, undef, undef, undef, undef, undef, undef, undef, undef, undef, undef, undef, undef, undef, undef, undef, undef], defers := [] }) rfl (by kernel_rfl) (by kernel_rfl) (by kernel_rfl) (fun _ _ _ h => h) (.inl ⟨rfl, fun _ _ => rfl⟩) hS rfl ?_
          refine wpAnyH_done (by kernel_rfl) ?_ _
          have I5 : Hid (PI w w5 (.slice a2 (n + 3) c2) V m (k + 1)) := Lib.hid ⟨a2, n + 3, c2, _, rfl, M5, by
            rw [be_2, List.append_assoc, List.append_assoc]
            have := pgs_yes (V := V) (p := m) hk64 ⟨hm.out.symm, by rw [← hx.out]; exact h0.out⟩
            rw [← hx.out] at this
            show xs ++ ([(k : Int), x / 256 % 256, x % 256] ++ _) = _
            rw [this]; exact HX.out⟩
          clear hS M4 M5
          go_wp2_with fail
          exact ⟨⟨k + 1, by go_num, by omega, I5⟩, by simp [intOf]; omega⟩
      · have hb : ((m : Int) == (p : Int)) = false := by simp; omega
        have hb2 : (m == p) = false := by simpa using hmp
        have I2 : Hid (PI w wr (.slice ao n c) V p (k + 1)) := Lib.hid ⟨ao, n, c, xs, rfl, HI.out, by rw [pgs_no hk64 (fun h => hmp (hm.out.trans h.1))]; exact HX.out⟩
        go_wp2_with fail
        exact ⟨⟨k + 1, by go_num, by omega, I2⟩, by simp [intOf]; omega⟩
    · obtain rfl : k = 64 := by omega
      go_wp2_with fail
      go_loopw [5, 7] (fun v5 v7 wx => v5 = .slice ao n c ∧ v7 = .int .i64 1 ∧ wx = wr) (fun _ _ _ => 0)
      case atStart => exact ⟨rfl, rfl, rfl⟩
      case round =>
      obtain ⟨rfl, rfl, rfl⟩ := hrel
      go_wp2_with fail
      go_ret
      have hx := HX.out
      rw [pgs_end (by omega), List.append_nil] at hx
      subst hx
      have h1 := HI.out.own.1
      obtain rfl : n = (pg V p).length := by simp [vals] at h1; omega
      exact ⟨ao, c, rfl, ⟨HI.out.own, fun ad e => by subst e; exact HI.out.since _ rfl⟩, HI.out.below⟩

set_option maxHeartbeats 16000000 in
theorem refPage_last (w : World) (B : Nat) (V T R : Nat → Int) (h : Rp w B V T R) (TR : ∀ i, 0 ≤ T i ∧ T i ≤ 4294967295) (RR : ∀ i, 0 ≤ R i ∧ R i ≤ 4294967295) :
    Calls Try.prog 16 #[.pointer (some ⟨B, 0, none⟩), .int .i64 7] w fun e w' => ∃ ao c, e = .returned (.slice ao (cg T R 0).length c) ∧ New w.heap.size w' ao c (cg T R 0) ∧ Below w.heap.size w w' := by
  have K0 : CIr w w (.slice none 0 0) T R 0 := ⟨none, 0, 0, [], rfl, Mine.nil w, by rw [List.nil_append]⟩
  replace K0 := Lib.hid K0
  have HM := Lib.hid h
  have hlt := Lib.hid h.lt
  replace TR := Lib.hid TR
  replace RR := Lib.hid RR
  clear h
  go_enter Try.func16, Try.ntmps16
  go_wp2_with fail
  go_loopw [5, 6] (fun v5 v6 wx => v5 = .slice none 0 0 ∧ v6 = .int .i64 0 ∧ w = wx) (fun _ _ _ => 0)
  case atStart => exact ⟨rfl, rfl, rfl⟩
  case round =>
  obtain ⟨rfl, rfl, rfl⟩ := hrel
  go_wp2_with fail
  go_loopw [5, 7] (fun v5 v7 wr => ∃ i : Nat, v7 = .int .i64 ((i : Int) + 1) ∧ i ≤ 4 ∧ Hid (CIr w wr v5 T R i)) (fun _ v7 _ => 5 - (intOf v7).toNat)
  case atStart => exact ⟨0, rfl, by omega, K0⟩
  case round =>
    obtain ⟨i, rfl, hi, I⟩ := hrel
    obtain ⟨ao, n, c, xs, rfl, hI, hxs⟩ := I.out
    have HI := Lib.hid hI
    have HX := Lib.hid hxs
    clear I hI hxs
    rename_i wr
    by_cases hi4 : i < 4
    · have hi4' : (i : Int) + 1 ≤ 4 := by omega
      have h1 := (HM.out.below HI.out.below hlt.out).ts i hi4
      have h2 := (HM.out.below HI.out.below hlt.out).rs i hi4
      have hn36 : n ≤ 36 := by
        have h1 := HI.out.own.1
        have h2 := fitsC HX.out
        simp [vals] at h1; omega
      obtain ⟨t, ht⟩ : ∃ t, t = T i := ⟨_, rfl⟩
      obtain ⟨r, hr⟩ : ∃ r, r = R i := ⟨_, rfl⟩
      obtain ⟨q, hq⟩ : ∃ q, q = i + 1 := ⟨_, rfl⟩
      have eq1 : ((i : Int) + 1) = (q : Int) := by omega
      rw [← ht, ← hq] at h1
      rw [← hr, ← hq] at h2
      rw [eq1]
      rw [eq1] at hi4'
      have hq5 : (q : Int) < 5 := by omega
      have hq1 : (1 : Int) ≤ q := by omega
      replace ht := Lib.hid ht
      replace hr := Lib.hid hr
      replace hq := Lib.hid hq
      clear eq1
      by_cases h0 : t = 0
      · have I2 : Hid (CIr w wr (.slice ao n c) T R (i + 1)) := Lib.hid ⟨ao, n, c, xs, rfl, HI.out, by rw [cg_no hi4 (by rw [← ht.out]; exact h0)]; exact HX.out⟩
        have hb : (t != 0) = false := by rw [h0]; rfl
        clear h0
        go_wp2_with fail
        exact ⟨⟨i + 1, by have := hq.out; rw [show (((i + 1 : Nat) : Int) + 1) = (q : Int) + 1 by omega], by omega, I2⟩, by simp [intOf]; omega⟩
      · have hb : (t != 0) = true := by simp only [bne_iff_ne]; exact h0
        replace h0 := Lib.hid h0
        go_wp2_with fail
        have CT : ∀ wx, Below w.heap.size w wx → wx.cell? ⟨B, 64 + q, none⟩ = some (.int .u32 t) := fun wx hw => by
          have := (HM.out.below hw hlt.out).ts i hi4
          rwa [← ht.out, ← hq.out] at this
        have CR : ∀ wx, Below w.heap.size w wx → wx.cell? ⟨B, 69 + q, none⟩ = some (.int .u32 r) := fun wx hw => by
          have := (HM.out.below hw hlt.out).rs i hi4
          rwa [← hr.out, ← hq.out] at this
        have BX : Hid (∀ (wx : World) (a : Option Addr) (n c : Nat) (l : List Int), Mine w.heap.size w wx a n c l → Below w.heap.size w wx) := Lib.hid (fun _ _ _ _ _ h => h.below)
        have M0 := Lib.hid (HI.out.kept ((Below.refl _ wr).drew))
        have ht0 := TR.out i
        have hr0 := RR.out i
        rw [← ht.out] at ht0
        rw [← hr.out] at hr0
        have hwt : IntKind.u64.wrap t = t := by rw [IntKind.wrap_u64]; omega
        have hwr : IntKind.u64.wrap r = r := by rw [IntKind.wrap_u64]; omega
        have hwq : IntKind.u8.wrap (q : Int) = q := by show (q : Int) % 256 = q; omega
        clear h1 h2 ht0 hr0
        refine wp_region_held_drew (S := Below w.heap.size w) (by kernel_rfl) ((BX.out _ _ _ _ _ M0.out)) (fun hS => ?_)
        refine takeA (i := 0) (v := .slice ao n c) ({ tmps := #[.pointer (some ⟨B, 0, none⟩), .int .i64 7, undef, undef, .slice none 0 0, .slice ao n c, .int .i64 0, .int .i64 ↑q, .int .i64 7, .bool true, .bool true, .int .i64 7, .bool false, .bool false, .bool false, undef, undef, .bool false, u18, u19, u20, u21, u22, u23, u24, u25, u26, u27, u28, u29, u30, u31, u32, u33, u34, u35, u36, u37, u38, u39, u40, u41, u42, u43, u44, u45, .int .i64 7, .bool true, .bool true, .int .i64 ↑q, .bool true, .bool true, u52, u53, .pointer (some ⟨B, 0, none⟩), .int .i64 ↑q, .pointer (some ⟨B, 0, none⟩), .pointer (some ⟨B, 64, none⟩), .pointer (some ⟨B, 64 + q, none⟩), .int .u32 t, .bool true, .slice ao n c, u62, u63, u64, u65, u66, u67, u68, u69, u70, u71, u72, u73, u74, u75, u76, u77, u78, u79, u80, u81, undef], defers := [] }) rfl (by kernel_rfl) (by kernel_rfl) (by kernel_rfl) (fun _ _ _ h => h) (.inl ⟨rfl, fun _ _ => rfl⟩) hS rfl ?_
        refine takeA (i := 1) (v := .int .i64 ↑q) ({ tmps := #[.pointer (some ⟨B, 0, none⟩), .int .i64 7, undef, undef, .slice none 0 0, .slice ao n c, .int .i64 0, .int .i64 ↑q, .int .i64 7, .bool true, .bool true, .int .i64 7, .bool false, .bool false, .bool false, undef, undef, .bool false, u18, u19, u20, u21, u22, u23, u24, u25, u26, u27, u28, u29, u30, u31, u32, u33, u34, u35, u36, u37, u38, u39, u40, u41, u42, u43, u44, u45, .int .i64 7, .bool true, .bool true, .int .i64 ↑q, .bool true, .bool true, u52, u53, .pointer (some ⟨B, 0, none⟩), .int .i64 ↑q, .pointer (some ⟨B, 0, none⟩), .pointer (some ⟨B, 64, none⟩), .pointer (some ⟨B, 64 + q, none⟩), .int .u32 t, .bool true, .slice ao n c, .int .i64 ↑q, u63, u64, u65, u66, u67, u68, u69, u70, u71, u72, u73, u74, u75, u76, u77, u78, u79, u80, u81, undef], defers := [] }) rfl (by kernel_rfl) (by kernel_rfl) (by kernel_rfl) (fun _ _ _ h => h) (.inl ⟨rfl, fun _ _ => rfl⟩) hS rfl ?_
        refine takeA (i := 2) (v := .int .u8 ↑q) ({ tmps := #[.pointer (some ⟨B, 0, none⟩), .int .i64 7, undef, undef, .slice none 0 0, .slice ao n c, .int .i64 0, .int .i64 ↑q, .int .i64 7, .bool true, .bool true, .int .i64 7, .bool false, .bool false, .bool false, undef, undef, .bool false, u18, u19, u20, u21, u22, u23, u24, u25, u26, u27, u28, u29, u30, u31, u32, u33, u34, u35, u36, u37, u38, u39, u40, u41, u42, u43, u44, u45, .int .i64 7, .bool true, .bool true, .int .i64 ↑q, .bool true, .bool true, u52, u53, .pointer (some ⟨B, 0, none⟩), .int .i64 ↑q, .pointer (some ⟨B, 0, none⟩), .pointer (some ⟨B, 64, none⟩), .pointer (some ⟨B, 64 + q, none⟩), .int .u32 t, .bool true, .slice ao n c, .int .i64 ↑q, .int .u8 ↑q, u64, u65, u66, u67, u68, u69, u70, u71, u72, u73, u74, u75, u76, u77, u78, u79, u80, u81, undef], defers := [] }) rfl (by kernel_rfl) (by kernel_rfl) (by kernel_rfl) (fun _ _ _ h => h) (.inl ⟨rfl, fun _ _ => by go_simp <;> exact hwq⟩) hS rfl ?_
        refine takeA (i := 5) (v := .pointer (some ⟨B, 0, none⟩)) ({ tmps := #[.pointer (some ⟨B, 0, none⟩), .int .i64 7, undef, undef, .slice none 0 0, .slice ao n c, .int .i64 0, .int .i64 ↑q, .int .i64 7, .bool true, .bool true, .int .i64 7, .bool false, .bool false, .bool false, undef, undef, .bool false, u18, u19, u20, u21, u22, u23, u24, u25, u26, u27, u28, u29, u30, u31, u32, u33, u34, u35, u36, u37, u38, u39, u40, u41, u42, u43, u44, u45, .int .i64 7, .bool true, .bool true, .int .i64 ↑q, .bool true, .bool true, u52, u53, .pointer (some ⟨B, 0, none⟩), .int .i64 ↑q, .pointer (some ⟨B, 0, none⟩), .pointer (some ⟨B, 64, none⟩), .pointer (some ⟨B, 64 + q, none⟩), .int .u32 t, .bool true, .slice ao n c, .int .i64 ↑q, .int .u8 ↑q, u64, u65, .pointer (some ⟨B, 0, none⟩), u67, u68, u69, u70, u71, u72, u73, u74, u75, u76, u77, u78, u79, u80, u81, undef], defers := [] }) rfl (by kernel_rfl) (by kernel_rfl) (by kernel_rfl) (fun _ _ _ h => h) (.inl ⟨rfl, fun _ _ => rfl⟩) hS rfl ?_
        refine takeA (i := 6) (v := .int .i64 ↑q) ({ tmps := #[.pointer (some ⟨B, 0, none⟩), .int .i64 7, undef, undef, .slice none 0 0, .slice ao n c, .int .i64 0, .int .i64 ↑q, .int .i64 7, .bool true, .bool true, .int .i64 7, .bool false, .bool false, .bool false, undef, undef, .bool false, u18, u19, u20, u21, u22, u23, u24, u25, u26, u27, u28, u29, u30, u31, u32, u33, u34, u35, u36, u37, u38, u39, u40, u41, u42, u43, u44, u45, .int .i64 7, .bool true, .bool true, .int .i64 ↑q, .bool true, .bool true, u52, u53, .pointer (some ⟨B, 0, none⟩), .int .i64 ↑q, .pointer (some ⟨B, 0, none⟩), .pointer (some ⟨B, 64, none⟩), .pointer (some ⟨B, 64 + q, none⟩), .int .u32 t, .bool true, .slice ao n c, .int .i64 ↑q, .int .u8 ↑q, u64, u65, .pointer (some ⟨B, 0, none⟩), .int .i64 ↑q, u68, u69, u70, u71, u72, u73, u74, u75, u76, u77, u78, u79, u80, u81, undef], defers := [] }) rfl (by kernel_rfl) (by kernel_rfl) (by kernel_rfl) (fun _ _ _ h => h) (.inl ⟨rfl, fun _ _ => rfl⟩) hS rfl ?_
        refine takeA (i := 7) (v := .pointer (some ⟨B, 0, none⟩)) ({ tmps := #[.pointer (some ⟨B, 0, none⟩), .int .i64 7, undef, undef, .slice none 0 0, .slice ao n c, .int .i64 0, .int .i64 ↑q, .int .i64 7, .bool true, .bool true, .int .i64 7, .bool false, .bool false, .bool false, undef, undef, .bool false, u18, u19, u20, u21, u22, u23, u24, u25, u26, u27, u28, u29, u30, u31, u32, u33, u34, u35, u36, u37, u38, u39, u40, u41, u42, u43, u44, u45, .int .i64 7, .bool true, .bool true, .int .i64 ↑q, .bool true, .bool true, u52, u53, .pointer (some ⟨B, 0, none⟩), .int .i64 ↑q, .pointer (some ⟨B, 0, none⟩), .pointer (some ⟨B, 64, none⟩), .pointer (some ⟨B, 64 + q, none⟩), .int .u32 t, .bool true, .slice ao n c, .int .i64 ↑q, .int .u8 ↑q, u64, u65, .pointer (some ⟨B, 0, none⟩), .int .i64 ↑q, .pointer (some ⟨B, 0, none⟩), u69, u70, u71, u72, u73, u74, u75, u76, u77, u78, u79, u80, u81, undef], defers := [] }) rfl (by kernel_rfl) (by kernel_rfl) (by kernel_rfl) (fun _ _ _ h => h) (.inl ⟨rfl, fun _ _ => by go_simp⟩) hS rfl ?_
        refine takeA (i := 8) (v := .pointer (some ⟨B, 64, none⟩)) ({ tmps := #[.pointer (some ⟨B, 0, none⟩), .int .i64 7, undef, undef, .slice none 0 0, .slice ao n c, .int .i64 0, .int .i64 ↑q, .int .i64 7, .bool true, .bool true, .int .i64 7, .bool false, .bool false, .bool false, undef, undef, .bool false, u18, u19, u20, u21, u22, u23, u24, u25, u26, u27, u28, u29, u30, u31, u32, u33, u34, u35, u36, u37, u38, u39, u40, u41, u42, u43, u44, u45, .int .i64 7, .bool true, .bool true, .int .i64 ↑q, .bool true, .bool true, u52, u53, .pointer (some ⟨B, 0, none⟩), .int .i64 ↑q, .pointer (some ⟨B, 0, none⟩), .pointer (some ⟨B, 64, none⟩), .pointer (some ⟨B, 64 + q, none⟩), .int .u32 t, .bool true, .slice ao n c, .int .i64 ↑q, .int .u8 ↑q, u64, u65, .pointer (some ⟨B, 0, none⟩), .int .i64 ↑q, .pointer (some ⟨B, 0, none⟩), .pointer (some ⟨B, 64, none⟩), u70, u71, u72, u73, u74, u75, u76, u77, u78, u79, u80, u81, undef], defers := [] }) rfl (by kernel_rfl) (by kernel_rfl) (by kernel_rfl) (fun _ _ _ h => h) (.inl ⟨rfl, fun _ _ => by go_simp⟩) hS rfl ?_
        refine takeA (i := 9) (v := .pointer (some ⟨B, 64 + q, none⟩)) ({ tmps := #[.pointer (some ⟨B, 0, none⟩), .int .i64 7, undef, undef, .slice none 0 0, .slice ao n c, .int .i64 0, .int .i64 ↑q, .int .i64 7, .bool true, .bool true, .int .i64 7, .bool false, .bool false, .bool false, undef, undef, .bool false, u18, u19, u20, u21, u22, u23, u24, u25, u26, u27, u28, u29, u30, u31, u32, u33, u34, u35, u36, u37, u38, u39, u40, u41, u42, u43, u44, u45, .int .i64 7, .bool true, .bool true, .int .i64 ↑q, .bool true, .bool true, u52, u53, .pointer (some ⟨B, 0, none⟩), .int .i64 ↑q, .pointer (some ⟨B, 0, none⟩), .pointer (some ⟨B, 64, none⟩), .pointer (some ⟨B, 64 + q, none⟩), .int .u32 t, .bool true, .slice ao n c, .int .i64 ↑q, .int .u8 ↑q, u64, u65, .pointer (some ⟨B, 0, none⟩), .int .i64 ↑q, .pointer (some ⟨B, 0, none⟩), .pointer (some ⟨B, 64, none⟩), .pointer (some ⟨B, 64 + q, none⟩), u71, u72, u73, u74, u75, u76, u77, u78, u79, u80, u81, undef], defers := [] }) rfl (by kernel_rfl) (by kernel_rfl) (by kernel_rfl) (fun _ _ _ h => h) (.inl ⟨rfl, fun _ _ => by go_simp⟩) hS rfl ?_
        refine takeA (i := 10) (v := .int .u32 t) ({ tmps := #[.pointer (some ⟨B, 0, none⟩), .int .i64 7, undef, undef, .slice none 0 0, .slice ao n c, .int .i64 0, .int .i64 ↑q, .int .i64 7, .bool true, .bool true, .int .i64 7, .bool false, .bool false, .bool false, undef, undef, .bool false, u18, u19, u20, u21, u22, u23, u24, u25, u26, u27, u28, u29, u30, u31, u32, u33, u34, u35, u36, u37, u38, u39, u40, u41, u42, u43, u44, u45, .int .i64 7, .bool true, .bool true, .int .i64 ↑q, .bool true, .bool true, u52, u53, .pointer (some ⟨B, 0, none⟩), .int .i64 ↑q, .pointer (some ⟨B, 0, none⟩), .pointer (some ⟨B, 64, none⟩), .pointer (some ⟨B, 64 + q, none⟩), .int .u32 t, .bool true, .slice ao n c, .int .i64 ↑q, .int .u8 ↑q, u64, u65, .pointer (some ⟨B, 0, none⟩), .int .i64 ↑q, .pointer (some ⟨B, 0, none⟩), .pointer (some ⟨B, 64, none⟩), .pointer (some ⟨B, 64 + q, none⟩), .int .u32 t, u72, u73, u74, u75, u76, u77, u78, u79, u80, u81, undef], defers := [] }) rfl (by kernel_rfl) (by kernel_rfl) (by kernel_rfl) (fun _ _ _ h => h) (yi_load 29 _ (.pointer (some ⟨B, 64 + q, none⟩)) rfl rfl rfl (fun w hw => by have q := CT w hw; go_simp)) hS rfl ?_
        refine takeA (i := 11) (v := .int .u64 t) ({ tmps := #[.pointer (some ⟨B, 0, none⟩), .int .i64 7, undef, undef, .slice none 0 0, .slice ao n c, .int .i64 0, .int .i64 ↑q, .int .i64 7, .bool true, .bool true, .int .i64 7, .bool false, .bool false, .bool false, undef, undef, .bool false, u18, u19, u20, u21, u22, u23, u24, u25, u26, u27, u28, u29, u30, u31, u32, u33, u34, u35, u36, u37, u38, u39, u40, u41, u42, u43, u44, u45, .int .i64 7, .bool true, .bool true, .int .i64 ↑q, .bool true, .bool true, u52, u53, .pointer (some ⟨B, 0, none⟩), .int .i64 ↑q, .pointer (some ⟨B, 0, none⟩), .pointer (some ⟨B, 64, none⟩), .pointer (some ⟨B, 64 + q, none⟩), .int .u32 t, .bool true, .slice ao n c, .int .i64 ↑q, .int .u8 ↑q, u64, u65, .pointer (some ⟨B, 0, none⟩), .int .i64 ↑q, .pointer (some ⟨B, 0, none⟩), .pointer (some ⟨B, 64, none⟩), .pointer (some ⟨B, 64 + q, none⟩), .int .u32 t, .int .u64 t, u73, u74, u75, u76, u77, u78, u79, u80, u81, undef], defers := [] }) rfl (by kernel_rfl) (by kernel_rfl) (by kernel_rfl) (fun _ _ _ h => h) (.inl ⟨rfl, fun _ _ => by go_simp <;> exact hwt⟩) hS rfl ?_
        refine takeA (i := 13) (v := .pointer (some ⟨B, 0, none⟩)) ({ tmps := #[.pointer (some ⟨B, 0, none⟩), .int .i64 7, undef, undef, .slice none 0 0, .slice ao n c, .int .i64 0, .int .i64 ↑q, .int .i64 7, .bool true, .bool true, .int .i64 7, .bool false, .bool false, .bool false, undef, undef, .bool false, u18, u19, u20, u21, u22, u23, u24, u25, u26, u27, u28, u29, u30, u31, u32, u33, u34, u35, u36, u37, u38, u39, u40, u41, u42, u43, u44, u45, .int .i64 7, .bool true, .bool true, .int .i64 ↑q, .bool true, .bool true, u52, u53, .pointer (some ⟨B, 0, none⟩), .int .i64 ↑q, .pointer (some ⟨B, 0, none⟩), .pointer (some ⟨B, 64, none⟩), .pointer (some ⟨B, 64 + q, none⟩), .int .u32 t, .bool true, .slice ao n c, .int .i64 ↑q, .int .u8 ↑q, u64, u65, .pointer (some ⟨B, 0, none⟩), .int .i64 ↑q, .pointer (some ⟨B, 0, none⟩), .pointer (some ⟨B, 64, none⟩), .pointer (some ⟨B, 64 + q, none⟩), .int .u32 t, .int .u64 t, u73, .pointer (some ⟨B, 0, none⟩), u75, u76, u77, u78, u79, u80, u81, undef], defers := [] }) rfl (by kernel_rfl) (by kernel_rfl) (by kernel_rfl) (fun _ _ _ h => h) (.inl ⟨rfl, fun _ _ => rfl⟩) hS rfl ?_
        refine takeA (i := 14) (v := .int .i64 ↑q) ({ tmps := #[.pointer (some ⟨B, 0, none⟩), .int .i64 7, undef, undef, .slice none 0 0, .slice ao n c, .int .i64 0, .int .i64 ↑q, .int .i64 7, .bool true, .bool true, .int .i64 7, .bool false, .bool false, .bool false, undef, undef, .bool false, u18, u19, u20, u21, u22, u23, u24, u25, u26, u27, u28, u29, u30, u31, u32, u33, u34, u35, u36, u37, u38, u39, u40, u41, u42, u43, u44, u45, .int .i64 7, .bool true, .bool true, .int .i64 ↑q, .bool true, .bool true, u52, u53, .pointer (some ⟨B, 0, none⟩), .int .i64 ↑q, .pointer (some ⟨B, 0, none⟩), .pointer (some ⟨B, 64, none⟩), .pointer (some ⟨B, 64 + q, none⟩), .int .u32 t, .bool true, .slice ao n c, .int .i64 ↑q, .int .u8 ↑q, u64, u65, .pointer (some ⟨B, 0, none⟩), .int .i64 ↑q, .pointer (some ⟨B, 0, none⟩), .pointer (some ⟨B, 64, none⟩), .pointer (some ⟨B, 64 + q, none⟩), .int .u32 t, .int .u64 t, u73, .pointer (some ⟨B, 0, none⟩), .int .i64 ↑q, u76, u77, u78, u79, u80, u81, undef], defers := [] }) rfl (by kernel_rfl) (by kernel_rfl) (by kernel_rfl) (fun _ _ _ h => h) (.inl ⟨rfl, fun _ _ => rfl⟩) hS rfl ?_
        refine takeA (i := 15) (v := .pointer (some ⟨B, 0, none⟩)) ({ tmps := #[.pointer (some ⟨B, 0, none⟩), .int .i64 7, undef, undef, .slice none 0 0, .slice ao n c, .int .i64 0, .int .i64 ↑q, .int .i64 7, .bool true, .bool true, .int .i64 7, .bool false, .bool false, .bool false, undef, undef, .bool false, u18, u19, u20, u21, u22, u23, u24, u25, u26, u27, u28, u29, u30, u31, u32, u33, u34, u35, u36, u37, u38, u39, u40, u41, u42, u43, u44, u45, .int .i64 7, .bool true, .bool true, .int .i64 ↑q, .bool true, .bool true, u52, u53, .pointer (some ⟨B, 0, none⟩), .int .i64 ↑q, .pointer (some ⟨B, 0, none⟩), .pointer (some ⟨B, 64, none⟩), .pointer (some ⟨B, 64 + q, none⟩), .int .u32 t, .bool true, .slice ao n c, .int .i64 ↑q, .int .u8 ↑q, u64, u65, .pointer (some ⟨B, 0, none⟩), .int .i64 ↑q, .pointer (some ⟨B, 0, none⟩), .pointer (some ⟨B, 64, none⟩), .pointer (some ⟨B, 64 + q, none⟩), .int .u32 t, .int .u64 t, u73, .pointer (some ⟨B, 0, none⟩), .int .i64 ↑q, .pointer (some ⟨B, 0, none⟩), u77, u78, u79, u80, u81, undef], defers := [] }) rfl (by kernel_rfl) (by kernel_rfl) (by kernel_rfl) (fun _ _ _ h => h) (.inl ⟨rfl, fun _ _ => by go_simp⟩) hS rfl ?_
        refine takeA (i := 16) (v := .pointer (some ⟨B, 69, none⟩)) ({ tmps := #[.pointer (some ⟨B, 0, none⟩), .int .i64 7, undef, undef, .slice none 0 0, .slice ao n c, .int .i64 0, .int .i64 ↑q, .int .i64 7, .bool true, .bool true, .int .i64 7, .bool false, .bool false, .bool false, undef, undef, .bool false, u18, u19, u20, u21, u22, u23, u24, u25, u26, u27, u28, u29, u30, u31, u32, u33, u34, u35, u36, u37, u38, u39, u40, u41, u42, u43, u44, u45, .int .i64 7, .bool true, .bool true, .int .i64 ↑q, .bool true, .bool true, u52, u53, .pointer (some ⟨B, 0, none⟩), .int .i64 ↑q, .pointer (some ⟨B, 0, none⟩), .pointer (some ⟨B, 64, none⟩), .pointer (some ⟨B, 64 + q, none⟩), .int .u32 t, .bool true, .slice ao n c, .int .i64 ↑q, .int .u8 ↑q, u64, u65, .pointer (some ⟨B, 0, none⟩), .int .i64 ↑q, .pointer (some ⟨B, 0, none⟩), .pointer (some ⟨B, 64, none⟩), .pointer (some ⟨B, 64 + q, none⟩), .int .u32 t, .int .u64 t, u73, .pointer (some ⟨B, 0, none⟩), .int .i64 ↑q, .pointer (some ⟨B, 0, none⟩), .pointer (some ⟨B, 69, none⟩), u78, u79, u80, u81, undef], defers := [] }) rfl (by kernel_rfl) (by kernel_rfl) (by kernel_rfl) (fun _ _ _ h => h) (.inl ⟨rfl, fun _ _ => by go_simp⟩) hS rfl ?_
        refine takeA (i := 17) (v := .pointer (some ⟨B, 69 + q, none⟩)) ({ tmps := #[.pointer (some ⟨B, 0, none⟩), .int .i64 7, undef, undef, .slice none 0 0, .slice ao n c, .int .i64 0, .int .i64 ↑q, .int .i64 7, .bool true, .bool true, .int .i64 7, .bool false, .bool false, .bool false, undef, undef, .bool false, u18, u19, u20, u21, u22, u23, u24, u25, u26, u27, u28, u29, u30, u31, u32, u33, u34, u35, u36, u37, u38, u39, u40, u41, u42, u43, u44, u45, .int .i64 7, .bool true, .bool true, .int .i64 ↑q, .bool true, .bool true, u52, u53, .pointer (some ⟨B, 0, none⟩), .int .i64 ↑q, .pointer (some ⟨B, 0, none⟩), .pointer (some ⟨B, 64, none⟩), .pointer (some ⟨B, 64 + q, none⟩), .int .u32 t, .bool true, .slice ao n c, .int .i64 ↑q, .int .u8 ↑q, u64, u65, .pointer (some ⟨B, 0, none⟩), .int .i64 ↑q, .pointer (some ⟨B, 0, none⟩), .pointer (some ⟨B, 64, none⟩), .pointer (some ⟨B, 64 + q, none⟩), .int .u32 t, .int .u64 t, u73, .pointer (some ⟨B, 0, none⟩), .int .i64 ↑q, .pointer (some ⟨B, 0, none⟩), .pointer (some ⟨B, 69, none⟩), .pointer (some ⟨B, 69 + q, none⟩), u79, u80, u81, undef], defers := [] }) rfl (by kernel_rfl) (by kernel_rfl) (by kernel_rfl) (fun _ _ _ h => h) (.inl ⟨rfl, fun _ _ => by go_simp⟩) hS rfl ?_
        refine takeA (i := 18) (v := .int .u32 r) ({ tmps := #[.pointer (some ⟨B, 0, none⟩), .int .i64 7, undef, undef, .slice none 0 0, .slice ao n c, .int .i64 0, .int .i64 ↑q, .int .i64 7, .bool true, .bool true, .int .i64 7, .bool false, .bool false, .bool false, undef, undef, .bool false, u18, u19, u20, u21, u22, u23, u24, u25, u26, u27, u28, u29, u30, u31, u32, u33, u34, u35, u36, u37, u38, u39, u40, u41, u42, u43, u44, u45, .int .i64 7, .bool true, .bool true, .int .i64 ↑q, .bool true, .bool true, u52, u53, .pointer (some ⟨B, 0, none⟩), .int .i64 ↑q, .pointer (some ⟨B, 0, none⟩), .pointer (some ⟨B, 64, none⟩), .pointer (some ⟨B, 64 + q, none⟩), .int .u32 t, .bool true, .slice ao n c, .int .i64 ↑q, .int .u8 ↑q, u64, u65, .pointer (some ⟨B, 0, none⟩), .int .i64 ↑q, .pointer (some ⟨B, 0, none⟩), .pointer (some ⟨B, 64, none⟩), .pointer (some ⟨B, 64 + q, none⟩), .int .u32 t, .int .u64 t, u73, .pointer (some ⟨B, 0, none⟩), .int .i64 ↑q, .pointer (some ⟨B, 0, none⟩), .pointer (some ⟨B, 69, none⟩), .pointer (some ⟨B, 69 + q, none⟩), .int .u32 r, u80, u81, undef], defers := [] }) rfl (by kernel_rfl) (by kernel_rfl) (by kernel_rfl) (fun _ _ _ h => h) (yi_load 29 _ (.pointer (some ⟨B, 69 + q, none⟩)) rfl rfl rfl (fun w hw => by have q := CR w hw; go_simp)) hS rfl ?_
        refine takeA (i := 19) (v := .int .u64 r) ({ tmps := #[.pointer (some ⟨B, 0, none⟩), .int .i64 7, undef, undef, .slice none 0 0, .slice ao n c, .int .i64 0, .int .i64 ↑q, .int .i64 7, .bool true, .bool true, .int .i64 7, .bool false, .bool false, .bool false, undef, undef, .bool false, u18, u19, u20, u21, u22, u23, u24, u25, u26, u27, u28, u29, u30, u31, u32, u33, u34, u35, u36, u37, u38, u39, u40, u41, u42, u43, u44, u45, .int .i64 7, .bool true, .bool true, .int .i64 ↑q, .bool true, .bool true, u52, u53, .pointer (some ⟨B, 0, none⟩), .int .i64 ↑q, .pointer (some ⟨B, 0, none⟩), .pointer (some ⟨B, 64, none⟩), .pointer (some ⟨B, 64 + q, none⟩), .int .u32 t, .bool true, .slice ao n c, .int .i64 ↑q, .int .u8 ↑q, u64, u65, .pointer (some ⟨B, 0, none⟩), .int .i64 ↑q, .pointer (some ⟨B, 0, none⟩), .pointer (some ⟨B, 64, none⟩), .pointer (some ⟨B, 64 + q, none⟩), .int .u32 t, .int .u64 t, u73, .pointer (some ⟨B, 0, none⟩), .int .i64 ↑q, .pointer (some ⟨B, 0, none⟩), .pointer (some ⟨B, 69, none⟩), .pointer (some ⟨B, 69 + q, none⟩), .int .u32 r, .int .u64 r, u81, undef], defers := [] }) rfl (by kernel_rfl) (by kernel_rfl) (by kernel_rfl) (fun _ _ _ h => h) (.inl ⟨rfl, fun _ _ => by go_simp <;> exact hwr⟩) hS rfl ?_
        refine wpAnyH_ready (rs := [3]) (by kernel_rfl) (by simp) ?_
        refine AllReadyH.cons rfl (fun K hK => ?_) AllReadyH.nil
        rw [if_pos (by rfl)]
        go_simp
        refine hK.out ({ tmps := #[.pointer (some ⟨B, 0, none⟩), .int .i64 7, undef, undef, .slice none 0 0, .slice ao n c, .int .i64 0, .int .i64 ↑q, .int .i64 7, .bool true, .bool true, .int .i64 7, .bool false, .bool false, .bool false, undef, undef, .bool false, u18, u19, u20, u21, u22, u23, u24, u25, u26, u27, u28, u29, u30, u31, u32, u33, u34, u35, u36, u37, u38, u39, u40, u41, u42, u43, u44, u45, .int .i64 7, .bool true, .bool true, .int .i64 ↑q, .bool true, .bool true, u52, u53, .pointer (some ⟨B, 0, none⟩), .int .i64 ↑q, .pointer (some ⟨B, 0, none⟩), .pointer (some ⟨B, 64, none⟩), .pointer (some ⟨B, 64 + q, none⟩), .int .u32 t, .bool true, .slice ao n c, .int .i64 ↑q, .int .u8 ↑q, .slice (some ⟨wr.drew.heap.size, 0, none⟩) 1 1, u65, .pointer (some ⟨B, 0, none⟩), .int .i64 ↑q, .pointer (some ⟨B, 0, none⟩), .pointer (some ⟨B, 64, none⟩), .pointer (some ⟨B, 64 + q, none⟩), .int .u32 t, .int .u64 t, u73, .pointer (some ⟨B, 0, none⟩), .int .i64 ↑q, .pointer (some ⟨B, 0, none⟩), .pointer (some ⟨B, 69, none⟩), .pointer (some ⟨B, 69 + q, none⟩), .int .u32 r, .int .u64 r, u81, undef], defers := [] }) _ ((BX.out _ _ _ _ _ (M0.out.kept ((Below.refl _ _).alloc (Nat.le_refl _) _)))) (fun hS => ?_)
        clear hK K
        refine wpAnyH_ready (rs := [4]) (by kernel_rfl) (by simp) ?_
        refine AllReadyH.cons rfl (fun K hK => ?_) AllReadyH.nil
        rw [if_pos (by rfl)]
        refine app_mine (M0.out.kept ((Below.refl _ _).alloc (Nat.le_refl _) _)) (.tmp 61) (.tmp 64) rfl rfl (some ⟨wr.drew.heap.size, 0, none⟩) 1 1 [(q : Int)] rfl rfl (by exact bytes_new _ [(q : Int)] 5) (by intro h; cases h) (by omega) ?_
        intro a1 c1 w4 M4 _ _
        refine hK.out ({ tmps := #[.pointer (some ⟨B, 0, none⟩), .int .i64 7, undef, undef, .slice none 0 0, .slice ao n c, .int .i64 0, .int .i64 ↑q, .int .i64 7, .bool true, .bool true, .int .i64 7, .bool false, .bool false, .bool false, undef, undef, .bool false, u18, u19, u20, u21, u22, u23, u24, u25, u26, u27, u28, u29, u30, u31, u32, u33, u34, u35, u36, u37, u38, u39, u40, u41, u42, u43, u44, u45, .int .i64 7, .bool true, .bool true, .int .i64 ↑q, .bool true, .bool true, u52, u53, .pointer (some ⟨B, 0, none⟩), .int .i64 ↑q, .pointer (some ⟨B, 0, none⟩), .pointer (some ⟨B, 64, none⟩), .pointer (some ⟨B, 64 + q, none⟩), .int .u32 t, .bool true, .slice ao n c, .int .i64 ↑q, .int .u8 ↑q, .slice (some ⟨wr.drew.heap.size, 0, none⟩) 1 1, .slice a1 (n + 1) c1, .pointer (some ⟨B, 0, none⟩), .int .i64 ↑q, .pointer (some ⟨B, 0, none⟩), .pointer (some ⟨B, 64, none⟩), .pointer (some ⟨B, 64 + q, none⟩), .int .u32 t, .int .u64 t, u73, .pointer (some ⟨B, 0, none⟩), .int .i64 ↑q, .pointer (some ⟨B, 0, none⟩), .pointer (some ⟨B, 69, none⟩), .pointer (some ⟨B, 69 + q, none⟩), .int .u32 r, .int .u64 r, u81, undef], defers := [] }) _ ((BX.out _ _ _ _ _ M4)) (fun hS => ?_)
        clear hK K
        refine wpAnyH_ready (rs := [12]) (by kernel_rfl) (by simp) ?_
        refine AllReadyH.cons rfl (fun K hK => ?_) AllReadyH.nil
        rw [if_pos (by rfl)]
        go_simp
        refine Calls.mono (put_mine w.heap.size w a1 (n + 1) c1 (xs ++ [(q : Int)]) t 4 (n + 5) _ M4 (by omega) (by omega) (by omega)) ?_
        rintro e w5 ⟨a2, c2, rfl, M5⟩
        refine hK.out ({ tmps := #[.pointer (some ⟨B, 0, none⟩), .int .i64 7, undef, undef, .slice none 0 0, .slice ao n c, .int .i64 0, .int .i64 ↑q, .int .i64 7, .bool true, .bool true, .int .i64 7, .bool false, .bool false, .bool false, undef, undef, .bool false, u18, u19, u20, u21, u22, u23, u24, u25, u26, u27, u28, u29, u30, u31, u32, u33, u34, u35, u36, u37, u38, u39, u40, u41, u42, u43, u44, u45, .int .i64 7, .bool true, .bool true, .int .i64 ↑q, .bool true, .bool true, u52, u53, .pointer (some ⟨B, 0, none⟩), .int .i64 ↑q, .pointer (some ⟨B, 0, none⟩), .pointer (some ⟨B, 64, none⟩), .pointer (some ⟨B, 64 + q, none⟩), .int .u32 t, .bool true, .slice ao n c, .int .i64 ↑q, .int .u8 ↑q, .slice (some ⟨wr.drew.heap.size, 0, none⟩) 1 1, .slice a1 (n + 1) c1, .pointer (some ⟨B, 0, none⟩), .int .i64 ↑q, .pointer (some ⟨B, 0, none⟩), .pointer (some ⟨B, 64, none⟩), .pointer (some ⟨B, 64 + q, none⟩), .int .u32 t, .int .u64 t, .slice a2 (n + 5) c2, .pointer (some ⟨B, 0, none⟩), .int .i64 ↑q, .pointer (some ⟨B, 0, none⟩), .pointer (some ⟨B, 69, none⟩), .pointer (some ⟨B, 69 + q, none⟩), .int .u32 r, .int .u64 r, u81, undef], defers := [] }) _ ((BX.out _ _ _ _ _ M5)) (fun hS => ?_)
        clear hK K
        refine wpAnyH_ready (rs := [20]) (by kernel_rfl) (by simp) ?_
        refine AllReadyH.cons rfl (fun K hK => ?_) AllReadyH.nil
        rw [if_pos (by rfl)]
        go_simp
        refine Calls.mono (put_mine w.heap.size w a2 (n + 5) c2 (xs ++ [(q : Int)] ++ be t 4) r 4 (n + 9) _ M5 (by omega) (by omega) (by omega)) ?_
        rintro e w6 ⟨a3, c3, rfl, M6⟩
        refine hK.out ({ tmps := #[.pointer (some ⟨B, 0, none⟩), .int .i64 7, undef, undef, .slice none 0 0, .slice ao n c, .int .i64 0, .int .i64 ↑q, .int .i64 7, .bool true, .bool true, .int .i64 7, .bool false, .bool false, .bool false, undef, undef, .bool false, u18, u19, u20, u21, u22, u23, u24, u25, u26, u27, u28, u29, u30, u31, u32, u33, u34, u35, u36, u37, u38, u39, u40, u41, u42, u43, u44, u45, .int .i64 7, .bool true, .bool true, .int .i64 ↑q, .bool true, .bool true, u52, u53, .pointer (some ⟨B, 0, none⟩), .int .i64 ↑q, .pointer (some ⟨B, 0, none⟩), .pointer (some ⟨B, 64, none⟩), .pointer (some ⟨B, 64 + q, none⟩), .int .u32 t, .bool true, .slice ao n c, .int .i64 ↑q, .int .u8 ↑q, .slice (some ⟨wr.drew.heap.size, 0, none⟩) 1 1, .slice a1 (n + 1) c1, .pointer (some ⟨B, 0, none⟩), .int .i64 ↑q, .pointer (some ⟨B, 0, none⟩), .pointer (some ⟨B, 64, none⟩), .pointer (some ⟨B, 64 + q, none⟩), .int .u32 t, .int .u64 t, .slice a2 (n + 5) c2, .pointer (some ⟨B, 0, none⟩), .int .i64 ↑q, .pointer (some ⟨B, 0, none⟩), .pointer (some ⟨B, 69, none⟩), .pointer (some ⟨B, 69 + q, none⟩), .int .u32 r, .int .u64 r, .slice a3 (n + 9) c3, undef], defers := [] }) _ ((BX.out _ _ _ _ _ M6)) (fun hS => ?_)
        clear hK K
        refine takeA (i := 21) (v := .slice a3 (n + 9) c3) ({ tmps := #[.pointer (some ⟨B, 0, none⟩), .int .i64 7, undef, undef, .slice none 0 0, .slice a3 (n + 9) c3, .int .i64 0, .int .i64 ↑q, .int .i64 7, .bool true, .bool true, .int .i64 7, .bool false, .bool false, .bool false, undef, undef, .bool false, u18, u19, u20, u21, u22, u23, u24, u25, u26, u27, u28, u29, u30, u31, u32, u33, u34, u35, u36, u37, u38, u39, u40, u41, u42, u43, u44, u45, .int .i64 7, .bool true, .bool true, .int .i64 ↑q, .bool true, .bool true, u52, u53, .pointer (some ⟨B, 0, none⟩), .int .i64 ↑q, .pointer (some ⟨B, 0, none⟩), .pointer (some ⟨B, 64, none⟩), .pointer (some ⟨B, 64 + q, none⟩), .int .u32 t, .bool true, .slice ao n c, .int .i64 ↑q, .int .u8 ↑q, .slice (some ⟨wr.drew.heap.size, 0, none⟩) 1 1, .slice a1 (n + 1) c1, .pointer (some ⟨B, 0, none⟩), .int .i64 ↑q, .pointer (some ⟨B, 0, none⟩), .pointer (some ⟨B, 64, none⟩), .pointer (some ⟨B, 64 + q, none⟩), .int .u32 t, .int .u64 t, .slice a2 (n + 5) c2, .pointer (some ⟨B, 0, none⟩), .int .i64 ↑q, .pointer (some ⟨B, 0, none⟩), .pointer (some ⟨B, 69, none⟩), .pointer (some ⟨B, 69 + q, none⟩), .int .u32 r, .int .u64 r, .slice a3 (n + 9) c3, undef], defers := [] }) rfl (by kernel_rfl) (by kernel_rfl) (by kernel_rfl) (fun _ _ _ h => h) (.inl ⟨rfl, fun _ _ => rfl⟩) hS rfl ?_
        refine wpAnyH_done (by kernel_rfl) ?_ _
        have I5 : Hid (CIr w w6 (.slice a3 (n + 9) c3) T R (i + 1)) := Lib.hid ⟨a3, n + 9, c3, _, rfl, M6, by
          rw [be_4, be_4]
          have := cg_yes hi4 ht.out.symm hr.out.symm h0.out
          rw [← hq.out] at this
          rw [List.append_assoc, List.append_assoc, List.append_assoc]
          have h2 : [(q : Int)] ++ (be4 t ++ (be4 r ++ cg T R (i + 1))) = cg T R i := by rw [← this, hq.out]; simp [be4]
          rw [h2]; exact HX.out⟩
        clear hS M4 M5 M6
        go_wp2_with fail
        exact ⟨⟨i + 1, by have := hq.out; rw [show (((i + 1 : Nat) : Int) + 1) = (q : Int) + 1 by omega], by omega, I5⟩, by simp [intOf]; omega⟩
    · obtain rfl : i = 4 := by omega
      go_wp2_with fail
      go_ret
      have hx := HX.out
      rw [cg_end (by omega), List.append_nil] at hx
      subst hx
      have h1 := HI.out.own.1
      obtain rfl : n = (cg T R 0).length := by simp [vals] at h1; omega
      exact ⟨ao, c, rfl, ⟨HI.out.own, fun ad e => by subst e; exact HI.out.since _ rfl⟩, HI.out.below⟩
theorem refPage_any (w : World) (B : Nat) (p : Nat) (V T R : Nat → Int) (h : Rp w B V T R) (VR : ∀ i, 0 ≤ V i ∧ V i ≤ 65535) (TR : ∀ i, 0 ≤ T i ∧ T i ≤ 4294967295) (RR : ∀ i, 0 ≤ R i ∧ R i ≤ 4294967295) (hp : p < 8) :
    Calls Try.prog 16 #[.pointer (some ⟨B, 0, none⟩), .int .i64 p] w fun e w' => ∃ ao c, e = .returned (.slice ao (pageB V T R p).length c) ∧ New w.heap.size w' ao c (pageB V T R p) ∧ Below w.heap.size w w' := by
  unfold pageB
  by_cases h7 : p = 7
  · subst h7; rw [if_pos rfl]; exact refPage_last w B V T R h TR RR
  · rw [if_neg h7]; exact refPage_keys w B p V T R h VR (by omega)
end Go.Proofs.Ytphakceboohbhaa
