/- valueBytes, clientBytes: what they answer. -/
import Derived.Test.YtphakceboohbhaaPure
import Derived.Test.YtphakceboohbhaaOwn
import Derived.Test.YtphakceboohbhaaClis
namespace Go.Proofs.Ytphakceboohbhaa
open Go.RowKit
set_option maxRecDepth 100000

theorem Mp.below {w w' : World} {B H : Nat} {V T R : Nat → Int} (h : Mp w B V T R) (hk : Below H w w') (hB : B < H) : Mp w' B V T R := by
  unfold Mp
  rw [hk.block B hB]
  exact h

theorem pg_no {V : Nat → Int} {k : Nat} (hk : k < 64) (h : V k = 0) : pg V (k + 7) = pg V k := by
  rw [pg.eq_1 V k, if_pos hk, if_pos h, List.nil_append]
theorem pg_yes {V : Nat → Int} {k : Nat} {x : Int} (hk : k < 64) (h : V k = x) (h0 : ¬ x = 0) : [(k : Int)] ++ [x / 256 % 256, x % 256] ++ pg V (k + 7) = pg V k := by
  rw [pg.eq_1 V k, if_pos hk, h, if_neg h0]; rfl
theorem pg_end {V : Nat → Int} {k : Nat} (hk : ¬ k < 64) : pg V k = [] := by rw [pg, if_neg hk]
theorem fits {xs ys : List Int} {V : Nat → Int} {p : Nat} (h : xs ++ ys = pg V p) : xs.length ≤ 30 := by
  have := pg_short V p
  rw [← h, List.length_append] at this
  omega

set_option maxHeartbeats 1600000 in
theorem valueBytes_any (w : World) (B : Nat) (p : Nat) (V T R : Nat → Int) (h : Mp w B V T R) (hp : p < 64) :
    Calls Try.prog 32 #[.pointer (some ⟨B, 0, none⟩), .int .i64 p] w fun e w' => ∃ ao c, e = .returned (.slice ao (pg V p).length c) ∧ New w.heap.size w' ao c (pg V p) ∧ Below w.heap.size w w' := by
  have N := Lib.hid (new_own w.heap.size w w (Below.refl _ _) (Nat.le_refl _))
  have hlt := Lib.hid h.lt
  have HM := Lib.hid h
  clear h
  go_enter Try.func32, Try.ntmps32
  go_wp2_with fail
  refine N.out.mono ?_
  rintro e w1 ⟨X, rfl, hX⟩
  have HX := Lib.hid hX
  clear hX N
  go_wp2_with fail
  go_loopw [6] (fun vi wr => ∃ k xs, p ≤ k ∧ vi = .int .i64 (k : Nat) ∧ Hid (Own w.heap.size w wr X xs ∧ xs ++ pg V k = pg V p ∧ k ≤ 70)) (fun i _ => 70 - (intOf i).toNat)
  case atStart => exact ⟨p, [], Nat.le_refl _, rfl, Lib.hid ⟨HX.out, rfl, by omega⟩⟩
  case round =>
    obtain ⟨k, xs, hk, rfl, I⟩ := hrel
    rename_i wr
    by_cases hlt64 : k < 64
    · have hc := ((HM.out).below I.out.1.bel hlt.out).val k hlt64
      generalize hx : V k = x at hc
      by_cases h0 : x = 0
      · subst h0
        go_wp2_with fail
        refine ⟨⟨k + 7, xs, by omega, by go_num, Lib.hid ⟨I.out.1, by rw [pg_no hlt64 hx]; exact I.out.2.1, by omega⟩⟩, by simp [intOf]; omega⟩
      · have hlt' : (k : Int) < 64 := by omega
        have S1 := Lib.hid (u8_own w.heap.size w wr X xs k I.out.1 (by have := fits I.out.2.1; omega))
        have FX := Lib.hid (pg_yes hlt64 hx h0)
        have HXV := Lib.hid hx
        clear hx
        go_wp2_with fail
        refine S1.out.mono ?_
        rintro e w2 ⟨rfl, J⟩
        have hc2 := ((HM.out).below J.bel hlt.out).val k hlt64
        rw [HXV.out] at hc2
        have HJ := Lib.hid J
        have S2 := Lib.hid (u16_own w.heap.size w w2 X (xs ++ [(k : Int)]) x J (by have := fits I.out.2.1; simp; omega))
        clear J S1
        go_wp2_with fail
        refine S2.out.mono ?_
        rintro e w3 ⟨rfl, J⟩
        have HJ3 := Lib.hid J
        clear J S2
        go_wp2_with fail
        refine ⟨⟨k + 7, xs ++ [(k : Int)] ++ [x / 256 % 256, x % 256], by omega, by go_num, Lib.hid ⟨HJ3.out, ?_, by omega⟩⟩, by simp [intOf]; omega⟩
        have e := FX.out
        have e2 := I.out.2.1
        rw [← e] at e2
        simpa using e2
    · have hlt' : ¬ (k : Int) < 64 := by omega
      have A := Lib.hid (all_own w.heap.size w wr X xs I.out.1 (by have := fits I.out.2.1; omega))
      have e1 : xs = pg V p := by have := I.out.2.1; rwa [pg_end hlt64, List.append_nil] at this
      have HE := Lib.hid e1
      clear e1
      go_wp2_with fail
      refine A.out.mono ?_
      rintro e w2 ⟨ao, c, rfl, hn, ho⟩
      have H2 := Lib.hid (And.intro hn ho)
      clear hn ho
      go_wp2_with fail
      go_ret
      have hs := I.out.1.lt
      have hE := HE.out
      subst hE
      exact ⟨ao, c, rfl, ⟨H2.out.1.1, fun ad e => Nat.le_trans hs (H2.out.1.2 ad e)⟩, H2.out.2.bel⟩
theorem cg_no {T R : Nat → Int} {k : Nat} (hk : k < 4) (h : T k = 0) : cg T R (k + 1) = cg T R k := by
  rw [cg.eq_1 T R k, if_pos hk, if_pos h, List.nil_append]
theorem cg_yes {T R : Nat → Int} {k : Nat} {x y : Int} (hk : k < 4) (h : T k = x) (hr : R k = y) (h0 : ¬ x = 0) :
    [((k + 1 : Nat) : Int)] ++ [x / 16777216 % 256, x / 65536 % 256, x / 256 % 256, x % 256] ++ [y / 16777216 % 256, y / 65536 % 256, y / 256 % 256, y % 256] ++ cg T R (k + 1) = cg T R k := by
  rw [cg.eq_1 T R k, if_pos hk, h, hr, if_neg h0]; rfl
theorem cg_end {T R : Nat → Int} {k : Nat} (hk : ¬ k < 4) : cg T R k = [] := by rw [cg, if_neg hk]
theorem fitsC {xs ys : List Int} {T R : Nat → Int} {p : Nat} (h : xs ++ ys = cg T R p) : xs.length ≤ 36 := by
  have := cg_short T R p
  rw [← h, List.length_append] at this
  omega

theorem index46 (T R : Nat → Int) (k : Nat) (hk : k < 4) (w : World) : (Instr.index 60 (.agg #[.int .u32 (T 0), .int .u32 (R 0), .int .u32 (T 1), .int .u32 (R 1), .int .u32 (T 2), .int .u32 (R 2), .int .u32 (T 3), .int .u32 (R 3)]) (.int .i64 k)).run Try.prog w
    = .ok (.agg #[.int .u32 (T k), .int .u32 (R k)]) w := by
  rcases (by omega : k = 0 ∨ k = 1 ∨ k = 2 ∨ k = 3) with rfl | rfl | rfl | rfl <;> kernel_rfl

/-- a writer of the call's own, and block E beside it -/
def OwnE (H : Nat) (w0 w : World) (B : Nat) (xs : List Int) (E : Nat) (o : Obj) : Prop :=
  ∃ g, Wr w B g xs ∧ Below H w0 w ∧ H ≤ B ∧ (∀ k, g = some k → H ≤ k ∧ k ≠ E) ∧ E ≠ B ∧ w.heap[E]? = some o ∧ H ≤ w.heap.size
theorem OwnE.own {H : Nat} {w0 w : World} {B : Nat} {xs : List Int} {E : Nat} {o : Obj} (h : OwnE H w0 w B xs E o) : Own H w0 w B xs := by
  obtain ⟨g, h1, h2, h3, h4, _⟩ := h
  exact ⟨g, h1, h2, h3, fun k e => (h4 k e).1⟩
theorem Own.beside {H : Nat} {w0 w : World} {B : Nat} {xs : List Int} (h : Own H w0 w B xs) (o : Obj) : OwnE H w0 (w.alloc o) B xs w.heap.size o := by
  have hH := h.lt
  obtain ⟨g, h1, h2, h3, h4⟩ := h
  have hB := h1.lt
  obtain ⟨ao, n, cap, hb, ho, hg, hne⟩ := h1
  have hk : Below w.heap.size w (w.alloc o) := (Below.refl _ _).alloc (Nat.le_refl _) _
  refine ⟨g, Wr.below ⟨ao, n, cap, hb, ho, hg, hne⟩ hk, h2.trans (hk.mono hH), h3, fun k e => ⟨h4 k e, ?_⟩, by omega, heap_alloc_new _ _, by simp; omega⟩
  have := own_lt ho (hg.trans e)
  omega
theorem OwnE.step {H : Nat} {w0 w w' : World} {B : Nat} {g : Option Nat} {xs' : List Int} {E : Nat} {o : Obj} (h2 : Below H w0 w) (h3 : H ≤ B) (h4 : ∀ k, g = some k → H ≤ k ∧ k ≠ E) (hE : E ≠ B) (hE2 : w.heap[E]? = some o)
    (hH : H ≤ w.heap.size) (hw : Wrote w B g xs' w') : OwnE H w0 w' B xs' E o := by
  have hb := hw.bel hH h3 (fun k e => (h4 k e).1)
  obtain ⟨g', h1', hk, hg⟩ := hw
  have hlt := lt_of_block hE2
  refine ⟨g', h1', h2.trans hb, h3, fun k e => ?_, hE, ?_, Nat.le_trans hH hk.size⟩
  · rcases hg with rfl | ⟨j, e', hj⟩
    · exact h4 k e
    · rw [e'] at e; injection e with e; omega
  · rw [hk.block E hlt (by rintro (h | h)
                           · exact hE h
                           · exact (h4 E h.symm).2 rfl)]
    exact hE2
theorem u8_e {H : Nat} {w0 w : World} {B : Nat} {xs : List Int} {E : Nat} {o : Obj} (x : Int) (h : OwnE H w0 w B xs E o) (hl : xs.length ≤ 900000) :
    Calls Try.prog 37 #[.pointer (some ⟨B, 0, none⟩), .int .u8 x] w fun e w' => e = .returned (.tuple #[]) ∧ OwnE H w0 w' B (xs ++ [x]) E o := by
  obtain ⟨g, h1, h2, h3, h4, h5, h6, h7⟩ := h
  refine (u8_any w B g xs x h1 (by omega)).mono ?_
  rintro e w' ⟨rfl, hw⟩
  exact ⟨rfl, OwnE.step h2 h3 h4 h5 h6 h7 hw⟩
theorem u32_e {H : Nat} {w0 w : World} {B : Nat} {xs : List Int} {E : Nat} {o : Obj} (x : Int) (h : OwnE H w0 w B xs E o) (hl : xs.length ≤ 900000) :
    Calls Try.prog 38 #[.pointer (some ⟨B, 0, none⟩), .int .u32 x] w fun e w' => e = .returned (.tuple #[]) ∧ OwnE H w0 w' B (xs ++ [x / 16777216 % 256, x / 65536 % 256, x / 256 % 256, x % 256]) E o := by
  obtain ⟨g, h1, h2, h3, h4, h5, h6, h7⟩ := h
  refine (u32_any w B g xs x h1 (by omega)).mono ?_
  rintro e w' ⟨rfl, hw⟩
  exact ⟨rfl, OwnE.step h2 h3 h4 h5 h6 h7 hw⟩
theorem OwnE.cell0 {H : Nat} {w0 w : World} {B : Nat} {xs : List Int} {E : Nat} {x y : Int} (h : OwnE H w0 w B xs E (.cells #[.int .u32 x, .int .u32 y] 59)) : w.cell? ⟨E, 0, none⟩ = some (.int .u32 x) ∧ w.cell? ⟨E, 1, none⟩ = some (.int .u32 y) := by
  obtain ⟨g, h1, h2, h3, h4, h5, h6, h7⟩ := h
  exact ⟨by rw [cell_of_row w E 0 _ 59 _ h6]; rfl, by rw [cell_of_row w E 1 _ 59 _ h6]; rfl⟩

set_option maxHeartbeats 1600000 in
theorem clientBytes_any (w : World) (B : Nat) (V T R : Nat → Int) (h : Mp w B V T R) :
    Calls Try.prog 31 #[.pointer (some ⟨B, 0, none⟩)] w fun e w' => ∃ ao c, e = .returned (.slice ao (cg T R 0).length c) ∧ New w.heap.size w' ao c (cg T R 0) ∧ Below w.heap.size w w' := by
  have N := Lib.hid (new_own w.heap.size w w (Below.refl _ _) (Nat.le_refl _))
  have hlt := Lib.hid h.lt
  have HM := Lib.hid h
  clear h
  go_enter Try.func31, Try.ntmps31
  go_wp2_with fail
  refine N.out.mono ?_
  rintro e w1 ⟨X, rfl, hX⟩
  have HX := Lib.hid hX
  have h8 := (HM.out).below hX.bel hlt.out
  have a0 := h8.ts 0 (by omega)
  have a1 := h8.ts 1 (by omega)
  have a2 := h8.ts 2 (by omega)
  have a3 := h8.ts 3 (by omega)
  have b0 := h8.rs 0 (by omega)
  have b1 := h8.rs 1 (by omega)
  have b2 := h8.rs 2 (by omega)
  have b3 := h8.rs 3 (by omega)
  simp only [Nat.reduceMul, Nat.reduceAdd] at a0 a1 a2 a3 b0 b1 b2 b3
  clear hX N h8
  go_wp2_with fail
  go_loopw [11] (fun vi wr => ∃ k xs, vi = .int .i64 (k : Nat) ∧ Hid (Own w.heap.size w wr X xs ∧ xs ++ cg T R k = cg T R 0 ∧ k ≤ 4)) (fun i _ => 4 - (intOf i).toNat)
  case atStart => exact ⟨0, [], rfl, Lib.hid ⟨HX.out, rfl, by omega⟩⟩
  case round =>
    clear a0 a1 a2 a3 b0 b1 b2 b3
    obtain ⟨k, xs, rfl, I⟩ := hrel
    rename_i wr
    by_cases hlt64 : k < 4
    · have hlt' : (k : Int) < 4 := by omega
      have HI := fun w => index46 T R k hlt64 w
      have s1 : (1 : Int) ≤ k + 1 := by omega
      obtain ⟨x, hx⟩ : ∃ x, x = T k := ⟨_, rfl⟩
      obtain ⟨y, hy⟩ : ∃ y, y = R k := ⟨_, rfl⟩
      rw [← hx, ← hy] at HI
      by_cases h0 : x = 0
      · subst h0
        go_wp2_with fail
        have hb := I.out.1.below (w' := wr.alloc (.cells #[.int .u32 (T k), .int .u32 (R k)] 59)) ((Below.refl _ _).alloc (Nat.le_refl _) _)
        refine ⟨⟨k + 1, xs, by go_num, Lib.hid ⟨hb, by rw [cg_no hlt64 hx.symm]; exact I.out.2.1, by omega⟩⟩, by simp [intOf]; omega⟩
      · have FX := Lib.hid (cg_yes hlt64 hx.symm hy.symm h0)
        clear hx hy
        have hi1 := Lib.hid I.out.1.lt
        have h0' : (x != 0) = true := by simp [h0]
        have J0 := Lib.hid (I.out.1.beside (.cells #[.int .u32 x, .int .u32 y] 59))
        have LX := Lib.hid (fitsC I.out.2.1)
        have S1 := Lib.hid (u8_e ((k : Int) + 1) J0.out (by have := LX.out; omega))
        generalize hE : wr.heap.size = E at *
        have HE := Lib.hid hE
        clear hE
        go_wp2_with fail
        rw [HE.out]
        refine S1.out.mono ?_
        rintro e w2 ⟨rfl, J⟩
        have c0 := J.cell0.1
        have S2 := Lib.hid (u32_e x J (by have := LX.out; simp; omega))
        clear J S1
        go_wp2_with fail
        refine S2.out.mono ?_
        rintro e w3 ⟨rfl, J⟩
        have c1 := J.cell0.2
        have S3 := Lib.hid (u32_e y J (by have := LX.out; simp; omega))
        clear J S2 c0
        go_wp2_with fail
        refine S3.out.mono ?_
        rintro e w4 ⟨rfl, J⟩
        have HJ := Lib.hid J.own
        clear J S3 c1
        go_wp2_with fail
        refine ⟨⟨k + 1, _, by go_num, Lib.hid ⟨HJ.out, ?_, by omega⟩⟩, by simp [intOf]; omega⟩
        have e := FX.out
        have e2 := I.out.2.1
        rw [← e] at e2
        simpa using e2
    · have hlt' : ¬ (k : Int) < 4 := by omega
      have A := Lib.hid (all_own w.heap.size w wr X xs I.out.1 (by have := fitsC I.out.2.1; omega))
      have e1 : xs = cg T R 0 := by have := I.out.2.1; rwa [cg_end hlt64, List.append_nil] at this
      have HE := Lib.hid e1
      clear e1
      go_wp2_with fail
      refine A.out.mono ?_
      rintro e w2 ⟨ao, c, rfl, hn, ho⟩
      have H2 := Lib.hid (And.intro hn ho)
      clear hn ho
      go_wp2_with fail
      go_ret
      have hs := I.out.1.lt
      have hE := HE.out
      subst hE
      exact ⟨ao, c, rfl, ⟨H2.out.1.1, fun ad e => Nat.le_trans hs (H2.out.1.2 ad e)⟩, H2.out.2.bel⟩
end Go.Proofs.Ytphakceboohbhaa
