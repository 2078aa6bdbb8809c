/- Writers and readers since a world that stays as it was below; the row of known answers holds. -/
import Derived.Test.YthnebpbmhgmcmaaReadb
namespace Go.Proofs.Ythnebpbmhgmcmaa
open Go.RowKit

theorem str_bytes {w : World} {ao : Option Addr} {c : Nat} {l : List Int} (h : Bytes w ao l) (hnone : ao = none → l = []) : (convert 26 9 (.slice ao l.length c)).run Try.prog w = .ok (.string (strOfNums l)) w := by
  cases ao with
  | none =>
    obtain rfl := hnone rfl
    exact run_convert_bytes_nil w 26 5 Try.underlying26 Try.underlying5 0 c 9 Try.underlying9
  | some ad =>
    have hl : (loadCells ad l.length).run Try.prog w = .ok (l.map (Value.int .u8)).toArray w := by
      have := run_loadCells_list (P := Try.prog) w ad (vals l) (fun j v hj => by
        obtain ⟨hj', rfl⟩ := List.getElem?_eq_some_iff.1 hj
        simp only [vals, List.length_map] at hj'
        obtain ⟨ad', e, h2⟩ := h j hj'
        injection e with e; subst e
        rw [h2]; simp [vals, List.getElem?_eq_getElem hj'])
      simpa [vals] using this
    rw [run_convert_bytes_string w 26 9 5 _ l.length c Try.underlying26 Try.underlying5 Try.underlying9, run_bytesToString w _ l.length c l hl, foldl_push_bytes]
    simp [strOfNums, ByteArray.empty, ByteArray.emptyWithCapacity]
    rfl

theorem New.none {H : Nat} {w : World} {ao : Option Addr} {c : Nat} {l : List Int} (h : New H w ao c l) : ao = none → l = [] ∧ c = 0 := by
  intro e; subst e
  obtain ⟨ao', c', e, h⟩ := own_form h.1
  injection e with e1 e2 e3
  subst e1 e3
  obtain ⟨h1, h2⟩ := h rfl
  exact ⟨List.eq_nil_of_length_eq_zero h1, h2⟩

theorem str_new {H : Nat} {w : World} {ao : Option Addr} {c : Nat} {l : List Int} (h : New H w ao c l) : (convert 26 9 (.slice ao l.length c)).run Try.prog w = .ok (.string (strOfNums l)) w :=
  str_bytes (own_bytes h.1) (fun e => (h.none e).1)

theorem wr_new (w : World) : Wr (w.alloc (.cells #[.slice none 0 0] 64)) w.heap.size none [] :=
  ⟨none, 0, 0, heap_alloc_new w _, ⟨rfl, .inl ⟨rfl, rfl⟩⟩, rfl, by simp⟩

/-- since w0, of whose blocks those below H are as they were: a writer at B that has written xs -/
def Own (H : Nat) (w0 w : World) (B : Nat) (xs : List Int) : Prop := ∃ g, Wr w B g xs ∧ Below H w0 w ∧ H ≤ B ∧ ∀ k, g = some k → H ≤ k

theorem Own.lt {H : Nat} {w0 w : World} {B : Nat} {xs : List Int} (h : Own H w0 w B xs) : H ≤ w.heap.size := by
  obtain ⟨g, h1, _, h3, _⟩ := h
  exact Nat.le_of_lt (Nat.lt_of_le_of_lt h3 h1.lt)

theorem Own.step {H : Nat} {w0 w w' : World} {B : Nat} {g : Option Nat} {xs xs' : List Int} (_h : Wr w B g xs) (h2 : Below H w0 w) (h3 : H ≤ B) (h4 : ∀ k, g = some k → H ≤ k) (hH : H ≤ w.heap.size) (hw : Wrote w B g xs' w') : Own H w0 w' B xs' := by
  have hb := hw.bel hH h3 h4
  obtain ⟨g', h1', hk, hg⟩ := hw
  refine ⟨g', h1', h2.trans hb, h3, fun k e => ?_⟩
  rcases hg with rfl | ⟨j, e', hj⟩
  · exact h4 k e
  · rw [e'] at e; injection e with e; omega

theorem Own.below {H : Nat} {w0 w w' : World} {B : Nat} {xs : List Int} (h : Own H w0 w B xs) (hk : Below w.heap.size w w') : Own H w0 w' B xs := by
  have hH := h.lt
  obtain ⟨g, h1, h2, h3, h4⟩ := h
  exact ⟨g, h1.below hk, h2.trans (hk.mono hH), h3, h4⟩

theorem Own.bel {H : Nat} {w0 w : World} {B : Nat} {xs : List Int} (h : Own H w0 w B xs) : Below H w0 w := by
  obtain ⟨g, h1, h2, h3, h4⟩ := h
  exact h2

theorem own_new (H : Nat) (w0 w : World) (h : Below H w0 w) (hH : H ≤ w.heap.size) : Own H w0 (w.alloc (.cells #[.slice none 0 0] 64)) w.heap.size [] :=
  ⟨none, wr_new w, h.alloc hH _, hH, fun _ e => by cases e⟩

theorem new_own (H : Nat) (w0 w : World) (h : Below H w0 w) (hH : H ≤ w.heap.size) :
    Calls Try.prog 9 #[] w fun e w' => ∃ B, e = .returned (.pointer (some ⟨B, 0, none⟩)) ∧ Own H w0 w' B [] := by
  refine (new_any w).mono ?_
  rintro e w' ⟨rfl, rfl⟩
  exact ⟨_, rfl, own_new H w0 w h hH⟩

theorem u8_own (H : Nat) (w0 w : World) (B : Nat) (xs : List Int) (x : Int) (h : Own H w0 w B xs) (hl : xs.length ≤ 900000) :
    Calls Try.prog 10 #[.pointer (some ⟨B, 0, none⟩), .int .u8 x] w fun e w' => e = .returned (.tuple #[]) ∧ Own H w0 w' B (xs ++ [x]) := by
  have hH := h.lt
  obtain ⟨g, h1, h2, h3, h4⟩ := h
  refine (u8_any w B g xs x h1 (by omega)).mono ?_
  rintro e w' ⟨rfl, hw⟩
  exact ⟨rfl, Own.step h1 h2 h3 h4 hH hw⟩

theorem u16_own (H : Nat) (w0 w : World) (B : Nat) (xs : List Int) (x : Int) (h : Own H w0 w B xs) (hl : xs.length ≤ 900000) :
    Calls Try.prog 12 #[.pointer (some ⟨B, 0, none⟩), .int .u16 x] w fun e w' => e = .returned (.tuple #[]) ∧ Own H w0 w' B (xs ++ [x / 256 % 256, x % 256]) := by
  have hH := h.lt
  obtain ⟨g, h1, h2, h3, h4⟩ := h
  refine (u16_any w B g xs x h1 (by omega)).mono ?_
  rintro e w' ⟨rfl, hw⟩
  exact ⟨rfl, Own.step h1 h2 h3 h4 hH hw⟩

theorem u32_own (H : Nat) (w0 w : World) (B : Nat) (xs : List Int) (x : Int) (h : Own H w0 w B xs) (hl : xs.length ≤ 900000) :
    Calls Try.prog 13 #[.pointer (some ⟨B, 0, none⟩), .int .u32 x] w fun e w' => e = .returned (.tuple #[]) ∧ Own H w0 w' B (xs ++ [x / 16777216 % 256, x / 65536 % 256, x / 256 % 256, x % 256]) := by
  have hH := h.lt
  obtain ⟨g, h1, h2, h3, h4⟩ := h
  refine (u32_any w B g xs x h1 (by omega)).mono ?_
  rintro e w' ⟨rfl, hw⟩
  exact ⟨rfl, Own.step h1 h2 h3 h4 hH hw⟩

theorem u64_own (H : Nat) (w0 w : World) (B : Nat) (xs : List Int) (x : Int) (h : Own H w0 w B xs) (hl : xs.length ≤ 900000) :
    Calls Try.prog 14 #[.pointer (some ⟨B, 0, none⟩), .int .u64 x] w fun e w' => e = .returned (.tuple #[]) ∧ Own H w0 w' B (xs ++ be8 x) := by
  have hH := h.lt
  obtain ⟨g, h1, h2, h3, h4⟩ := h
  refine (u64_any w B g xs x h1 (by omega)).mono ?_
  rintro e w' ⟨rfl, hw⟩
  exact ⟨rfl, Own.step h1 h2 h3 h4 hH hw⟩

/-- bytes that were there at w0 are there still -/
theorem bytes_below {H : Nat} {w0 w : World} {ao : Option Addr} {l : List Int} (h : Bytes w0 ao l) (hb : Below H w0 w) (hH : w0.heap.size ≤ H) : Bytes w ao l :=
  bytes_kept h (Kept.ofBelow (S := fun _ => False) (hb.mono hH)) (fun _ _ _ h => h)

theorem bytes_own (H : Nat) (w0 w : World) (B : Nat) (xs : List Int) (ao : Option Addr) (cap : Nat) (l : List Int) (h : Own H w0 w B xs) (hH0 : w0.heap.size = H) (hb : Bytes w0 ao l) (hcap : l.length ≤ cap) (hnone : ao = none → cap = 0) (hl : xs.length ≤ 900000) (hl2 : l.length ≤ 60000) :
    Calls Try.prog 15 #[.pointer (some ⟨B, 0, none⟩), .slice ao l.length cap] w fun e w' => e = .returned (.tuple #[]) ∧ Own H w0 w' B (xs ++ lenBytes l) := by
  have hH := h.lt
  obtain ⟨g, h1, h2, h3, h4⟩ := h
  refine (bytes_any w B g xs ao cap l h1 (bytes_below hb h2 (by omega)) hcap hnone hl hl2 ?_).mono ?_
  · intro ad e hpos
    subst e
    have := bytes_lt hb hpos
    refine ⟨by omega, fun e => ?_⟩
    have := h4 ad.block e.symm
    omega
  rintro e w' ⟨rfl, hw⟩
  exact ⟨rfl, Own.step h1 h2 h3 h4 hH hw⟩

theorem all_own (H : Nat) (w0 w : World) (B : Nat) (xs : List Int) (h : Own H w0 w B xs) (hl : xs.length ≤ 900000) :
    Calls Try.prog 16 #[.pointer (some ⟨B, 0, none⟩)] w fun e w' => ∃ ao' c', e = .returned (.slice ao' xs.length c') ∧ New w.heap.size w' ao' c' xs ∧ Own H w0 w' B xs := by
  have h' := h
  obtain ⟨g, h1, h2, h3, h4⟩ := h
  refine (all_any w B g xs h1 (by omega)).mono ?_
  rintro e w' ⟨ao', c', rfl, hn, hk⟩
  exact ⟨ao', c', rfl, hn, h'.below hk⟩

/-- since w0: a reader at R that has l left -/
def Lft (H : Nat) (w0 w : World) (R : Nat) (l : List Int) : Prop := Rd w R l ∧ Below H w0 w ∧ H ≤ R

theorem Lft.step {H : Nat} {w0 w w' : World} {R : Nat} {l l' : List Int} (h : Lft H w0 w R l) (h1 : Rd w' R l') (hk : Kept (fun k => k = R) w w') : Lft H w0 w' R l' := by
  obtain ⟨h2, h3, h4⟩ := h
  exact ⟨h1, h3.trans (hk.below (Nat.le_of_lt (Nat.lt_of_le_of_lt h4 h2.lt)) (fun k e => by omega)), h4⟩

theorem Lft.drewN {H : Nat} {w0 w : World} {R : Nat} {l : List Int} (h : Lft H w0 w R l) (n : Nat) : Lft H w0 (w.drewN n) R l :=
  h.step (h.1.drewN n) ((Kept.refl _ w).drewN n)

theorem Lft.below {H : Nat} {w0 w w' : World} {R : Nat} {l : List Int} (h : Lft H w0 w R l) (hk : Below w.heap.size w w') : Lft H w0 w' R l := by
  obtain ⟨h2, h3, h4⟩ := h
  exact ⟨h2.below hk, h3.trans (hk.mono (Nat.le_of_lt (Nat.lt_of_le_of_lt h4 h2.lt))), h4⟩

theorem open_own (H : Nat) (w0 w : World) (ao : Option Addr) (cap : Nat) (l : List Int) (h : Below H w0 w) (hH : H ≤ w.heap.size) (hb : Bytes w ao l) (hnone : ao = none → l = [] ∧ cap = 0) (hl : l.length ≤ 900000) (hby : ∀ x ∈ l, isByte x) :
    Calls Try.prog 17 #[.slice ao l.length cap] w fun e w' => ∃ R, e = .returned (.pointer (some ⟨R, 0, none⟩)) ∧ Lft H w0 w' R l := by
  refine (open_any w ao cap l hb hnone (by omega) hby).mono ?_
  rintro e w' ⟨R, rfl, hR, hr, hk⟩
  exact ⟨R, rfl, hr, h.trans (hk.mono hH), by omega⟩

theorem isByte_mod (x : Int) : isByte (x % 256) := by unfold isByte; omega

set_option maxHeartbeats 1000000 in
theorem known_any (w : World) :
    Calls Try.prog 8 #[] w fun e w' => e = .returned (.bool true) ∧ Below w.heap.size w w' := by
  have N := Lib.hid (new_any w)
  have W0 := Lib.hid (wr_new w)
  go_enter Try.func8, Try.ntmps8
  go_wp2_with fail
  refine N.out.mono ?_
  rintro e w1 ⟨rfl, rfl⟩
  have U := Lib.hid (u16_any _ _ _ _ 258 W0.out (by simp))
  go_wp2_with fail
  refine U.out.mono ?_
  rintro e w2 ⟨rfl, g2, h2, k2, q2⟩
  have h2' : Wr (w2.alloc (.cells #[.int .u8 7] 5)) w.heap.size g2 [1, 2] := h2.kept ((Kept.refl (fun _ => False) w2).alloc _) (fun h => h) (fun _ _ h => h)
  have Y := Lib.hid (bytes_any _ _ _ _ (some ⟨w2.heap.size, 0, none⟩) 1 [7] h2' (bytes_new w2 [7] 5) (by simp) (by simp) (by simp) (by simp) (by
    intro ad e _
    injection e with e; subst e
    refine ⟨Nat.ne_of_gt h2.lt, ?_⟩
    intro e
    obtain ⟨ao, n, cap, hb, ho, hg, hne⟩ := h2
    have := own_lt ho (hg.trans e.symm)
    simp at this))
  have K2 := Lib.hid k2
  have Q2 := Lib.hid q2
  clear h2 k2 q2 h2'
  go_wp2_with fail
  refine Y.out.mono ?_
  rintro e w3 ⟨rfl, g3, h3, k3, q3⟩
  have O := Lib.hid (open_any w3 none 0 [] (fun i h => by simp at h) (fun _ => ⟨rfl, rfl⟩) (by simp) (by simp))
  have e3 : [1, 2] ++ lenBytes [7] = [1, 2, 0, 1, 7] := by decide
  rw [e3] at h3
  have H3 := Lib.hid h3
  clear e3
  have K3 := Lib.hid k3
  have Q3 := Lib.hid q3
  clear h3 k3 q3
  go_wp2_with fail
  refine O.out.mono ?_
  rintro e w4 ⟨R, rfl, hR, h4, k4⟩
  have S := Lib.hid (r8_short w4 R [] h4 (by simp))
  have H4 := Lib.hid (H3.out.below k4)
  have K4 := Lib.hid k4
  clear h4 k4
  go_wp2_with fail
  refine S.out.mono ?_
  rintro e w5 ⟨rfl, rfl⟩
  have A := Lib.hid (all_any w4 _ _ _ H4.out (by simp))
  go_wp2_with fail
  refine A.out.mono ?_
  rintro e w6 ⟨ao6, c6, rfl, h6, k6⟩
  have hs : (convert 26 9 (.slice ao6 5 c6)).run Try.prog w6 = .ok (.string ⟨#[1, 2, 0, 1, 7]⟩) w6 := str_new h6
  have K6 := Lib.hid k6
  clear h6 k6
  go_wp2_with fail
  go_ret
  refine ⟨rfl, ?_⟩
  have b1 : Below w.heap.size w (w.alloc (.cells #[.slice none 0 0] 64)) := (Below.refl _ _).alloc (Nat.le_refl _) _
  have b2 := b1.trans (K2.out.below (by simp) (fun k e => e.elim (fun e => by omega) (fun e => by cases e)))
  have b3 := (b2.alloc (by have := b2.size; omega) (.cells #[.int .u8 7] 5)).trans (K3.out.below (by have := b2.size; simp; omega) (fun k e => e.elim (fun e => by omega) (fun e => by
    rcases Q2.out with e2 | ⟨j, e2, hj⟩
    · rw [e2] at e; cases e
    · rw [e2] at e; injection e with e; simp at hj; omega)))
  have b4 := b3.trans (K4.out.mono (by have := b3.size; omega))
  exact b4.trans (K6.out.mono (by have := b4.size; omega))
end Go.Proofs.Ythnebpbmhgmcmaa
