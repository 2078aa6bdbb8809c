/- Writers and readers since a world that stays as it was below; the row of known answers holds. -/
import Derived.Test.YtphakceboohbhaaReadb
namespace Go.Proofs.Ytphakceboohbhaa
open Go.RowKit
set_option maxRecDepth 100000

theorem str_bytes {w : World} {ao : Option Addr} {c : Nat} {l : List Int} (h : Bytes w ao l) (hnone : ao = none → l = []) : (convert 43 9 (.slice ao l.length c)).run Try.prog w = .ok (.string (strOfNums l)) w := by
  cases ao with
  | none =>
    obtain rfl := hnone rfl
    exact run_convert_bytes_nil w 43 5 Try.underlying43 Try.underlying5 0 c 9 Try.underlying9
  | some ad =>
    have hl : (loadCells ad l.length).run Try.prog w = .ok (l.map (Value.int .u8)).toArray w := by
      have := run_loadCells_list (P := Try.prog) w ad (vals l) (fun j v hj => by
        obtain ⟨hj', rfl⟩ := List.getElem?_eq_some_iff.1 hj
        simp only [vals, List.length_map] at hj'
        obtain ⟨ad', e, h2⟩ := h j hj'
        injection e with e; subst e
        rw [h2]; simp [vals, List.getElem?_eq_getElem hj'])
      simpa [vals] using this
    rw [run_convert_bytes_string w 43 9 5 _ l.length c Try.underlying43 Try.underlying5 Try.underlying9, run_bytesToString w _ l.length c l hl, foldl_push_bytes]
    simp [strOfNums, ByteArray.empty, ByteArray.emptyWithCapacity]
    rfl

theorem New.none {H : Nat} {w : World} {ao : Option Addr} {c : Nat} {l : List Int} (h : New H w ao c l) : ao = none → l = [] ∧ c = 0 := by
  intro e; subst e
  obtain ⟨ao', c', e, h⟩ := own_form h.1
  injection e with e1 e2 e3
  subst e1 e3
  obtain ⟨h1, h2⟩ := h rfl
  exact ⟨List.eq_nil_of_length_eq_zero h1, h2⟩

theorem str_new {H : Nat} {w : World} {ao : Option Addr} {c : Nat} {l : List Int} (h : New H w ao c l) : (convert 43 9 (.slice ao l.length c)).run Try.prog w = .ok (.string (strOfNums l)) w :=
  str_bytes (own_bytes h.1) (fun e => (h.none e).1)

theorem wr_new (w : World) : Wr (w.alloc (.cells #[.slice none 0 0] 80)) w.heap.size none [] :=
  ⟨none, 0, 0, heap_alloc_new w _, ⟨rfl, .inl ⟨rfl, rfl⟩⟩, rfl, by simp⟩

/-- since w0, of whose blocks those below H are as they were: a writer at B that has written xs -/
def Own (H : Nat) (w0 w : World) (B : Nat) (xs : List Int) : Prop := ∃ g, Wr w B g xs ∧ Below H w0 w ∧ H ≤ B ∧ ∀ k, g = some k → H ≤ k

theorem Own.lt {H : Nat} {w0 w : World} {B : Nat} {xs : List Int} (h : Own H w0 w B xs) : H ≤ w.heap.size := by
  obtain ⟨g, h1, _, h3, _⟩ := h
  exact Nat.le_of_lt (Nat.lt_of_le_of_lt h3 h1.lt)

theorem Own.step {H : Nat} {w0 w w' : World} {B : Nat} {g : Option Nat} {xs xs' : List Int} (_h : Wr w B g xs) (h2 : Below H w0 w) (h3 : H ≤ B) (h4 : ∀ k, g = some k → H ≤ k) (hH : H ≤ w.heap.size) (hw : Wrote w B g xs' w') : Own H w0 w' B xs' := by
  have hb := hw.bel hH h3 h4
  obtain ⟨g', h1', hk, hg⟩ := hw
  refine ⟨g', h1', h2.trans hb, h3, fun k e => ?_⟩
  rcases hg with rfl | ⟨j, e', hj⟩
  · exact h4 k e
  · rw [e'] at e; injection e with e; omega

theorem Own.below {H : Nat} {w0 w w' : World} {B : Nat} {xs : List Int} (h : Own H w0 w B xs) (hk : Below w.heap.size w w') : Own H w0 w' B xs := by
  have hH := h.lt
  obtain ⟨g, h1, h2, h3, h4⟩ := h
  exact ⟨g, h1.below hk, h2.trans (hk.mono hH), h3, h4⟩

theorem Own.bel {H : Nat} {w0 w : World} {B : Nat} {xs : List Int} (h : Own H w0 w B xs) : Below H w0 w := by
  obtain ⟨g, h1, h2, h3, h4⟩ := h
  exact h2

theorem own_new (H : Nat) (w0 w : World) (h : Below H w0 w) (hH : H ≤ w.heap.size) : Own H w0 (w.alloc (.cells #[.slice none 0 0] 80)) w.heap.size [] :=
  ⟨none, wr_new w, h.alloc hH _, hH, fun _ e => by cases e⟩

theorem new_own (H : Nat) (w0 w : World) (h : Below H w0 w) (hH : H ≤ w.heap.size) :
    Calls Try.prog 36 #[] w fun e w' => ∃ B, e = .returned (.pointer (some ⟨B, 0, none⟩)) ∧ Own H w0 w' B [] := by
  refine (new_any w).mono ?_
  rintro e w' ⟨rfl, rfl⟩
  exact ⟨_, rfl, own_new H w0 w h hH⟩

theorem u8_own (H : Nat) (w0 w : World) (B : Nat) (xs : List Int) (x : Int) (h : Own H w0 w B xs) (hl : xs.length ≤ 900000) :
    Calls Try.prog 37 #[.pointer (some ⟨B, 0, none⟩), .int .u8 x] w fun e w' => e = .returned (.tuple #[]) ∧ Own H w0 w' B (xs ++ [x]) := by
  have hH := h.lt
  obtain ⟨g, h1, h2, h3, h4⟩ := h
  refine (u8_any w B g xs x h1 (by omega)).mono ?_
  rintro e w' ⟨rfl, hw⟩
  exact ⟨rfl, Own.step h1 h2 h3 h4 hH hw⟩

theorem u16_own (H : Nat) (w0 w : World) (B : Nat) (xs : List Int) (x : Int) (h : Own H w0 w B xs) (hl : xs.length ≤ 900000) :
    Calls Try.prog 40 #[.pointer (some ⟨B, 0, none⟩), .int .u16 x] w fun e w' => e = .returned (.tuple #[]) ∧ Own H w0 w' B (xs ++ [x / 256 % 256, x % 256]) := by
  have hH := h.lt
  obtain ⟨g, h1, h2, h3, h4⟩ := h
  refine (u16_any w B g xs x h1 (by omega)).mono ?_
  rintro e w' ⟨rfl, hw⟩
  exact ⟨rfl, Own.step h1 h2 h3 h4 hH hw⟩

theorem u32_own (H : Nat) (w0 w : World) (B : Nat) (xs : List Int) (x : Int) (h : Own H w0 w B xs) (hl : xs.length ≤ 900000) :
    Calls Try.prog 38 #[.pointer (some ⟨B, 0, none⟩), .int .u32 x] w fun e w' => e = .returned (.tuple #[]) ∧ Own H w0 w' B (xs ++ [x / 16777216 % 256, x / 65536 % 256, x / 256 % 256, x % 256]) := by
  have hH := h.lt
  obtain ⟨g, h1, h2, h3, h4⟩ := h
  refine (u32_any w B g xs x h1 (by omega)).mono ?_
  rintro e w' ⟨rfl, hw⟩
  exact ⟨rfl, Own.step h1 h2 h3 h4 hH hw⟩

/-- bytes that were there at w0 are there still -/
theorem bytes_below {H : Nat} {w0 w : World} {ao : Option Addr} {l : List Int} (h : Bytes w0 ao l) (hb : Below H w0 w) (hH : w0.heap.size ≤ H) : Bytes w ao l :=
  bytes_kept h (Kept.ofBelow (S := fun _ => False) (hb.mono hH)) (fun _ _ _ h => h)

theorem all_own (H : Nat) (w0 w : World) (B : Nat) (xs : List Int) (h : Own H w0 w B xs) (hl : xs.length ≤ 900000) :
    Calls Try.prog 39 #[.pointer (some ⟨B, 0, none⟩)] w fun e w' => ∃ ao' c', e = .returned (.slice ao' xs.length c') ∧ New w.heap.size w' ao' c' xs ∧ Own H w0 w' B xs := by
  have h' := h
  obtain ⟨g, h1, h2, h3, h4⟩ := h
  refine (all_any w B g xs h1 (by omega)).mono ?_
  rintro e w' ⟨ao', c', rfl, hn, hk⟩
  exact ⟨ao', c', rfl, hn, h'.below hk⟩

theorem isByte_mod (x : Int) : isByte (x % 256) := by unfold isByte; omega
end Go.Proofs.Ytphakceboohbhaa
