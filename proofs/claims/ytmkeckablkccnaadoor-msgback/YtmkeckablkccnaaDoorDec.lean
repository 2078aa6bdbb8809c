/- What is read of a message of one byte behind its head. -/
import Derived.Test.YtmkeckablkccnaaDoorEnc
namespace Go.Proofs.YtmkeckablkccnaaDoor
open Go.RowKit
set_option maxRecDepth 100000

def Src (w : World) (S R : Nat) : Prop := w.heap[S]? = some (.cells #[.pointer (some ⟨R, 0, none⟩), .int .i64 0] 82 (0, 0))

theorem Src.ne {w : World} {S R : Nat} {l : List Int} (h : Src w S R) (hr : Rd w R l) : S ≠ R := by
  obtain ⟨ao, cap, hb, _⟩ := hr
  intro e
  subst e
  rw [Src, hb] at h
  simp at h

theorem Src.kept {w w' : World} {S R : Nat} {l : List Int} (h : Src w S R) (hr : Rd w R l) (hk : Kept (fun k => k = R) w w') : Src w' S R := by
  unfold Src
  rw [hk.block S (lt_of_block h) (h.ne hr)]; exact h

set_option maxHeartbeats 1600000 in
theorem get8 (w : World) (S R : Nat) (l : List Int) (hs : Src w S R) (hr : Rd w R l) (h1 : 1 ≤ l.length) (hl : l.length ≤ 1000000) :
    Calls Tryd.prog 65 #[.pointer (some ⟨S, 0, none⟩), .func (.func 66) #[.pointer (some ⟨R, 0, none⟩)] #[]] w fun e w' => e = .returned (.int .u8 (l.getD 0 0)) ∧ Rd w' R (l.drop 1) ∧ Kept (fun k => k = R) w w' := by
  have q1 : w.cell? ⟨S, 1, none⟩ = some (.int .i64 0) := by rw [cell_of_row _ _ _ _ _ _ hs]; rfl
  have C := Lib.hid (r8_any w R l hr h1 hl)
  generalize l.getD 0 0 = x at C
  clear hs hr
  go_enter Tryd.func65, Tryd.ntmps65
  go_wp2_with fail
  refine Calls.mono C.out ?_
  rintro e w1 ⟨rfl, h2, h3⟩
  have H2 := Lib.hid h2
  have H3 := Lib.hid h3
  clear h2 h3
  go_wp2_with fail
  go_ret
  exact ⟨rfl, H2.out, H3.out⟩

set_option maxHeartbeats 1600000 in
theorem su8 (w : World) (S R : Nat) (l : List Int) (hs : Src w S R) (hr : Rd w R l) (h1 : 1 ≤ l.length) (hl : l.length ≤ 1000000) :
    Calls Tryd.prog 36 #[.pointer (some ⟨S, 0, none⟩)] w fun e w' => e = .returned (.int .u8 (l.getD 0 0)) ∧ Rd w' R (l.drop 1) ∧ Kept (fun k => k = R) w w' := by
  have q0 : w.cell? ⟨S, 0, none⟩ = some (.pointer (some ⟨R, 0, none⟩)) := by rw [cell_of_row _ _ _ _ _ _ hs]; rfl
  have C := Lib.hid (get8 w S R l hs hr h1 hl)
  generalize l.getD 0 0 = x at C
  have hmf : ∀ (fn : Fn) (first cap : Array Value) (w : World), (Instr.makeFunc fn first cap).run Tryd.prog w = .ok (.func fn first cap) w := fun _ _ _ _ => rfl
  clear hs hr
  go_enter Tryd.func36, Tryd.ntmps36
  go_wp2_with fail
  refine Calls.mono C.out ?_
  rintro e w1 ⟨rfl, h2, h3⟩
  have H2 := Lib.hid h2
  have H3 := Lib.hid h3
  clear h2 h3
  go_wp2_with fail
  go_ret
  exact ⟨rfl, H2.out, H3.out⟩

theorem Rd.empty {w w' : World} {R : Nat} (h : Rd w R []) (hk : w'.heap[R]? = w.heap[R]?) : Rd w' R [] := by
  obtain ⟨ao, cap, hb, hB, hcap, hnone, hne, hby⟩ := h
  exact ⟨ao, cap, by rw [hk]; exact hb, (fun i hi => by simp at hi), hcap, hnone, (fun _ _ h => by simp at h), hby⟩

set_option maxHeartbeats 1600000 in
/-- the count is read -/
theorem read4 (w : World) (S R M : Nat) (c : Int) (X : Array Value) (old : Value) (hs : Src w S R) (hr : Rd w R [c]) (hM : w.heap[M]? = some (.cells X 37 (0, 0))) (hX : X[12]? = some old) :
    Calls Tryd.prog 37 #[.pointer (some ⟨S, 0, none⟩), .pointer (some ⟨M, 0, none⟩), .int .u8 4] w fun e w' => e = .returned (.tuple #[]) ∧ Rd w' R [] ∧ w'.heap[M]? = some (.cells (X.setIfInBounds 12 (.int .u8 c)) 37 (0, 0)) ∧ Kept (fun k => k = R ∨ k = M) w w' := by
  obtain ⟨W, hW⟩ : ∃ W, W = w.alloc (.cells #[.pointer (some ⟨S, 0, none⟩)] 78) := ⟨_, rfl⟩
  have hbl : Below w.heap.size w W := by rw [hW]; exact (Below.refl _ _).alloc (Nat.le_refl _) _
  have hMR : M ≠ R := by
    obtain ⟨ao, cap, hb, _⟩ := hr
    intro e; subst e
    rw [hb] at hM
    simp at hM
  have hs' : Src W S R := (hbl.block S (lt_of_block hs)).trans hs
  have hr' := hr.below hbl
  have hM' : W.heap[M]? = some (.cells X 37 (0, 0)) := (hbl.block M (lt_of_block hM)).trans hM
  have q : W.cell? ⟨w.heap.size, 0, none⟩ = some (.pointer (some ⟨S, 0, none⟩)) := by rw [hW, cell_of_row _ _ _ _ _ _ (heap_alloc_new _ _)]; rfl
  have C := Lib.hid (su8 W S R [c] hs' hr' (by simp) (by simp))
  have HM := Lib.hid hM'
  have HMR := Lib.hid hMR
  have HBL := Lib.hid hbl
  have HW := Lib.hid hW
  have HX := Lib.hid hX
  clear hs hr hM hW hbl hs' hr' hM' hMR hX
  go_enter Tryd.func37, Tryd.ntmps37
  go_upto_region 1 with fail
  rw [← HW.out]
  clear HW
  go_wp2_with fail
  refine Calls.mono C.out ?_
  rintro e w1 ⟨rfl, h2, h3⟩
  have hb1 : w1.heap[M]? = some (.cells X 37 (0, 0)) := by rw [h3.block M (lt_of_block HM.out) HMR.out]; exact HM.out
  have hc : w1.cell? ⟨M, 12, none⟩ = some old := by rw [cell_of_row _ _ _ _ _ _ hb1]; exact HX.out
  have hf : w1.frozen? ⟨M, 12, none⟩ = false := frozen_of_row _ _ _ _ _ hb1
  have H2 := Lib.hid h2
  have H3 := Lib.hid h3
  have HB1 := Lib.hid hb1
  clear h2 h3 hb1
  go_wp2_with fail
  go_end0
  refine ⟨rfl, ?_, heap_setCell_same _ _ _ _ _ _ HB1.out, ?_⟩
  · exact Rd.empty H2.out (heap_setCell_other _ _ _ _ (by simpa using fun e => HMR.out e.symm))
  · refine Kept.setCell ?_ _ _ (fun _ => .inr rfl)
    exact (Kept.ofBelow (S := fun k => k = R ∨ k = M) HBL.out).trans H3.out (fun i _ e => .inl e)


end Go.Proofs.YtmkeckablkccnaaDoor
