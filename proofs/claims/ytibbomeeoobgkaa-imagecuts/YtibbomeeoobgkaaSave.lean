/- Load, Turn, Save: what they answer and leave. -/
import Derived.Test.YtibbomeeoobgkaaFind
namespace Go.Proofs.Ytibbomeeoobgkaa
open Go.RowKit
set_option maxRecDepth 100000

theorem rd32_range (l : List Int) (h4 : 4 ≤ l.length) (hl : ∀ y ∈ l, isByte y) : 0 ≤ rd32 l ∧ rd32 l ≤ 4294967295 := by
  have g : ∀ i, i < l.length → isByte (l.getD i 0) := by
    intro i hi
    rw [List.getD_eq_getElem?_getD, List.getElem?_eq_getElem hi]
    exact hl _ (List.getElem_mem hi)
  exact four_bytes (g 0 (by omega)) (g 1 (by omega)) (g 2 (by omega)) (g 3 (by omega))

theorem parT_range (l : List Int) (hl : ∀ y ∈ l, isByte y) : 0 ≤ parT l ∧ parT l ≤ 4294967295 := by
  unfold parT
  cases h : isFr l with
  | false => rw [if_neg (by simp)]; decide
  | true =>
    rw [if_pos rfl]
    unfold isFr at h
    exact rd32_range l (by have := (of_decide_eq_true h).1; omega) hl

theorem step_t {s : Im} {x : Int} {l : List Int} (hs : 0 ≤ s.t ∧ s.t ≤ 4294967295) (hl : ∀ y ∈ l, isByte y) : 0 ≤ (s.step x l).t ∧ (s.step x l).t ≤ 4294967295 := by
  unfold Im.step
  split
  · exact parT_range l hl
  · exact hs

theorem imk_t (d : Dk) (hd : d.By) : ∀ k, 0 ≤ (imk d k).t ∧ (imk d k).t ≤ 4294967295 := by
  intro k
  induction k with
  | zero => show (0 : Int) ≤ 0 ∧ (0 : Int) ≤ 4294967295; decide
  | succ k ih => exact step_t ih (hd.area _)

/-- without an image there is none -/
theorem im_none {d : Dk} (h : (image d).hv = false) : image d = Im.zero := by
  have step : ∀ (s : Im) (x : Int) (l : List Int), (s.hv = false → s = Im.zero) → (s.step x l).hv = false → s.step x l = Im.zero := by
    intro s x l hs
    unfold Im.step
    split
    · intro h; cases h
    · exact hs
  exact step _ _ _ (step _ _ _ (fun _ => rfl)) h

theorem im_a {d : Dk} : (image d).a = 0 ∨ (image d).a = 1 := by
  have step : ∀ (s : Im) (x : Int) (l : List Int), (x = 0 ∨ x = 1) → (s.a = 0 ∨ s.a = 1) → ((s.step x l).a = 0 ∨ (s.step x l).a = 1) := by
    intro s x l hx hs
    unfold Im.step
    split
    · exact hx
    · exact hs
  exact step _ _ _ (.inr rfl) (step _ _ _ (.inl rfl) (.inl rfl))

set_option maxHeartbeats 4000000 in
theorem turn_any (w : World) (B : Nat) (d : Dk) (h : At w B d) (hby : d.By) :
    Calls Try.prog 18 #[.pointer (some ⟨B, 0, none⟩)] w fun e w' => e = .returned (.int .u32 (image d).t) ∧ Below w.heap.size w w' := by
  have F := Lib.hid (find_any w B d h hby)
  clear h hby
  generalize image d = s at *
  go_enter Try.func18, Try.ntmps18
  go_wp2_with fail
  refine F.out.mono ?_
  rintro e w1 ⟨ao, c, rfl, _, b1⟩
  have B1 := Lib.hid b1
  clear b1 F
  go_wp2_with fail
  go_ret
  exact ⟨rfl, B1.out.alloc B1.out.size _⟩

set_option maxHeartbeats 4000000 in
theorem load_any (w : World) (B : Nat) (d : Dk) (h : At w B d) (hby : d.By) :
    Calls Try.prog 16 #[.pointer (some ⟨B, 0, none⟩)] w fun e w' => ∃ ao c, e = .returned (.tuple #[.slice ao (image d).b.length c, .int .i64 (if (image d).hv then 0 else 80)]) ∧ Told w.heap.size w' ao c (image d).b ∧ Below w.heap.size w w' := by
  have F := Lib.hid (find_any w B d h hby)
  have N := Lib.hid (im_none (d := d))
  clear h hby
  generalize image d = s at *
  cases hv : s.hv with
  | true =>
    rw [if_pos rfl]
    rw [hv] at F
    clear hv N
    go_enter Try.func16, Try.ntmps16
    go_wp2_with fail
    refine F.out.mono ?_
    rintro e w1 ⟨ao, c, rfl, t1, b1⟩
    have B1 := Lib.hid b1
    have T1 := Lib.hid t1
    clear b1 t1 F
    go_wp2_with fail
    refine bodyPost_ret (v := .tuple #[.slice ao s.b.length c, .int .i64 0]) (by simp [results, Try.results16, go_sem]) rfl ⟨ao, c, rfl, T1.out.below ((Below.refl _ _).alloc (Nat.le_refl _) _), B1.out.alloc B1.out.size _⟩
  | false =>
    have hz := N.out hv
    rw [if_neg (by simp)]
    rw [hz] at F ⊢
    clear hv N hz
    go_enter Try.func16, Try.ntmps16
    go_wp2_with fail
    refine F.out.mono ?_
    rintro e w1 ⟨ao, c, rfl, t1, b1⟩
    have B1 := Lib.hid b1
    clear b1 F t1
    rw [show Im.zero.hv = false from rfl]
    go_wp2_with fail
    refine bodyPost_ret (v := .tuple #[.slice none 0 0, .int .i64 80]) (by simp [results, Try.results16, go_sem]) rfl ⟨none, 0, rfl, told_nil _ _, B1.out.alloc B1.out.size _⟩

theorem save_long (w : World) (B : Nat) (ao : Option Addr) (m c : Nat) (hm : 40000 < m) :
    Calls Try.prog 15 #[.pointer (some ⟨B, 0, none⟩), .slice ao m c] w fun e w' => e = .returned (.int .i64 21) ∧ w = w' := by
  go_enter Try.func15, Try.ntmps15
  go_wp2_with fail
  go_ret
  exact ⟨rfl, rfl⟩

def nxt (s : Im) : Int := if s.hv then 1 - s.a else 0

set_option maxHeartbeats 4000000 in
theorem save_any (w : World) (B : Nat) (d : Dk) (ao : Option Addr) (c : Nat) (l : List Int) (h : At w B d) (hby : d.By) (hb : Bytes w ao l) (hm : l.length ≤ 40000) (hly : ∀ y ∈ l, isByte y) (ht : (image d).t < 4294967295) :
    Calls Try.prog 15 #[.pointer (some ⟨B, 0, none⟩), .slice ao l.length c] w fun e w' => e = .returned (.int .i64 (d.err (nxt (image d)) (frameI ((image d).t + 1) l))) ∧ At w' B (d.write (nxt (image d)) (frameI ((image d).t + 1) l)) ∧ Kept (fun k => k = B) w w' := by
  have F := Lib.hid (find_any w B d h hby)
  have HA := Lib.hid (show ∀ w', Below w.heap.size w w' → At w' B d from fun w' k => h.below k)
  have ht0 := (imk_t d hby 2).1
  rw [show imk d 2 = image d from rfl] at ht0
  have hB := Lib.hid h.lt
  have HB := Lib.hid hb
  have HY := Lib.hid hly
  clear h hby hb hly
  have ha := im_a (d := d)
  generalize image d = s at *
  have e1 : (s.t == 4294967295) = false := by rw [beq_eq_false_iff_ne]; omega
  have e2 : (s.t + 1) % 4294967296 = s.t + 1 := by omega
  have FR := Lib.hid (fun w' (k : Below w.heap.size w w') => frame_any w' (s.t + 1) ao c l (bytes_belowS HB.out k) (by omega) HY.out)
  have WR := Lib.hid (fun w' x p n (k : Below w.heap.size w w') hb hn => write_any w' B d x p n (frameI (s.t + 1) l) (HA.out _ k) hb hn)
  have fl := frameI_len (s.t + 1) l
  generalize hml : l.length = m at *
  rw [fl] at WR
  have FL := Lib.hid fl
  have a1 : 0 ≤ s.a := by omega
  have a2 : s.a ≤ 1 := by omega
  clear hml ht ht0 HB HY fl HA ha
  cases hv : s.hv with
  | true =>
    rw [show nxt s = 1 - s.a by unfold nxt; rw [hv]; rfl]
    rw [hv] at F
    clear hv
    go_enter Try.func15, Try.ntmps15
    go_wp2_with fail
    refine F.out.mono ?_
    rintro e w1 ⟨ao1, c1, rfl, _, b1⟩
    have B1 := Lib.hid b1
    clear b1 F
    go_wp2_with fail
    have bA := B1.out.alloc B1.out.size (.cells #[.int .i64 s.a, .int .u32 s.t, .slice ao1 s.b.length c1] 68)
    refine (FR.out _ bA).mono ?_
    rintro e w2 ⟨f, rfl, hf, hr, b2⟩
    have b3 := bA.trans (b2.mono bA.size)
    have WW := Lib.hid (WR.out w2 (1 - s.a) (some ⟨f, 0, none⟩) (16 + m) b3 (bytes_row hr) (Nat.le_refl _))
    have BB := Lib.hid b3
    clear bA hf hr b2 b3 FR WR
    go_wp2_with fail
    refine WW.out.mono ?_
    rintro e w3 ⟨rfl, h3, k3⟩
    have K3 := Lib.hid ((Kept.ofBelow (S := fun k => k = B) BB.out).trans k3 (fun _ _ h => h))
    have H3 := Lib.hid h3
    clear h3 k3 WW
    go_wp2_with fail
    go_ret
    exact ⟨rfl, H3.out, K3.out⟩
  | false =>
    rw [show nxt s = 0 by unfold nxt; rw [hv]; rfl]
    rw [hv] at F
    clear hv
    go_enter Try.func15, Try.ntmps15
    go_wp2_with fail
    refine F.out.mono ?_
    rintro e w1 ⟨ao1, c1, rfl, _, b1⟩
    have B1 := Lib.hid b1
    clear b1 F
    go_wp2_with fail
    have bA := B1.out.alloc B1.out.size (.cells #[.int .i64 s.a, .int .u32 s.t, .slice ao1 s.b.length c1] 68)
    refine (FR.out _ bA).mono ?_
    rintro e w2 ⟨f, rfl, hf, hr, b2⟩
    have b3 := bA.trans (b2.mono bA.size)
    have WW := Lib.hid (WR.out w2 (0) (some ⟨f, 0, none⟩) (16 + m) b3 (bytes_row hr) (Nat.le_refl _))
    have BB := Lib.hid b3
    clear bA hf hr b2 b3 FR WR
    go_wp2_with fail
    refine WW.out.mono ?_
    rintro e w3 ⟨rfl, h3, k3⟩
    have K3 := Lib.hid ((Kept.ofBelow (S := fun k => k = B) BB.out).trans k3 (fun _ _ h => h))
    have H3 := Lib.hid h3
    clear h3 k3 WW
    go_wp2_with fail
    go_ret
    exact ⟨rfl, H3.out, K3.out⟩
end Go.Proofs.Ytibbomeeoobgkaa
