/- The known answers. -/
import Derived.Test.YthbfbdblnohbjaaLoad
namespace Go.Proofs.Ythbfbdblnohbjaa
open Go.RowKit
set_option maxRecDepth 100000

theorem pg_nul (V : Nat → Int) : ∀ n k, 64 - k ≤ n → (∀ i, k ≤ i → i % 7 = k % 7 → V i = 0) → pg V k = [] := by
  intro n
  induction n with
  | zero => intro k h _; exact pg_end (by omega)
  | succ n ih =>
    intro k h hV
    by_cases hk : k < 64
    · rw [← pg_no hk (hV k (Nat.le_refl _) rfl)]
      exact ih (k + 7) (by omega) (fun i hi hm => hV i (by omega) (by omega))
    · exact pg_end hk
theorem pg_known : pg (upd nul 8 5) 1 = [8, 0, 5] := by
  have h1 : upd nul 8 5 1 = 0 := rfl
  have h8 : upd nul 8 5 8 = 5 := rfl
  rw [← pg_no (by omega) h1, ← pg_yes (k := 1 + 7) (by omega) h8 (by omega), pg_nul _ 64 (1 + 7 + 7) (by omega)]
  · rfl
  · intro i hi _
    unfold upd nul
    rw [if_neg (by omega)]
theorem pg_none : pg nul 1 = [] := pg_nul _ 64 1 (by omega) (fun _ _ _ => rfl)
theorem rd_short : rdV nul [9] = nul := rdV_end (by simp)
theorem not_same : sameM (upd nul 8 5) nul nul nul nul nul = false := by
  unfold sameM
  rw [Bool.and_eq_false_iff]
  refine .inl (List.all_eq_false.2 ⟨8, by simp, by simp [upd, nul]⟩)

theorem bytes_lit (w : World) (x : Int) (t : TypeId) : Bytes (w.alloc (.cells #[.int .u8 x] t)) (some ⟨w.heap.size, 0, none⟩) [x] := bytes_new w [x] t

set_option maxHeartbeats 1600000 in
theorem known_any (w : World) : Calls Try.prog 6 #[] w fun e w' => e = .returned (.bool true) ∧ Below w.heap.size w w' := by
  have NW := Lib.hid (map_new w)
  have F0 := mp_new w
  have hk0 : Below w.heap.size w (w.alloc (.cells (mapL nul nul nul).toArray 48)) := (Below.refl _ _).alloc (Nat.le_refl _) _
  obtain ⟨B, hB⟩ : ∃ B, B = w.heap.size := ⟨_, rfl⟩
  obtain ⟨w0, hw0⟩ : ∃ w0, w0 = w.alloc (.cells (mapL nul nul nul).toArray 48) := ⟨_, rfl⟩
  rw [← hw0, ← hB] at F0 hk0 NW
  rw [← hB]
  have PT := Lib.hid (put_any w0 B 8 5 _ _ _ F0)
  have HB := Lib.hid (And.intro hB hk0)
  clear F0 hw0 hk0 hB
  go_enter Try.func6, Try.ntmps6
  go_wp2_with fail
  refine NW.out.mono ?_
  rintro e w1 ⟨rfl, rfl⟩
  go_wp2_with fail
  refine PT.out.mono ?_
  rintro e w1 ⟨rfl, k1, m1⟩
  rw [if_pos (by omega)] at m1
  have hb1 : Below B w w1 := HB.out.2.trans (k1.below (by have := HB.out.2.size; have := HB.out.1; omega) (fun k e => by omega))
  have PG := page_any w1 B 1 _ _ _ m1 (by omega)
  rw [show pageB (upd nul 8 5) nul nul 1 = [8, 0, 5] from pg_known] at PG
  have PG := Lib.hid PG
  have H1 := Lib.hid (And.intro m1 hb1)
  clear m1 k1 hb1 PT NW
  go_wp2_with fail
  refine PG.out.mono ?_
  rintro e w2 ⟨ap, cp, rfl, n2, b2⟩
  have hstr : (convert 22 9 (.slice ap 3 cp)).run Try.prog w2 = .ok (.string ⟨#[8, 0, 5]⟩) w2 := str_new n2
  have m2 := H1.out.1.below b2 H1.out.1.lt
  have hb2 := H1.out.2.trans (b2.mono (by have := H1.out.2.size; have := HB.out.1; omega))
  have LD := load_keys (w2.alloc (.cells #[.int .u8 9] 5)) B 1 (by omega) _ _ _ (m2.below (H := w2.heap.size) ((Below.refl _ _).alloc (Nat.le_refl _) _) m2.lt) (some ⟨w2.heap.size, 0, none⟩) 1 [9] (bytes_lit w2 9 5) (fun e => by cases e) (by simp) (by simp [isByte])
  rw [rd_short, show pageB nul nul nul 1 = [] from pg_none] at LD
  have LD := Lib.hid LD
  have H2 := Lib.hid (And.intro m2 hb2)
  clear n2 b2 m2 hb2 PG
  go_wp2_with fail
  refine LD.out.mono ?_
  rintro e w3 ⟨k3, L⟩
  rcases L with ⟨c, _⟩ | ⟨_, rfl, m3⟩
  · cases c
  have H3 := Lib.hid (And.intro k3 m3)
  have GT := get_any w3 B 8 _ _ _ m3
  rw [if_pos (by omega), show upd nul 8 5 8 = 5 from rfl] at GT
  have GT := Lib.hid GT
  clear k3 m3 LD
  go_wp2_with fail
  refine GT.out.mono ?_
  rintro e w4 ⟨rfl, e4⟩
  obtain rfl := e4.symm
  have NW := Lib.hid (map_new w3)
  have F0 := mp_new w3
  have hk3 : Below w3.heap.size w3 (w3.alloc (.cells (mapL nul nul nul).toArray 48)) := (Below.refl _ _).alloc (Nat.le_refl _) _
  obtain ⟨w4, hw4⟩ : ∃ w4, w4 = w3.alloc (.cells (mapL nul nul nul).toArray 48) := ⟨_, rfl⟩
  rw [← hw4] at F0 hk3 NW
  have SM := same_any w4 B w3.heap.size _ _ _ _ _ _ (H3.out.2.below hk3 H3.out.2.lt) F0
  rw [not_same] at SM
  have SM := Lib.hid SM
  have H4 := Lib.hid hk3
  clear GT e4 F0 hk3 hw4
  go_wp2_with fail
  refine NW.out.mono ?_
  rintro e w5 ⟨rfl, rfl⟩
  clear NW
  go_wp2_with fail
  refine SM.out.mono ?_
  rintro e w5 ⟨rfl, k5⟩
  have H5 := Lib.hid k5
  clear k5 SM
  go_wp2_with fail
  go_ret
  have hB := HB.out.1
  have s2 := H2.out.2.size
  have s3 := H3.out.1.size
  have hs : (w2.alloc (.cells #[.int .u8 9] 5)).heap.size = w2.heap.size + 1 := by simp
  have s4 := H4.out.size
  refine ⟨rfl, ((((H2.out.2.alloc (by omega) _).trans (H3.out.1.below (by omega) (fun k e => by omega))).trans (H4.out.mono (by omega))).trans (H5.out.below (by omega) (fun k e => e.elim)))⟩
end Go.Proofs.Ythbfbdblnohbjaa
