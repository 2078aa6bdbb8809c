/- Texts tell requests apart. -/
import Derived.Test.YtakkkkkahijaaabDoorText
namespace Go.Proofs.YtakkkkkahijaaabDoor
set_option maxRecDepth 100000

def back (l : List UInt8) : Nat := l.foldl (fun a d => a * 10 + (d.toNat - 48)) 0

theorem digit_back (k : Nat) (h : k < 10) : (UInt8.ofNat (48 + k)).toNat - 48 = k := by
  have : (UInt8.ofNat (48 + k)).toNat = (48 + k) % 256 := by simp
  omega

theorem digit_ne (k : Nat) (h : k < 10) : UInt8.ofNat (48 + k) ≠ 58 := by
  intro e
  have h1 : (UInt8.ofNat (48 + k)).toNat = (58 : UInt8).toNat := by rw [e]
  have h2 : (UInt8.ofNat (48 + k)).toNat = (48 + k) % 256 := by simp
  have h3 : (58 : UInt8).toNat = 58 := rfl
  omega

theorem back_dec : ∀ u : Nat, back (Lib.decDigits u) = u := by
  intro u
  induction u using Nat.strongRecOn with
  | ind u ih =>
    rw [Lib.decDigits]
    split
    · rename_i h
      simp only [back, List.foldl_cons, List.foldl_nil]
      rw [digit_back u h]; omega
    · rename_i h
      have h1 := ih (u / 10) (by omega)
      unfold back at h1 ⊢
      rw [List.foldl_append, h1]
      simp only [List.foldl_cons, List.foldl_nil]
      rw [digit_back (u % 10) (by omega)]; omega

theorem no_colon : ∀ u : Nat, (58 : UInt8) ∉ Lib.decDigits u := by
  intro u
  induction u using Nat.strongRecOn with
  | ind u ih =>
    rw [Lib.decDigits]
    split
    · rename_i h
      intro hm
      simp only [List.mem_singleton] at hm
      exact digit_ne u h hm.symm
    · rename_i h
      intro hm
      rcases List.mem_append.1 hm with hm | hm
      · exact ih (u / 10) (by omega) hm
      · simp only [List.mem_singleton] at hm
        exact digit_ne (u % 10) (by omega) hm.symm

theorem split_at : ∀ (a b x y : List UInt8), (58 : UInt8) ∉ a → (58 : UInt8) ∉ b → a ++ 58 :: x = b ++ 58 :: y → a = b ∧ x = y
  | [], [], _, _, _, _, h => by simpa using h
  | [], c :: b, _, _, _, hb, h => by
    simp only [List.nil_append, List.cons_append, List.cons.injEq] at h
    exact absurd (by rw [← h.1]; simp) hb
  | c :: a, [], _, _, ha, _, h => by
    simp only [List.nil_append, List.cons_append, List.cons.injEq] at h
    exact absurd (by rw [h.1]; simp) ha
  | c :: a, d :: b, x, y, ha, hb, h => by
    simp only [List.cons_append, List.cons.injEq] at h
    obtain ⟨h1, h2⟩ := split_at a b x y (fun e => ha (by simp [e])) (fun e => hb (by simp [e])) h.2
    exact ⟨by rw [h.1, h1], h2⟩

theorem dg_inj (m n : Int) (hm : 0 ≤ m) (hn : 0 ≤ n) (h : dg m = dg n) : m = n := by
  unfold dg at h
  have := congrArg back h
  rw [back_dec, back_dec] at this
  omega

theorem text_inj (r s : Rq) (hr : r.ok) (hs : s.ok) (h : r.text = s.text) : r = s := by
  obtain ⟨⟨a1, _⟩, ⟨a2, _⟩, ⟨a3, _⟩, ⟨a4, _⟩, ⟨a5, _⟩⟩ := hr
  obtain ⟨⟨b1, _⟩, ⟨b2, _⟩, ⟨b3, _⟩, ⟨b4, _⟩, ⟨b5, _⟩⟩ := hs
  unfold Rq.text at h
  obtain ⟨e1, h⟩ := split_at _ _ _ _ (no_colon _) (no_colon _) h
  obtain ⟨e2, h⟩ := split_at _ _ _ _ (no_colon _) (no_colon _) h
  obtain ⟨e3, h⟩ := split_at _ _ _ _ (no_colon _) (no_colon _) h
  obtain ⟨e4, e5⟩ := split_at _ _ _ _ (no_colon _) (no_colon _) h
  have f1 := dg_inj _ _ a1 b1 e1
  have f2 := dg_inj _ _ a2 b2 e2
  have f3 := dg_inj _ _ a3 b3 e3
  have f4 := dg_inj _ _ a4 b4 e4
  have f5 := dg_inj _ _ a5 b5 e5
  cases r; cases s
  simp only at f1 f2 f3 f4 f5
  subst f1 f2 f3 f4 f5
  rfl

theorem text_eql (r s : Rq) (hr : r.ok) (hs : s.ok) (w : World) : (binOp .eql 9 (.string ⟨r.text.toArray⟩) (.string ⟨s.text.toArray⟩)).run Tryd.prog w = .ok (.bool (decide (r = s))) w := by
  rw [(EqlAt.string Tryd.prog 9).1]
  have e : ((⟨r.text.toArray⟩ : ByteArray).toList == (⟨s.text.toArray⟩ : ByteArray).toList) = decide (r = s) := by
    rw [ByteArray.toList_eq, ByteArray.toList_eq]
    by_cases h : r = s
    · subst h; simp
    · have h2 : ¬ r.text = s.text := fun e => h (text_inj r s hr hs e)
      simp [h, h2]
  exact congrArg (fun x => Result.ok (Value.bool x) w) e
end Go.Proofs.YtakkkkkahijaaabDoor
