/- The bytes of a page; what reading them puts; the one undoes the other. -/
import Derived.Test.YtphakceboohbhaaMaps
namespace Go.Proofs.Ytphakceboohbhaa

/-- the page's keys from k on, each seventh -/
def pg (V : Nat → Int) (k : Nat) : List Int :=
  if k < 64 then (if V k = 0 then [] else [(k : Int), V k / 256 % 256, V k % 256]) ++ pg V (k + 7) else []
termination_by 64 - k

def be4 (x : Int) : List Int := [x / 16777216 % 256, x / 65536 % 256, x / 256 % 256, x % 256]
/-- the entries of the clients from i on -/
def cg (T R : Nat → Int) (i : Nat) : List Int :=
  if i < 4 then (if T i = 0 then [] else ((i : Int) + 1) :: (be4 (T i) ++ be4 (R i))) ++ cg T R (i + 1) else []
termination_by 4 - i

/-- the values that bytes put -/
def rdV (V : Nat → Int) (l : List Int) : Nat → Int :=
  if 3 ≤ l.length then rdV (if l.getD 0 0 < 64 then upd V (l.getD 0 0).toNat (rd16 (l.drop 1)) else V) (l.drop 3) else V
termination_by l.length
decreasing_by simp; omega

/-- one entry put: number, ts, result -/
def putC (S : (Nat → Int) × (Nat → Int)) (k ts rs : Int) : (Nat → Int) × (Nat → Int) :=
  if 1 ≤ k ∧ k ≤ 4 then (upd S.1 (k.toNat - 1) ts, upd S.2 (k.toNat - 1) (if ts = 0 then 0 else rs)) else S
/-- the entries that bytes put -/
def rdC (S : (Nat → Int) × (Nat → Int)) (l : List Int) : (Nat → Int) × (Nat → Int) :=
  if 9 ≤ l.length then rdC (putC S (l.getD 0 0) (rd32 (l.drop 1)) (rd32 (l.drop 5))) (l.drop 9) else S
termination_by l.length
decreasing_by simp; omega

theorem pg_len (V : Nat → Int) : ∀ n k, 64 - k ≤ n → (pg V k).length ≤ 3 * ((70 - k) / 7) := by
  intro n
  induction n with
  | zero => intro k h; rw [pg, if_neg (by omega)]; simp
  | succ n ih =>
    intro k h
    rw [pg]
    by_cases hk : k < 64
    · rw [if_pos hk]
      have := ih (k + 7) (by omega)
      have e : (70 - k) / 7 = (70 - (k + 7)) / 7 + 1 := by omega
      by_cases h0 : V k = 0
      · simp [h0]; omega
      · simp [h0]; omega
    · rw [if_neg hk]; simp
theorem pg_short (V : Nat → Int) (k : Nat) : (pg V k).length ≤ 30 := by
  have := pg_len V (64 - k) k (Nat.le_refl _)
  omega
theorem cg_len (T R : Nat → Int) : ∀ n i, 4 - i ≤ n → (cg T R i).length ≤ 9 * (4 - i) := by
  intro n
  induction n with
  | zero => intro k h; rw [cg, if_neg (by omega)]; simp
  | succ n ih =>
    intro k h
    rw [cg]
    by_cases hk : k < 4
    · rw [if_pos hk]
      have := ih (k + 1) (by omega)
      by_cases h0 : T k = 0
      · simp [h0]; omega
      · simp [h0, be4]; omega
    · rw [if_neg hk]; simp
theorem cg_short (T R : Nat → Int) (i : Nat) : (cg T R i).length ≤ 36 := by
  have := cg_len T R (4 - i) i (Nat.le_refl _)
  omega
theorem pg_bytes (V : Nat → Int) : ∀ n k, 64 - k ≤ n → ∀ x ∈ pg V k, isByte x := by
  intro n
  induction n with
  | zero => intro k h x hx; rw [pg, if_neg (by omega)] at hx; simp at hx
  | succ n ih =>
    intro k h x hx
    rw [pg] at hx
    by_cases hk : k < 64
    · rw [if_pos hk] at hx
      rcases List.mem_append.1 hx with hx | hx
      · by_cases h0 : V k = 0
        · simp [h0] at hx
        · simp only [h0, if_false, List.mem_cons, List.not_mem_nil, or_false] at hx
          unfold isByte
          rcases hx with rfl | rfl | rfl <;> omega
      · exact ih (k + 7) (by omega) x hx
    · rw [if_neg hk] at hx; simp at hx
theorem cg_bytes (T R : Nat → Int) : ∀ n k, 4 - k ≤ n → ∀ x ∈ cg T R k, isByte x := by
  intro n
  induction n with
  | zero => intro k h x hx; rw [cg, if_neg (by omega)] at hx; simp at hx
  | succ n ih =>
    intro k h x hx
    rw [cg] at hx
    by_cases hk : k < 4
    · rw [if_pos hk] at hx
      rcases List.mem_append.1 hx with hx | hx
      · by_cases h0 : T k = 0
        · simp [h0] at hx
        · simp only [h0, if_false, be4, List.mem_cons, List.mem_append, List.not_mem_nil, or_false] at hx
          unfold isByte
          rcases hx with rfl | (rfl | rfl | rfl | rfl) | rfl | rfl | rfl | rfl <;> omega
      · exact ih (k + 1) (by omega) x hx
    · rw [if_neg hk] at hx; simp at hx

theorem rdV_pg (V : Nat → Int) (hV : ∀ i, i < 64 → 0 ≤ V i ∧ V i ≤ 65535) : ∀ n k W, 64 - k ≤ n → (∀ i, k ≤ i → W i = 0) →
    ∀ i, rdV W (pg V k) i = if k ≤ i ∧ i < 64 ∧ i % 7 = k % 7 then V i else W i := by
  intro n
  induction n with
  | zero =>
    intro k W h _ i
    rw [pg, if_neg (by omega), rdV, if_neg (by simp), if_neg (by omega)]
  | succ n ih =>
    intro k W h hW i
    rw [pg]
    by_cases hk : k < 64
    · rw [if_pos hk]
      by_cases h0 : V k = 0
      · rw [if_pos h0, List.nil_append, ih (k + 7) W (by omega) (fun i hi => hW i (by omega)) i]
        by_cases h1 : k + 7 ≤ i ∧ i < 64 ∧ i % 7 = (k + 7) % 7
        · rw [if_pos h1, if_pos (by omega)]
        · rw [if_neg h1]
          by_cases h2 : k ≤ i ∧ i < 64 ∧ i % 7 = k % 7
          · rw [if_pos h2]
            have : i = k := by omega
            subst this
            rw [h0, hW i (Nat.le_refl _)]
          · rw [if_neg h2]
      · rw [if_neg h0, rdV, if_pos (by simp)]
        have e0 : ([(k : Int), V k / 256 % 256, V k % 256] ++ pg V (k + 7)).getD 0 0 = (k : Int) := rfl
        have e1 : rd16 (([(k : Int), V k / 256 % 256, V k % 256] ++ pg V (k + 7)).drop 1) = V k := by
          have := hV k hk
          show V k / 256 % 256 * 256 + V k % 256 = V k
          omega
        have e2 : ([(k : Int), V k / 256 % 256, V k % 256] ++ pg V (k + 7)).drop 3 = pg V (k + 7) := rfl
        rw [e0, e1, e2, if_pos (by omega), Int.toNat_natCast, ih (k + 7) (upd W k (V k)) (by omega) (fun i hi => by unfold upd; rw [if_neg (by omega)]; exact hW i (by omega)) i]
        unfold upd
        by_cases h1 : k + 7 ≤ i ∧ i < 64 ∧ i % 7 = (k + 7) % 7
        · rw [if_pos h1, if_pos (by omega)]
        · rw [if_neg h1]
          by_cases h3 : i = k
          · subst h3
            rw [if_pos rfl, if_pos (by omega)]
          · rw [if_neg h3, if_neg (by omega)]
    · rw [if_neg hk, rdV, if_neg (by simp), if_neg (by omega)]

theorem be4_rd (x : Int) (hx : 0 ≤ x ∧ x ≤ 4294967295) (l : List Int) : rd32 (be4 x ++ l) = x := by
  show (x / 16777216 % 256 * 256 + x / 65536 % 256) * 65536 + (x / 256 % 256 * 256 + x % 256) = x
  omega

theorem rdC_cg (T R : Nat → Int) (hT : ∀ i, i < 4 → 0 ≤ T i ∧ T i ≤ 4294967295) (hR : ∀ i, i < 4 → 0 ≤ R i ∧ R i ≤ 4294967295) (h0R : ∀ i, i < 4 → T i = 0 → R i = 0) : ∀ n k S, 4 - k ≤ n → (∀ i, k ≤ i → S.1 i = 0 ∧ S.2 i = 0) →
    ∀ i, (rdC S (cg T R k)).1 i = (if k ≤ i ∧ i < 4 then T i else S.1 i) ∧ (rdC S (cg T R k)).2 i = (if k ≤ i ∧ i < 4 then R i else S.2 i) := by
  intro n
  induction n with
  | zero =>
    intro k W h _ i
    rw [cg, if_neg (by omega), rdC, if_neg (by simp), if_neg (by omega), if_neg (by omega)]
    exact ⟨rfl, rfl⟩
  | succ n ih =>
    intro k S h hS i
    rw [cg]
    by_cases hk : k < 4
    · rw [if_pos hk]
      by_cases h0 : T k = 0
      · rw [if_pos h0, List.nil_append]
        obtain ⟨a, b⟩ := ih (k + 1) S (by omega) (fun i hi => hS i (by omega)) i
        rw [a, b]
        by_cases h1 : k + 1 ≤ i ∧ i < 4
        · rw [if_pos h1, if_pos h1, if_pos (by omega), if_pos (by omega)]
          exact ⟨rfl, rfl⟩
        · rw [if_neg h1, if_neg h1]
          by_cases h2 : k ≤ i ∧ i < 4
          · rw [if_pos h2, if_pos h2]
            have : i = k := by omega
            subst this
            rw [h0, h0R i hk h0]
            exact hS i (Nat.le_refl _)
          · rw [if_neg h2, if_neg h2]
            exact ⟨rfl, rfl⟩
      · rw [if_neg h0, rdC, if_pos (by simp [be4]), List.cons_append]
        have e0 : (((k : Int) + 1) :: (be4 (T k) ++ be4 (R k) ++ cg T R (k + 1))).getD 0 0 = (k : Int) + 1 := rfl
        have e1 : rd32 ((((k : Int) + 1) :: (be4 (T k) ++ be4 (R k) ++ cg T R (k + 1))).drop 1) = T k := by
          rw [List.drop_one, List.tail_cons, List.append_assoc]
          exact be4_rd _ (hT k hk) _
        have e2 : rd32 ((((k : Int) + 1) :: (be4 (T k) ++ be4 (R k) ++ cg T R (k + 1))).drop 5) = R k := be4_rd _ (hR k hk) _
        have e3 : (((k : Int) + 1) :: (be4 (T k) ++ be4 (R k) ++ cg T R (k + 1))).drop 9 = cg T R (k + 1) := rfl
        rw [e0, e1, e2, e3]
        have e4 : putC S ((k : Int) + 1) (T k) (R k) = (upd S.1 k (T k), upd S.2 k (R k)) := by
          unfold putC
          rw [if_pos (by omega), if_neg h0, show ((k : Int) + 1).toNat - 1 = k by omega]
        rw [e4]
        obtain ⟨a, b⟩ := ih (k + 1) (upd S.1 k (T k), upd S.2 k (R k)) (by omega) (fun i hi => by
          unfold upd
          simp only [if_neg (show ¬ i = k by omega)]
          exact hS i (by omega)) i
        rw [a, b]
        unfold upd
        by_cases h1 : k + 1 ≤ i ∧ i < 4
        · rw [if_pos h1, if_pos h1, if_pos (by omega), if_pos (by omega)]
          exact ⟨rfl, rfl⟩
        · rw [if_neg h1, if_neg h1]
          by_cases h3 : i = k
          · subst h3
            simp [hk]
          · rw [if_neg (show ¬ (k ≤ i ∧ i < 4) by omega), if_neg (show ¬ (k ≤ i ∧ i < 4) by omega)]
            exact ⟨if_neg h3, if_neg h3⟩
    · rw [if_neg hk, rdC, if_neg (by simp), if_neg (by omega), if_neg (by omega)]
      exact ⟨rfl, rfl⟩

theorem pg_ext (V W : Nat → Int) (p : Nat) : ∀ n k, 64 - k ≤ n → k % 7 = p % 7 → (∀ i, i < 64 → i % 7 = p % 7 → V i = W i) → pg V k = pg W k := by
  intro n
  induction n with
  | zero => intro k h _ _; rw [pg.eq_1 V k, pg.eq_1 W k, if_neg (by omega), if_neg (by omega)]
  | succ n ih =>
    intro k h hm hVW
    rw [pg.eq_1 V k, pg.eq_1 W k]
    by_cases hk : k < 64
    · rw [if_pos hk, if_pos hk, hVW k hk hm, ih (k + 7) (by omega) (by omega) hVW]
    · rw [if_neg hk, if_neg hk]
theorem cg_ext (T R T' R' : Nat → Int) : ∀ n k, 4 - k ≤ n → (∀ i, i < 4 → T i = T' i ∧ R i = R' i) → cg T R k = cg T' R' k := by
  intro n
  induction n with
  | zero => intro k h _; rw [cg.eq_1 T R k, cg.eq_1 T' R' k, if_neg (by omega), if_neg (by omega)]
  | succ n ih =>
    intro k h hVW
    rw [cg.eq_1 T R k, cg.eq_1 T' R' k]
    by_cases hk : k < 4
    · rw [if_pos hk, if_pos hk, (hVW k hk).1, (hVW k hk).2, ih (k + 1) (by omega) hVW]
    · rw [if_neg hk, if_neg hk]
end Go.Proofs.Ytphakceboohbhaa
