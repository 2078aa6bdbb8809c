/- Replays: how many were seen; messages with one word turned. -/
import Derived.Test.YtigpfaecbmnklaaDoorOwn1
namespace Go.Proofs.YtigpfaecbmnklaaDoor
open Go.RowKit Go.Maps
set_option maxRecDepth 100000

theorem SetIs.len2 {α : Type} {enc : α → Value} {w : World} {K T : TypeId} {o : Option Nat} {x y : α} (h : SetIs enc w K o [x, y]) (law : Keyed Tryd.prog K) (ht : Tryd.prog.underlying T = some (.map K 143)) (hinj : ∀ x y, enc x = enc y → x = y) (hne : x ≠ y) (ty : TypeId) :
    (Builtin.len_ #[T] ty #[.map o]).run Tryd.prog w = .ok (.int .i64 2) w := by
  obtain ⟨ls, h1, h2, h3⟩ := h
  cases o with
  | none => cases h2 rfl
  | some b =>
    rw [(h3 b rfl).len ht ty]
    obtain ⟨l1, l2, rfl⟩ : ∃ l1 l2, ls = [l1, l2] := by
      match ls, lits_len h1 with
      | [a, b], _ => exact ⟨a, b, rfl⟩
    simp at h1
    obtain ⟨k1, k2⟩ := h1
    have hne2 : l1 ≠ l2 := fun e => hne (hinj _ _ (law.inj k1 (e ▸ k2)))
    rw [size_setOf _ _ (by intro z hz; simp at hz; rcases hz with rfl | rfl; exact law.key k1; exact law.key k2)]
    have : (([l1, l2] : List Lit).foldl addKey []).length = 2 := by
      have e1 : addKey [] l1 = [l1] := rfl
      have e2 : addKey [l1] l2 = [l1, l2] := by simp [addKey, sameKey_ne hne2]
      simp [List.foldl, e1, e2]
    rw [this]; rfl

set_option maxHeartbeats 1000000 in
theorem len23 (H : Nat) (w : World) (B : Nat) (S : Kn) (h : Kw H w B S) {a b : List UInt8} (hm : S.m = [a, b]) (hne : a ≠ b) : Calls Tryd.prog 23 #[.pointer (some ⟨B, 0, none⟩)] w fun e w' => e = .returned (.int .i64 2) ∧ w' = w := by
  obtain ⟨o, h⟩ := h
  have hl : ∀ ty, (Builtin.len_ #[105] ty #[.map (o 2)]).run Tryd.prog w = .ok (.int .i64 2) w := fun ty => SetIs.len2 (hm ▸ h.m) law9 Tryd.underlying105 stV_inj hne ty
  have q2 : w.cell? ⟨B, 2, none⟩ = some (.map (o 2)) := h.cell 2
  clear h
  go_enter Tryd.func23, Tryd.ntmps23
  go_wp2_with fail
  go_ret
  exact ⟨rfl, rfl⟩

def rq1 : Rq := ⟨1, 2, 1, 3, 4⟩
def rR : Mg := { hm 1 11 0 0 with rq := rq1 }
def rM (f t e s : Int) : Mg := { hm 3 f t e with sq := s, rq := rq1 }
/-- one word turned -/
def rN (f t e s j : Int) : Mg := if j = 0 then { rM f t e s with sq := s + 1 } else if j = 1 then { rM f t e s with vw := 1 } else if j = 2 then { rM f t e s with t := (t + 1) % 4 } else { rM f t e s with rq := Rq.zero }
theorem rR_at (w : World) : MgAt w rR Mc.nil := nil_at w _ ⟨rfl, rfl, rfl⟩ rfl rfl rfl
theorem rM_at (w : World) (f t e s : Int) : MgAt w (rM f t e s) Mc.nil := nil_at w _ ⟨rfl, rfl, rfl⟩ rfl rfl rfl
theorem rN_at (w : World) (f t e s j : Int) : MgAt w (rN f t e s j) Mc.nil := by
  unfold rN
  repeat' split
  all_goals exact nil_at w _ ⟨rfl, rfl, rfl⟩ rfl rfl rfl
theorem rR_is : isM rR Mc.nil = true := by decide
theorem gen3 (f t e s v : Int) (r : Rq) (hr : r.is = true) (f0 : 0 ≤ f) (f1 : f < 4) (t0 : 0 ≤ t) (t1 : t < 4) (e0 : 1 ≤ e) (e1 : e ≤ 200) (s0 : 1 ≤ s) (s1 : s ≤ 1000) (v1 : v ≤ 1000) : isM { hm 3 f t e with sq := s, rq := r, vw := v } Mc.nil = true := by
  refine yes_all (ps := [0, 1, 2]) rfl (by simp) ?_ ?_ ?_
  · show (isRp f && (isRp t && isEp e)) = true
    simp only [isRp, isEp, Bool.and_eq_true, decide_eq_true_eq]; omega
  · simp [sameM, sameV, sameVs, Mg.bare, Mc.bare, Mg.step, Mc.step, Mg.head, hm, Mc.nil]
  · intro p hp
    simp at hp
    rcases hp with rfl | rfl | rfl
    · simp [fitB, isVw, hm]; omega
    · simp [fitB, isSq, isPh, isPl, hm]; omega
    · simp [fitB, reqB, hm]; exact hr
theorem enc3 (m : Mg) (hk : m.k = 3) : encM m Mc.nil = [m.k, m.f, m.t, m.e] ++ (b4 m.vw ++ (b4 m.sq ++ m.rq.bytes)) := by
  unfold encM encUp
  rw [show partsOf m.k = [0, 1, 2] by rw [hk]; rfl]
  simp [partY, wordB]
theorem u8_eq {a b : Int} (a0 : 0 ≤ a) (a1 : a < 256) (b0 : 0 ≤ b) (b1 : b < 256) (h : UInt8.ofNat a.toNat = UInt8.ofNat b.toNat) : a = b := by
  have h1 : (UInt8.ofNat a.toNat).toNat = (UInt8.ofNat b.toNat).toNat := by rw [h]
  have h2 : (UInt8.ofNat a.toNat).toNat = a.toNat % 256 := by simp
  have h3 : (UInt8.ofNat b.toNat).toNat = b.toNat % 256 := by simp
  omega
theorem at_eq {l l' : List Int} (h : toU l = toU l') (i : Nat) {a b : Int} (ha : l[i]? = some a) (hb : l'[i]? = some b) : UInt8.ofNat a.toNat = UInt8.ofNat b.toNat := by
  have h1 : (toU l)[i]? = (toU l')[i]? := by rw [h]
  simp [toU, ha, hb] at h1
  exact h1
theorem rN_k (f t e s j : Int) : (rN f t e s j).k = 3 := by
  unfold rN
  split
  · rfl
  split
  · rfl
  split <;> rfl
theorem rN_is (f t e s j : Int) (f0 : 0 ≤ f) (f1 : f < 4) (t0 : 0 ≤ t) (t1 : t < 4) (e0 : 1 ≤ e) (e1 : e ≤ 200) (s0 : 1 ≤ s) (s1 : s ≤ 100) : isM (rN f t e s j) Mc.nil = true := by
  unfold rN
  split
  · exact gen3 f t e (s + 1) 0 rq1 (by decide) f0 f1 t0 t1 e0 e1 (by omega) (by omega) (by omega)
  split
  · exact gen3 f t e s 1 rq1 (by decide) f0 f1 t0 t1 e0 e1 (by omega) (by omega) (by omega)
  split
  · exact gen3 f ((t + 1) % 4) e s 0 rq1 (by decide) f0 f1 (by omega) (by omega) e0 e1 (by omega) (by omega) (by omega)
  · exact gen3 f t e s 0 Rq.zero (by decide) f0 f1 t0 t1 e0 e1 (by omega) (by omega) (by omega)
theorem rN_ne (f t e s j : Int) (t0 : 0 ≤ t) (t1 : t < 4) (_s0 : 1 ≤ s) (_s1 : s ≤ 100) : toU (encM (rN f t e s j) Mc.nil) ≠ toU (encM (rM f t e s) Mc.nil) := by
  rw [enc3 _ (rN_k f t e s j), enc3 (rM f t e s) rfl]
  intro h
  unfold rN at h
  split at h
  · have := u8_eq (by omega) (by omega) (by omega) (by omega) (at_eq h 11 (a := (s + 1) % 256) (b := s % 256) rfl rfl)
    omega
  split at h
  · have := at_eq h 7 (a := 1 % 256) (b := 0 % 256) rfl rfl
    revert this; decide
  split at h
  · have := u8_eq (by omega) (by omega) (by omega) (by omega) (at_eq h 2 (a := (t + 1) % 4) (b := t) rfl rfl)
    omega
  · have := at_eq h 12 (a := 0) (b := 1) rfl rfl
    revert this; decide
end Go.Proofs.YtigpfaecbmnklaaDoor
