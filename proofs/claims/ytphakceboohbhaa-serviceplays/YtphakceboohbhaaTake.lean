/- Page; bytes.Equal; take. -/
import Derived.Test.YtphakceboohbhaaRds
import Derived.Lib.Bytes
namespace Go.Proofs.Ytphakceboohbhaa
open Go.RowKit
set_option maxRecDepth 100000

/-- the bytes of page p -/
def pageB (V T R : Nat → Int) (p : Nat) : List Int := if p = 7 then cg T R 0 else pg V p
theorem pageB_short (V T R : Nat → Int) (p : Nat) : (pageB V T R p).length ≤ 36 := by
  unfold pageB
  split
  · exact cg_short _ _ _
  · have := pg_short V p; omega
theorem pageB_bytes (V T R : Nat → Int) (p : Nat) : ∀ x ∈ pageB V T R p, isByte x := by
  unfold pageB
  split
  · exact cg_bytes _ _ _ _ (Nat.le_refl _)
  · exact pg_bytes _ _ _ (Nat.le_refl _)

theorem page_any (w : World) (B : Nat) (p : Nat) (V T R : Nat → Int) (h : Mp w B V T R) (hp : p < 8) :
    Calls Try.prog 15 #[.pointer (some ⟨B, 0, none⟩), .int .i64 p] w fun e w' => ∃ ao c, e = .returned (.slice ao (pageB V T R p).length c) ∧ New w.heap.size w' ao c (pageB V T R p) ∧ Below w.heap.size w w' := by
  have P := isPage_any w p
  rw [decide_eq_true (by omega)] at P
  have P := Lib.hid P
  have HM := Lib.hid h
  clear h
  by_cases h7 : p = 7
  · subst h7
    have C := Lib.hid (clientBytes_any w B V T R HM.out)
    go_enter Try.func15, Try.ntmps15
    go_wp2_with fail
    refine P.out.mono ?_
    rintro e w1 ⟨rfl, rfl⟩
    go_wp2_with fail
    refine C.out.mono ?_
    rintro e w1 ⟨ao, c, rfl, hn, hk⟩
    have H := Lib.hid (And.intro hn hk)
    clear hn hk
    go_wp2_with fail
    go_ret
    exact ⟨ao, c, rfl, H.out.1, H.out.2⟩
  · have h7' : ¬ (p : Int) = 7 := by omega
    have C := Lib.hid (valueBytes_any w B p V T R HM.out (by omega))
    have e : pageB V T R p = pg V p := by unfold pageB; rw [if_neg h7]
    rw [e]
    clear e
    go_enter Try.func15, Try.ntmps15
    go_wp2_with fail
    refine P.out.mono ?_
    rintro e w1 ⟨rfl, rfl⟩
    go_wp2_with fail
    refine C.out.mono ?_
    rintro e w1 ⟨ao, c, rfl, hn, hk⟩
    have H := Lib.hid (And.intro hn hk)
    clear hn hk
    go_wp2_with fail
    go_ret
    exact ⟨ao, c, rfl, H.out.1, H.out.2⟩

theorem bytesOf_inj : ∀ (a b : List Int), (∀ y ∈ a, isByte y) → (∀ y ∈ b, isByte y) → Lib.bytesOf a = Lib.bytesOf b → a = b := by
  intro a
  induction a with
  | nil => intro b _ _ h; cases b with
    | nil => rfl
    | cons => simp [Lib.bytesOf] at h
  | cons x a ih =>
    intro b ha hb h
    cases b with
    | nil => simp [Lib.bytesOf] at h
    | cons y b =>
      simp only [Lib.bytesOf, List.map_cons, List.cons.injEq] at h
      have hx := ha x (by simp)
      have hy := hb y (by simp)
      have e := congrArg UInt8.toNat h.1
      simp only [UInt8.toNat_ofNat'] at e
      unfold isByte at hx hy
      rw [show x = y by omega, ih b (fun z hz => ha z (by simp [hz])) (fun z hz => hb z (by simp [hz])) h.2]

theorem str_beq {a b : List Int} (ha : ∀ y ∈ a, isByte y) (hb : ∀ y ∈ b, isByte y) : ((strOfNums a).toList == (strOfNums b).toList) = decide (a = b) := by
  rw [Lib.strOfNums_toList, Lib.strOfNums_toList]
  by_cases h : a = b
  · subst h; simp
  · rw [decide_eq_false h, beq_eq_false_iff_ne]
    exact fun e => h (bytesOf_inj a b ha hb e)

theorem kset {a w : World} {B : Nat} (o : Nat) (u : Value) (h : Kept (fun i => i = B) a w) : Kept (fun i => i = B) a (w.setCell ⟨B, o, none⟩ u) := h.setCell ⟨B, o, none⟩ u (fun _ => rfl)

end Go.Proofs.Ytphakceboohbhaa
