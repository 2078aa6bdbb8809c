/- Page; bytes.Equal; take. -/
import Derived.Test.YtfbcjigekmgbnaaRds
import Derived.Lib.Bytes
namespace Go.Proofs.Ytfbcjigekmgbnaa
open Go.RowKit
set_option maxRecDepth 100000

/-- the bytes of page p -/
def pageB (V T R : Nat → Int) (p : Nat) : List Int := if p = 7 then cg T R 0 else pg V p
theorem pageB_short (V T R : Nat → Int) (p : Nat) : (pageB V T R p).length ≤ 36 := by
  unfold pageB
  split
  · exact cg_short _ _ _
  · have := pg_short V p; omega
theorem pageB_bytes (V T R : Nat → Int) (p : Nat) : ∀ x ∈ pageB V T R p, isByte x := by
  unfold pageB
  split
  · exact cg_bytes _ _ _ _ (Nat.le_refl _)
  · exact pg_bytes _ _ _ (Nat.le_refl _)

theorem page_any (w : World) (B : Nat) (p : Nat) (V T R : Nat → Int) (h : Mp w B V T R) (hp : p < 8) :
    Calls Try.prog 29 #[.pointer (some ⟨B, 0, none⟩), .int .i64 p] w fun e w' => ∃ ao c, e = .returned (.slice ao (pageB V T R p).length c) ∧ New w.heap.size w' ao c (pageB V T R p) ∧ Below w.heap.size w w' := by
  have P := isPage_any w p
  rw [decide_eq_true (by omega)] at P
  have P := Lib.hid P
  have HM := Lib.hid h
  clear h
  by_cases h7 : p = 7
  · subst h7
    have C := Lib.hid (clientBytes_any w B V T R HM.out)
    go_enter Try.func29, Try.ntmps29
    go_wp2_with fail
    refine P.out.mono ?_
    rintro e w1 ⟨rfl, rfl⟩
    go_wp2_with fail
    refine C.out.mono ?_
    rintro e w1 ⟨ao, c, rfl, hn, hk⟩
    have H := Lib.hid (And.intro hn hk)
    clear hn hk
    go_wp2_with fail
    go_ret
    exact ⟨ao, c, rfl, H.out.1, H.out.2⟩
  · have h7' : ¬ (p : Int) = 7 := by omega
    have C := Lib.hid (valueBytes_any w B p V T R HM.out (by omega))
    have e : pageB V T R p = pg V p := by unfold pageB; rw [if_neg h7]
    rw [e]
    clear e
    go_enter Try.func29, Try.ntmps29
    go_wp2_with fail
    refine P.out.mono ?_
    rintro e w1 ⟨rfl, rfl⟩
    go_wp2_with fail
    refine C.out.mono ?_
    rintro e w1 ⟨ao, c, rfl, hn, hk⟩
    have H := Lib.hid (And.intro hn hk)
    clear hn hk
    go_wp2_with fail
    go_ret
    exact ⟨ao, c, rfl, H.out.1, H.out.2⟩

theorem bytesOf_inj : ∀ (a b : List Int), (∀ y ∈ a, isByte y) → (∀ y ∈ b, isByte y) → Lib.bytesOf a = Lib.bytesOf b → a = b := by
  intro a
  induction a with
  | nil => intro b _ _ h; cases b with
    | nil => rfl
    | cons => simp [Lib.bytesOf] at h
  | cons x a ih =>
    intro b ha hb h
    cases b with
    | nil => simp [Lib.bytesOf] at h
    | cons y b =>
      simp only [Lib.bytesOf, List.map_cons, List.cons.injEq] at h
      have hx := ha x (by simp)
      have hy := hb y (by simp)
      have e := congrArg UInt8.toNat h.1
      simp only [UInt8.toNat_ofNat'] at e
      unfold isByte at hx hy
      rw [show x = y by omega, ih b (fun z hz => ha z (by simp [hz])) (fun z hz => hb z (by simp [hz])) h.2]

theorem str_beq {a b : List Int} (ha : ∀ y ∈ a, isByte y) (hb : ∀ y ∈ b, isByte y) : ((strOfNums a).toList == (strOfNums b).toList) = decide (a = b) := by
  rw [Lib.strOfNums_toList, Lib.strOfNums_toList]
  by_cases h : a = b
  · subst h; simp
  · rw [decide_eq_false h, beq_eq_false_iff_ne]
    exact fun e => h (bytesOf_inj a b ha hb e)

set_option maxHeartbeats 1000000 in
theorem equal_any (w : World) (p0 p1 : Option Addr) (c0 c1 : Nat) (a b : List Int) (h0 : Bytes w p0 a) (h1 : Bytes w p1 b) (n0 : p0 = none → a = []) (n1 : p1 = none → b = []) (ha : ∀ y ∈ a, isByte y) (hb : ∀ y ∈ b, isByte y) :
    Calls Try.prog 45 #[.slice p0 a.length c0, .slice p1 b.length c1] w fun e w' => e = .returned (.bool (decide (a = b))) ∧ w = w' := by
  have s0 := str_bytes (c := c0) h0 n0
  have s1 := str_bytes (c := c1) h1 n1
  have E := Lib.hid (str_beq ha hb)
  generalize strOfNums a = sa at *
  generalize strOfNums b = sb at *
  generalize a.length = ma at *
  generalize b.length = mb at *
  rw [← E.out]
  clear h0 h1 n0 n1 ha hb E
  go_enter Try.func45, Try.ntmps45
  go_wp2_with fail
  go_ret
  exact ⟨rfl, rfl⟩

theorem kset {a w : World} {B : Nat} (o : Nat) (u : Value) (h : Kept (fun i => i = B) a w) : Kept (fun i => i = B) a (w.setCell ⟨B, o, none⟩ u) := h.setCell ⟨B, o, none⟩ u (fun _ => rfl)

set_option maxHeartbeats 1600000 in
theorem take_last (w : World) (B F : Nat) (V T R V' T' R' : Nat → Int) (h : Mp w B V T R) (h' : Mp w F V' T' R') :
    Calls Try.prog 46 #[.pointer (some ⟨B, 0, none⟩), .int .i64 7, .pointer (some ⟨F, 0, none⟩)] w fun e w' => e = .returned (.tuple #[]) ∧ Kept (fun i => i = B) w w' ∧ Mp w' B V T' R' := by
  have a0 := h'.ts 0 (by omega)
  have a1 := h'.ts 1 (by omega)
  have a2 := h'.ts 2 (by omega)
  have a3 := h'.ts 3 (by omega)
  have b0 := h'.rs 0 (by omega)
  have b1 := h'.rs 1 (by omega)
  have b2 := h'.rs 2 (by omega)
  have b3 := h'.rs 3 (by omega)
  have c0 := h.ts 0 (by omega)
  have c1 := h.ts 1 (by omega)
  have c2 := h.ts 2 (by omega)
  have c3 := h.ts 3 (by omega)
  have d0 := h.rs 0 (by omega)
  have d1 := h.rs 1 (by omega)
  have d2 := h.rs 2 (by omega)
  have d3 := h.rs 3 (by omega)
  have f0 := h.frozen 64
  have f1 := h.frozen 65
  have f2 := h.frozen 66
  have f3 := h.frozen 67
  have f4 := h.frozen 68
  have f5 := h.frozen 69
  have f6 := h.frozen 70
  have f7 := h.frozen 71
  have HS := Lib.hid ((((((((h.setts 0 (T' 0) (by omega)).setrs 0 (R' 0) (by omega)).setts 1 (T' 1) (by omega)).setrs 1 (R' 1) (by omega)).setts 2 (T' 2) (by omega)).setrs 2 (R' 2) (by omega)).setts 3 (T' 3) (by omega)).setrs 3 (R' 3) (by omega))
  simp only [Nat.reduceMul, Nat.reduceAdd] at a0 a1 a2 a3 b0 b1 b2 b3 c0 c1 c2 c3 d0 d1 d2 d3 HS
  have h := Lib.hid h
  have h' := Lib.hid h'
  clear h h'
  go_enter Try.func46, Try.ntmps46
  go_wp2_with fail
  refine bodyPost_ret (v := .tuple #[]) (by simp [results, Try.results46, go_sem]) rfl ⟨rfl, ?_, HS.out.ext (fun i _ => rfl) (fun i hi => ?_)⟩
  · exact kset _ _ (kset _ _ (kset _ _ (kset _ _ (kset _ _ (kset _ _ (kset _ _ (kset _ _ (Kept.refl _ w))))))))
  · rcases (by omega : i = 0 ∨ i = 1 ∨ i = 2 ∨ i = 3) with rfl | rfl | rfl | rfl <;> exact ⟨rfl, rfl⟩

/-- page p's values from V', the others from V, as far as k -/
def mix (V V' : Nat → Int) (p k : Nat) : Nat → Int := fun i => if i < k ∧ i % 7 = p % 7 then V' i else V i
theorem mix_next (V V' : Nat → Int) (p k : Nat) (hk : k % 7 = p % 7) : ∀ i, upd (mix V V' p k) k (V' k) i = mix V V' p (k + 7) i := by
  intro i
  unfold upd mix
  by_cases h : i = k
  · subst h
    rw [if_pos rfl, if_pos (by omega)]
  · rw [if_neg h]
    by_cases h2 : i < k ∧ i % 7 = p % 7
    · rw [if_pos h2, if_pos (by omega)]
    · rw [if_neg h2, if_neg (by omega)]

set_option maxHeartbeats 1600000 in
theorem take_keys (w : World) (B F : Nat) (p : Nat) (V T R V' T' R' : Nat → Int) (h : Mp w B V T R) (h' : Mp w F V' T' R') (hp : p < 7) (hBF : B ≠ F) :
    Calls Try.prog 46 #[.pointer (some ⟨B, 0, none⟩), .int .i64 p, .pointer (some ⟨F, 0, none⟩)] w fun e w' => e = .returned (.tuple #[]) ∧ Kept (fun i => i = B) w w' ∧ Mp w' B (mix V V' p 64) T R := by
  have h7' : ¬ (p : Int) = 7 := by omega
  have hm0 : ∀ i, V i = mix V V' p p i := fun i => by unfold mix; rw [if_neg (by omega)]
  have HM := Lib.hid (h.ext (V' := mix V V' p p) (fun i _ => hm0 i) (fun i _ => ⟨rfl, rfl⟩))
  have HF := Lib.hid h'
  have HN := Lib.hid hBF
  clear h h' hm0 hBF
  go_enter Try.func46, Try.ntmps46
  go_wp2_with fail
  go_loopw [6] (fun vi wr => ∃ k, vi = .int .i64 (k : Nat) ∧ Hid (Mp wr B (mix V V' p k) T R ∧ Kept (fun i => i = B) w wr ∧ k % 7 = p % 7 ∧ k ≤ 70 ∧ p ≤ k)) (fun i _ => 70 - (intOf i).toNat)
  case atStart => exact ⟨p, rfl, Lib.hid ⟨HM.out, Kept.refl _ _, rfl, by omega, Nat.le_refl _⟩⟩
  case round =>
    obtain ⟨k, rfl, I⟩ := hrel
    rename_i wr
    by_cases h64 : k < 64
    · have h64' : (k : Int) < 64 := by omega
      have hc := (HF.out.kept I.out.2.1 (fun e => HN.out e.symm)).val k h64
      have hd := I.out.1.val k h64
      have hf := I.out.1.frozen k
      have HS := Lib.hid (I.out.1.set k (V' k) h64)
      generalize hx : V' k = x at hc HS
      generalize mix V V' p k k = y at hd
      have HX := Lib.hid hx
      clear hx
      go_wp2_with fail
      go_region
      go_wp2_with fail
      have hM : Mp (wr.setCell ⟨B, k, none⟩ (.int .u16 x)).drew B (mix V V' p (k + 7)) T R := by
        refine Mp.ext (V := upd (mix V V' p k) k x) (T := T) (R := R) HS.out (fun i _ => ?_) (fun i _ => ⟨rfl, rfl⟩)
        rw [← HX.out]
        exact mix_next V V' p k I.out.2.2.1 i
      have hk := I.out.2.2.1
      have hp := I.out.2.2.2.2
      exact ⟨⟨k + 7, by go_num, Lib.hid ⟨hM, (kset _ _ I.out.2.1).drew, by omega, by omega, by omega⟩⟩, by simp [intOf]; omega⟩
    · have h64' : ¬ (k : Int) < 64 := by omega
      go_wp2_with fail
      go_end0
      refine ⟨rfl, I.out.2.1, I.out.1.ext (fun i hi => ?_) (fun i _ => ⟨rfl, rfl⟩)⟩
      unfold mix
      by_cases h2 : i % 7 = p % 7
      · rw [if_pos (by omega), if_pos (by omega)]
      · rw [if_neg (by omega), if_neg (by omega)]
end Go.Proofs.Ytfbcjigekmgbnaa
