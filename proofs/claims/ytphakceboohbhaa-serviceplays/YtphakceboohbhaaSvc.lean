/- Requests done once: the program's New, again, do. -/
import Derived.Test.YtphakceboohbhaaRf2
import Derived.Test.YtphakceboohbhaaPair
import Derived.Test.YtphakceboohbhaaSame
namespace Go.Proofs.Ytphakceboohbhaa
open Go.RowKit
set_option maxRecDepth 100000

/-- its numbers are in range -/
def Rq.ok (r : Rq) : Prop := (0 ≤ r.c ∧ r.c ≤ 255) ∧ (0 ≤ r.t ∧ r.t ≤ 4294967295) ∧ (0 ≤ r.k ∧ r.k ≤ 255) ∧ (0 ≤ r.y ∧ r.y ≤ 255) ∧ (0 ≤ r.v ∧ r.v ≤ 65535)
/-- a request that is one, and not the null one -/
def Rq.real (r : Rq) : Bool := !decide (r = Rq.zero) && r.is
theorem Rq.real_bounds {r : Rq} (h : r.real = true) : (1 ≤ r.c ∧ r.c ≤ 4) ∧ r.t ≠ 0 ∧ (1 ≤ r.k ∧ r.k ≤ 3) ∧ r.y < 64 := by
  unfold Rq.real Rq.is Rq.isOp at h
  simp only [Bool.and_eq_true, Bool.not_eq_true', decide_eq_false_iff_not, Bool.or_eq_true, decide_eq_true_eq] at h
  obtain ⟨h0, h1⟩ := h
  rcases h1 with h1 | h1
  · exact absurd h1 h0
  · exact ⟨h1.1, h1.2.1, ⟨h1.2.2.1, h1.2.2.2.1⟩, h1.2.2.2.2.1⟩

/-- what a map holds: the values, the clients' last ts and results -/
structure Sv where
  V : Nat → Int
  T : Nat → Int
  R : Nat → Int
def ct (T : Nat → Int) (c : Int) : Int := if 1 ≤ c ∧ c ≤ 4 then T (c.toNat - 1) else 0
def svNew (s : Sv) (r : Rq) : Bool := r.real && decide (ct s.T r.c < r.t)
def doV (r : Rq) (x : Int) : Int := if r.k = 1 then r.v else if r.k = 3 then (x + r.v) % 65536 else x
def doR (r : Rq) (x : Int) : Int := if r.k = 1 then x else if r.k = 3 then (x + r.v) % 65536 else x
def apS (s : Sv) (r : Rq) : Sv := if svNew s r = true then ⟨upd s.V r.y.toNat (doV r (s.V r.y.toNat)), upd s.T (r.c.toNat - 1) r.t, upd s.R (r.c.toNat - 1) (doR r (s.V r.y.toNat))⟩ else s
def oldB (s : Sv) (r : Rq) : Bool := r.real && decide (r.t = ct s.T r.c)
def oldR (s : Sv) (r : Rq) : Int := if oldB s r = true then ct s.R r.c else 0
def apR (s : Sv) (r : Rq) : Int := if svNew s r = true then doR r (s.V r.y.toNat) else oldR s r
def apB (s : Sv) (r : Rq) : Bool := svNew s r || oldB s r
def Ms (w : World) (B : Nat) (s : Sv) : Prop := Mp w B s.V s.T s.R
theorem Ms.below {w w' : World} {B H : Nat} {s : Sv} (h : Ms w B s) (hk : Below H w w') (hB : B < H) : Ms w' B s := Mp.below h hk hB
theorem Ms.lt {w : World} {B : Nat} {s : Sv} (h : Ms w B s) : B < w.heap.size := Mp.lt h

/-- a request that was put by -/
def BoxR (w : World) (X : Nat) (r : Rq) : Prop := w.heap[X]? = some (.cells r.cells.toArray 38 (0, 0))
theorem box_new (w : World) (r : Rq) : BoxR (w.alloc (.cells r.cells.toArray 38)) w.heap.size r := heap_alloc_new w _
theorem BoxR.lt {w : World} {X : Nat} {r : Rq} (h : BoxR w X r) : X < w.heap.size := lt_of_block h
theorem BoxR.below {w w' : World} {X H : Nat} {r : Rq} (h : BoxR w X r) (hk : Below H w w') (hX : X < H) : BoxR w' X r := by
  unfold BoxR at *
  rw [hk.block X hX]; exact h
theorem BoxR.kept {S : Nat → Prop} {w w' : World} {X : Nat} {r : Rq} (h : BoxR w X r) (hk : Kept S w w') (hX : ¬ S X) : BoxR w' X r := by
  unfold BoxR at *
  rw [hk.block X (lt_of_block h) hX]; exact h
theorem BoxR.cells {w : World} {X : Nat} {r : Rq} (h : BoxR w X r) : w.cell? ⟨X, 0, none⟩ = some (.int .u8 r.c) ∧ w.cell? ⟨X, 1, none⟩ = some (.int .u32 r.t) ∧ w.cell? ⟨X, 2, none⟩ = some (.int .u8 r.k) ∧ w.cell? ⟨X, 3, none⟩ = some (.int .u8 r.y) ∧ w.cell? ⟨X, 4, none⟩ = some (.int .u16 r.v) :=
  ⟨cell_of_row w X 0 _ 38 (0, 0) h, cell_of_row w X 1 _ 38 (0, 0) h, cell_of_row w X 2 _ 38 (0, 0) h, cell_of_row w X 3 _ 38 (0, 0) h, cell_of_row w X 4 _ 38 (0, 0) h⟩

theorem client_any (w : World) (B : Nat) (c : Int) (hc : 0 ≤ c) (s : Sv) (h : Ms w B s) :
    Calls Try.prog 21 #[.pointer (some ⟨B, 0, none⟩), .int .u8 c] w fun e w' => e = .returned (.tuple #[.int .u32 (ct s.T c), .int .u32 (ct s.R c)]) ∧ Below w.heap.size w w' := by
  obtain ⟨k, rfl⟩ : ∃ k : Nat, c = k := ⟨c.toNat, by omega⟩
  by_cases hk : 1 ≤ k ∧ k ≤ 4
  · refine (client_some w B k s.V s.T s.R h hk).mono ?_
    rintro e w' ⟨rfl, hk'⟩
    have e1 : (1 : Int) ≤ (k : Int) ∧ (k : Int) ≤ 4 := by omega
    refine ⟨?_, hk'.below (Nat.le_refl _) (fun _ h => h.elim)⟩
    unfold ct
    rw [if_pos e1, if_pos e1]
    rfl
  · refine (client_none w B k hk).mono ?_
    rintro e w' ⟨rfl, rfl⟩
    have e1 : ¬ ((1 : Int) ≤ (k : Int) ∧ (k : Int) ≤ 4) := by omega
    refine ⟨?_, Below.refl _ _⟩
    unfold ct
    rw [if_neg e1, if_neg e1]

set_option maxHeartbeats 1000000 in
theorem isReal_any (r : Rq) (w : World) : Calls Try.prog 23 #[.agg r.cells.toArray] w fun e w' => e = .returned (.bool r.real) ∧ Below w.heap.size w w' := by
  have hq := neq27 r Rq.zero
  have hg := fun op a b w => guard27 op a b r Rq.zero w
  have IS := isReq_any r
  obtain ⟨bb, hb⟩ : ∃ b, b = r.real := ⟨_, rfl⟩
  rw [← hb]
  unfold Rq.real at hb
  generalize r.is = i at hb IS
  have HB := Lib.hid hb
  clear hb
  by_cases h0 : r = Rq.zero
  · simp only [h0, decide_true, Bool.not_true] at hq
    simp only [h0, Rq.zero, Rq.cells] at hq hg ⊢
    clear IS
    go_enter Try.func23, Try.ntmps23
    go_wp2_with fail
    go_ret
    refine ⟨?_, (Below.refl _ _).alloc (Nat.le_refl _) _⟩
    rw [HB.out, h0]
    simp
  · simp only [h0, decide_false, Bool.not_false] at hq
    have H0 := Lib.hid h0
    clear h0
    simp only [Rq.zero, Rq.cells] at hq hg IS ⊢
    replace IS := Lib.hid IS
    go_enter Try.func23, Try.ntmps23
    go_wp2_with fail
    refine (IS.out _).mono ?_
    rintro e w' ⟨rfl, b1⟩
    replace b1 := Lib.hid b1
    go_wp2_with fail
    go_ret
    refine ⟨?_, ?_⟩
    · rw [HB.out]; simp [H0.out]
    · exact ((Below.refl _ w).alloc (Nat.le_refl _) _).trans (b1.out.mono (by simp))

set_option maxHeartbeats 1000000 in
theorem new_svc (w : World) (B : Nat) (s : Sv) (r : Rq) (hr : r.ok) (h : Ms w B s) :
    Calls Try.prog 10 #[.pointer (some ⟨B, 0, none⟩), .agg r.cells.toArray] w fun e w' => e = .returned (.bool (svNew s r)) ∧ Below w.heap.size w w' := by
  have b0 : Below w.heap.size w (w.alloc (.cells r.cells.toArray 38)) := (Below.refl _ w).alloc (Nat.le_refl _) _
  have C := Lib.hid (client_any _ B r.c hr.1.1 s (h.below b0 h.lt))
  have I := Lib.hid (isReal_any r)
  have X := Lib.hid (And.intro (box_new w r) b0)
  obtain ⟨bb, hb⟩ : ∃ b, b = svNew s r := ⟨_, rfl⟩
  rw [← hb]
  unfold svNew at hb
  generalize ct s.T r.c = l at hb C
  generalize ct s.R r.c = l2 at C
  have HB := Lib.hid hb
  clear hb b0 h hr
  generalize r.real = i at HB I
  obtain ⟨c, t, k, y, v⟩ := r
  simp only [Rq.cells] at C I X HB ⊢
  go_enter Try.func10, Try.ntmps10
  go_wp2_with fail
  refine C.out.mono ?_
  rintro e w2 ⟨rfl, b2⟩
  obtain ⟨q0, q1, q2, q3, q4⟩ := (X.out.1.below b2 (by simp)).cells
  have X2 := Lib.hid (And.intro (X.out.1.below b2 (by simp)) (X.out.2.trans (b2.mono (by simp))))
  clear C b2 X
  go_wp2_with fail
  refine (I.out _).mono ?_
  rintro e w3 ⟨rfl, b3⟩
  obtain ⟨p0, p1, p2, p3, p4⟩ := (X2.out.1.below b3 X2.out.1.lt).cells
  have B3 := Lib.hid (X2.out.2.trans (b3.mono X2.out.2.size))
  clear b3 X2 q0 q1 q2 q3 q4 I
  cases i
  · go_wp2_with fail
    go_ret
    exact ⟨by rw [HB.out]; rfl, B3.out⟩
  · go_wp2_with fail
    go_ret
    exact ⟨by rw [HB.out]; simp, B3.out⟩

set_option maxHeartbeats 1000000 in
theorem again_any (w : World) (B : Nat) (s : Sv) (r : Rq) (hr : r.ok) (h : Ms w B s) :
    Calls Try.prog 26 #[.pointer (some ⟨B, 0, none⟩), .agg r.cells.toArray] w fun e w' => e = .returned (.tuple #[.int .u32 (oldR s r), .bool (oldB s r)]) ∧ Below w.heap.size w w' := by
  have b0 : Below w.heap.size w (w.alloc (.cells r.cells.toArray 38)) := (Below.refl _ w).alloc (Nat.le_refl _) _
  have C := Lib.hid (client_any _ B r.c hr.1.1 s (h.below b0 h.lt))
  have I := Lib.hid (isReal_any r)
  have X := Lib.hid (And.intro (box_new w r) b0)
  obtain ⟨bn, hn⟩ : ∃ b, b = oldR s r := ⟨_, rfl⟩
  rw [← hn]
  unfold oldR at hn
  obtain ⟨bb, hb⟩ : ∃ b, b = oldB s r := ⟨_, rfl⟩
  rw [← hb] at hn ⊢
  unfold oldB at hb
  generalize ct s.T r.c = l at hb C
  generalize ct s.R r.c = l2 at C hn
  have HB := Lib.hid (And.intro hb hn)
  clear hb hn b0 h hr
  generalize r.real = i at HB I
  obtain ⟨c, t, k, y, v⟩ := r
  simp only [Rq.cells] at C I X HB ⊢
  go_enter Try.func26, Try.ntmps26
  go_wp2_with fail
  refine C.out.mono ?_
  rintro e w2 ⟨rfl, b2⟩
  obtain ⟨q0, q1, q2, q3, q4⟩ := (X.out.1.below b2 (by simp)).cells
  have X2 := Lib.hid (And.intro (X.out.1.below b2 (by simp)) (X.out.2.trans (b2.mono (by simp))))
  clear C b2 X
  go_wp2_with fail
  refine (I.out _).mono ?_
  rintro e w3 ⟨rfl, b3⟩
  obtain ⟨p0, p1, p2, p3, p4⟩ := (X2.out.1.below b3 X2.out.1.lt).cells
  have B3 := Lib.hid (X2.out.2.trans (b3.mono X2.out.2.size))
  clear b3 X2 q0 q1 q2 q3 q4 I
  cases i
  · go_wp2_with fail
    have e1 : bb = false := by rw [HB.out.1]; rfl
    subst e1
    exact bodyPost_ret (v := .tuple #[.int .u32 0, .bool false]) (by simp [results, Try.results26, go_sem]) rfl ⟨by rw [HB.out.2]; rfl, B3.out⟩
  · by_cases ht : t = l
    · subst ht
      go_wp2_with fail
      have e1 : bb = true := by rw [HB.out.1]; simp
      subst e1
      exact bodyPost_ret (v := .tuple #[.int .u32 l2, .bool true]) (by simp [results, Try.results26, go_sem]) rfl ⟨by rw [HB.out.2]; rfl, B3.out⟩
    · have hne : (t == l) = false := by simpa using ht
      have hne2 : (t != l) = true := by simpa using ht
      have e1 : bb = false := by rw [HB.out.1]; simp [ht]
      subst e1
      clear ht
      go_wp2_with fail
      exact bodyPost_ret (v := .tuple #[.int .u32 0, .bool false]) (by simp [results, Try.results26, go_sem]) rfl ⟨by rw [HB.out.2]; rfl, B3.out⟩

set_option maxHeartbeats 1000000 in
theorem do_any (w : World) (r : Rq) (hr : r.ok) (x : Int) (hx : 0 ≤ x ∧ x ≤ 65535) :
    Calls Try.prog 27 #[.agg #[.int .u8 r.k, .int .u8 r.y, .int .u16 r.v], .int .u16 x] w fun e w' => e = .returned (.tuple #[.int .u16 (doV r x), .int .u32 (doR r x)]) ∧ Below w.heap.size w w' := by
  have hw : IntKind.u32.wrap x = x := by
    have : IntKind.u32.wrap x = x % 4294967296 := rfl
    omega
  have hw2 : IntKind.u32.wrap (IntKind.u16.wrap (x + r.v)) = (x + r.v) % 65536 := by
    have h1 : IntKind.u32.wrap (IntKind.u16.wrap (x + r.v)) = (IntKind.u16.wrap (x + r.v)) % 4294967296 := rfl
    have h2 : IntKind.u16.wrap (x + r.v) = (x + r.v) % 65536 := rfl
    omega
  have hw3 : IntKind.u16.wrap (x + r.v) = (x + r.v) % 65536 := rfl
  obtain ⟨vv, hv⟩ : ∃ b, b = doV r x := ⟨_, rfl⟩
  obtain ⟨rr, hrr⟩ : ∃ b, b = doR r x := ⟨_, rfl⟩
  rw [← hv, ← hrr]
  unfold doV at hv
  unfold doR at hrr
  have HV := Lib.hid (And.intro hv hrr)
  clear hv hrr hr hx
  obtain ⟨c, t, k, y, v⟩ := r
  simp only at HV hw hw2 hw3 ⊢
  by_cases h1 : k = 1
  · subst h1
    go_enter Try.func27, Try.ntmps27
    go_wp2_with fail
    exact bodyPost_ret (v := .tuple #[.int .u16 v, .int .u32 x]) (by simp [results, Try.results27, go_sem]) rfl ⟨by rw [HV.out.1, HV.out.2]; rfl, (Below.refl _ _).alloc (Nat.le_refl _) _⟩
  · by_cases h3 : k = 3
    · subst h3
      go_enter Try.func27, Try.ntmps27
      go_wp2_with fail
      exact bodyPost_ret (v := .tuple #[.int .u16 ((x + v) % 65536), .int .u32 ((x + v) % 65536)]) (by simp [results, Try.results27, go_sem]) rfl ⟨by rw [HV.out.1, HV.out.2]; rfl, (Below.refl _ _).alloc (Nat.le_refl _) _⟩
    · have e1 : (k == 1) = false := by simpa using h1
      have e3 : (k == 3) = false := by simpa using h3
      replace HV := Lib.hid (And.intro h1 (And.intro h3 HV.out))
      clear h1 h3
      go_enter Try.func27, Try.ntmps27
      go_wp2_with fail
      exact bodyPost_ret (v := .tuple #[.int .u16 x, .int .u32 x]) (by simp [results, Try.results27, go_sem]) rfl ⟨by rw [HV.out.2.2.1, HV.out.2.2.2, if_neg HV.out.1, if_neg HV.out.2.1, if_neg HV.out.1], (Below.refl _ _).alloc (Nat.le_refl _) _⟩
end Go.Proofs.Ytphakceboohbhaa
