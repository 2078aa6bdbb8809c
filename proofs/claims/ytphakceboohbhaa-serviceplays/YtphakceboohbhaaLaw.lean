/- For the laws: a map in memory behind what was there; which requests are done. -/
import Derived.Test.YtphakceboohbhaaKnw
namespace Go.Proofs.Ytphakceboohbhaa
open Go.RowKit
set_option maxRecDepth 100000

/-- a map at A, made since w -/
def MI (w wr : World) (A : Nat) (s : Sv) : Prop := Ms wr A s ∧ GV s ∧ Below w.heap.size w wr ∧ w.heap.size ≤ A
theorem MI.below {w wr w' : World} {A : Nat} {s : Sv} (h : MI w wr A s) (b : Below wr.heap.size wr w') : MI w w' A s :=
  ⟨h.1.below b h.1.lt, h.2.1, h.2.2.1.trans (b.mono h.2.2.1.size), h.2.2.2⟩
theorem MI.drew {w wr : World} {A : Nat} {s : Sv} (h : MI w wr A s) : MI w wr.drew A s := h.below (Below.refl _ wr).drew
theorem MI.kept {w wr w' : World} {A : Nat} {s s' : Sv} (h : MI w wr A s) (k : Kept (fun i => i = A) wr w') (m : Ms w' A s') (g : GV s') : MI w w' A s' :=
  ⟨m, g, h.2.2.1.trans (k.below h.2.2.1.size (fun i e => by subst e; exact h.2.2.2)), h.2.2.2⟩
theorem new_mi (w wr : World) (b : Below w.heap.size w wr) : Calls Try.prog 9 #[] wr fun e w' => e = .returned (.pointer (some ⟨wr.heap.size, 0, none⟩)) ∧ MI w w' wr.heap.size s0 ∧ Below wr.heap.size wr w' :=
  (new_ms wr).mono fun _ _ h => ⟨h.1, ⟨h.2.1, gv0, b.trans (h.2.2.mono b.size), b.size⟩, h.2.2⟩
/-- Apply of a request, by its words -/
theorem ap_mi {w wr : World} {A : Nat} {s : Sv} (h : MI w wr A s) (c t k y v : Int) (s' : Sv) (x : Int) (b : Bool) (hr : (⟨c, t, k, y, v⟩ : Rq).ok) (eS : apS s ⟨c, t, k, y, v⟩ = s') (eR : apR s ⟨c, t, k, y, v⟩ = x) (eB : apB s ⟨c, t, k, y, v⟩ = b) :
    Calls Try.prog 13 #[.pointer (some ⟨A, 0, none⟩), .agg #[.int .u8 c, .int .u32 t, .int .u8 k, .int .u8 y, .int .u16 v]] wr fun e w' => e = .returned (.tuple #[.int .u32 x, .bool b]) ∧ MI w w' A s' ∧ Kept (fun i => i = A) wr w' := by
  subst eS eR eB
  exact (apply_any wr A s ⟨c, t, k, y, v⟩ hr h.1 h.2.1).mono fun _ _ hh => ⟨hh.1, h.kept hh.2.1 hh.2.2 (h.2.1.ap hr), hh.2.1⟩

theorem ok_mk {c t k y v : Int} (hc : 0 ≤ c ∧ c ≤ 255) (ht : 0 ≤ t ∧ t ≤ 4294967295) (hk : 0 ≤ k ∧ k ≤ 255) (hy : 0 ≤ y ∧ y ≤ 255) (hv : 0 ≤ v ∧ v ≤ 65535) : (⟨c, t, k, y, v⟩ : Rq).ok := ⟨hc, ht, hk, hy, hv⟩
theorem real_mk {c t k y v : Int} (hc : 1 ≤ c ∧ c ≤ 4) (ht : t ≠ 0) (hk : 1 ≤ k ∧ k ≤ 3) (hy : y < 64) (hv : k ≠ 2 ∨ v = 0) : (⟨c, t, k, y, v⟩ : Rq).real = true := by
  have h0 : ¬ ((⟨c, t, k, y, v⟩ : Rq) = Rq.zero) := fun e => by injection e with e1; omega
  unfold Rq.real Rq.is Rq.isOp
  simp only [decide_eq_false h0, Bool.not_false, Bool.true_and, Bool.false_or, Bool.and_eq_true, decide_eq_true_eq, Bool.or_eq_true]
  exact ⟨hc, ht, hk.1, hk.2, hy, hv⟩
theorem ct_in (T : Nat → Int) (c : Nat) (hc : 1 ≤ c ∧ c ≤ 4) : ct T c = T (c - 1) := by unfold ct; rw [if_pos (by omega)]; rfl
/-- what is new is done -/
theorem ap_new {s : Sv} {r : Rq} (hr : r.real = true) (h : ct s.T r.c < r.t) : apS s r = ⟨upd s.V r.y.toNat (doV r (s.V r.y.toNat)), upd s.T (r.c.toNat - 1) r.t, upd s.R (r.c.toNat - 1) (doR r (s.V r.y.toNat))⟩ ∧ apR s r = doR r (s.V r.y.toNat) ∧ apB s r = true ∧ svNew s r = true := by
  have n : svNew s r = true := by unfold svNew; rw [hr]; simpa using h
  unfold apS apR apB
  rw [n]
  exact ⟨rfl, rfl, rfl, rfl⟩
theorem ap_same {s : Sv} {r : Rq} (hr : r.real = true) (h : r.t = ct s.T r.c) : apS s r = s ∧ apR s r = ct s.R r.c ∧ apB s r = true ∧ svNew s r = false := by
  have n : svNew s r = false := by unfold svNew; rw [h]; simp
  have o : oldB s r = true := by unfold oldB; rw [hr, h]; simp
  unfold apS apR apB oldR
  rw [n, o]
  exact ⟨rfl, rfl, rfl, rfl⟩
theorem ap_old {s : Sv} {r : Rq} (h : r.t < ct s.T r.c) : apS s r = s ∧ apR s r = 0 ∧ apB s r = false ∧ svNew s r = false := by
  have n : svNew s r = false := by unfold svNew; simp; intro; omega
  have o : oldB s r = false := by unfold oldB; simp; intro; omega
  unfold apS apR apB oldR
  rw [n, o]
  exact ⟨rfl, rfl, rfl, rfl⟩
theorem ap_none {s : Sv} {r : Rq} (hr : r.real = false) : apS s r = s ∧ apR s r = 0 ∧ apB s r = false ∧ svNew s r = false := by
  have n : svNew s r = false := by unfold svNew; rw [hr]; rfl
  have o : oldB s r = false := by unfold oldB; rw [hr]; rfl
  unfold apS apR apB oldR
  rw [n, o]
  exact ⟨rfl, rfl, rfl, rfl⟩
end Go.Proofs.Ytphakceboohbhaa
