/- A copy of bytes; bytes that lie apart from a block. -/
import Derived.Test.YtibbomeeoobgkaaOwn
import Derived.Laws.CopyOwn
import Derived.Deep.RegionWith
namespace Go.Proofs.Ytibbomeeoobgkaa
open Go.RowKit
set_option maxRecDepth 100000

/-- the bytes l lie at ao, apart from block B -/
structure Lies (w : World) (B : Nat) (ao : Option Addr) (c : Nat) (l : List Int) : Prop where
  bytes : Bytes w ao l
  none : ao = none → l = [] ∧ c = 0
  fits : l.length ≤ c
  apart : ∀ ad, ao = some ad → ad.block ≠ B

theorem Lies.kept {S : Nat → Prop} {w w' : World} {B : Nat} {ao : Option Addr} {c : Nat} {l : List Int} (h : Lies w B ao c l) (hk : Kept S w w') (hS : ∀ k, S k → k = B) : Lies w' B ao c l :=
  ⟨bytes_kept h.bytes hk (fun ad e _ hs => h.apart ad e (hS _ hs)), h.none, h.fits, h.apart⟩

/-- a row that was made: its bytes -/
theorem bytes_row {w : World} {g : Nat} {l : List Int} {T : TypeId} (h : w.heap[g]? = some (.cells (vals l).toArray T (0, 0))) : Bytes w (some ⟨g, 0, none⟩) l := by
  intro i hi
  refine ⟨_, rfl, ?_⟩
  have e : (⟨g, 0, none⟩ : Addr).add i = ⟨g, i, none⟩ := by unfold Addr.add; split <;> simp_all
  rw [e]
  simp [World.cell?, h, vals, List.getElem?_eq_getElem hi]

theorem byte_size : (Try.prog.info? 5).map (·.size) = some 1 := by kernel_rfl

theorem bytes_belowS {w w' : World} {ao : Option Addr} {l : List Int} (h : Bytes w ao l) (hk : Below w.heap.size w w') : Bytes w' ao l :=
  bytes_kept h (Kept.ofBelow (S := fun _ => False) hk) (fun _ _ _ h => h)

theorem copy_run (w w1 : World) (ao : Option Addr) (cap : Nat) (l : List Int) (cur : List Value) (hc : w1.heap[w.heap.size]? = some (.cells cur.toArray 5 (0, 0))) (hlen : cur.length = l.length) (hb : Bytes w ao l) (hbel : Below w.heap.size w w1) :
    ∃ w2, (Builtin.copy_ #[23, 23] 3 #[.slice (some ⟨w.heap.size, 0, none⟩) l.length l.length, .slice ao l.length cap]).run Try.prog w1 = .ok (goInt l.length) w2 ∧ w2.heap[w.heap.size]? = some (.cells (vals l).toArray 5 (0, 0)) ∧ Below w.heap.size w w2 := by
  by_cases h0 : l.length = 0
  · obtain rfl : l = [] := List.eq_nil_of_length_eq_zero h0
    obtain rfl : cur = [] := List.eq_nil_of_length_eq_zero hlen
    exact ⟨w1, run_copy_none w1 23 23 3 5 _ _ _ _ _ _ Try.underlying23 byte_size rfl, hc, hbel⟩
  · obtain ⟨ad, rfl, _⟩ := hb 0 (by omega)
    have hb' := bytes_belowS hb hbel
    have hlv : (vals l).length = l.length := by simp [vals]
    have hrun := run_copy_row (P := Try.prog) w1 23 23 3 5 w.heap.size 0 l.length l.length ad l.length cap cur.toArray 5 (vals l) Try.underlying23 byte_size hc (by rw [hlv]; exact (Nat.min_self _).symm) (by
      intro j v hj
      obtain ⟨hj', rfl⟩ := List.getElem?_eq_some_iff.1 hj
      rw [hlv] at hj'
      obtain ⟨ad', e, h2⟩ := hb' j hj'
      injection e with e; subst e
      rw [h2]; simp [vals, List.getElem?_eq_getElem hj']) (by simp [hlv, hlen]) (vals_one l)
    rw [hlv] at hrun
    have e : (cur.toArray.toList.take 0 ++ vals l ++ cur.toArray.toList.drop (0 + l.length)).toArray = (vals l).toArray := by simp [← hlen]
    rw [e] at hrun
    exact ⟨_, hrun, setRow_heap w1 _ _ _ 5 _ hc, below_setRow hbel (Nat.le_refl _) _⟩

set_option maxHeartbeats 1000000 in
theorem copy_any (w : World) (ao : Option Addr) (cap : Nat) (l : List Int) (hb : Bytes w ao l) (hl : l.length ≤ 1000000) :
    Calls Try.prog 34 #[.slice ao l.length cap] w fun e w' => e = .returned (.slice (some ⟨w.heap.size, 0, none⟩) l.length l.length) ∧ w'.heap[w.heap.size]? = some (.cells (vals l).toArray 5 (0, 0)) ∧ Below w.heap.size w w' := by
  obtain ⟨i0, hi0, hz0, hz1, hz2⟩ := info_parts byte_info
  have HL := Lib.hid hl
  have HB := Lib.hid hb
  clear hl hb
  generalize hm : l.length = m at *
  have HM := Lib.hid hm
  clear hm
  obtain ⟨w1, hmk, ho, hgr⟩ := run_make_full (P := Try.prog) w 0 23 5 i0 _ 1 Try.underlying23 hi0 hz0 hz1 .i64 .i64 m (by have := HL.out; rw [hz2]; omega) (by have := HL.out; simp only [maxLen]; omega) (Nat.zero_le _)
  obtain ⟨cur, hcur, hlen⟩ : ∃ cur : List Value, w1.heap[w.heap.size]? = some (.cells cur.toArray 5 (0, 0)) ∧ cur.length = m := by
    rcases ho.2 with ⟨h, _⟩ | ⟨g, cap, cur, hv, _, hg, _, _, hs, _⟩
    · cases h
    · injection hv with h1 h2 h3
      injection h1 with h1
      injection h1 with h1
      subst h1 h3
      exact ⟨cur.toList, by simpa using hg, by simpa using hs⟩
  have hbel : Below w.heap.size w w1 := (Kept.ofGrown hgr).below (Nat.le_refl _) (fun k h => by cases h)
  have HC := Lib.hid hcur
  have HG := Lib.hid hlen
  have HE := Lib.hid hbel
  clear ho hgr hcur hlen hbel hi0 hz0 hz1 hz2
  obtain ⟨w2, hcp, h2, b2⟩ := copy_run w w1 ao cap l cur HC.out (HG.out.trans HM.out.symm) HB.out HE.out
  rw [HM.out] at hcp
  have H2 := Lib.hid h2
  have B2 := Lib.hid b2
  clear h2 b2
  go_enter Try.func34, Try.ntmps34
  go_wp2_with fail
  go_ret
  exact ⟨rfl, H2.out, B2.out⟩
end Go.Proofs.Ytibbomeeoobgkaa
