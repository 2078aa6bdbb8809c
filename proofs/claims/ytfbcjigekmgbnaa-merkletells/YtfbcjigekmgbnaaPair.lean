/- Two maps in memory; the last page of one, loaded into the other. -/
import Derived.Test.YtfbcjigekmgbnaaSum8
import Derived.Test.YtfbcjigekmgbnaaCop
namespace Go.Proofs.Ytfbcjigekmgbnaa
open Go.RowKit
set_option maxRecDepth 100000

/-- all its numbers are in range; no result without a ts -/
def Good (V : Nat → Int) (S : (Nat → Int) × (Nat → Int)) : Prop :=
  (∀ i, 0 ≤ V i ∧ V i ≤ 65535) ∧ (∀ i, 0 ≤ S.1 i ∧ S.1 i ≤ 4294967295) ∧ (∀ i, 0 ≤ S.2 i ∧ S.2 i ≤ 4294967295) ∧ (∀ i, S.1 i = 0 → S.2 i = 0)
theorem good_nul : Good nul (nul, nul) := ⟨fun _ => by simp [nul], fun _ => by simp [nul], fun _ => by simp [nul], fun _ _ => rfl⟩
theorem Good.valKey {V : Nat → Int} {S : (Nat → Int) × (Nat → Int)} (h : Good V S) (k : Nat) (x : Int) (hx : 0 ≤ x ∧ x ≤ 65535) : Good (if k < 64 then upd V k x else V) S := by
  refine ⟨fun i => ?_, h.2⟩
  split
  · unfold upd
    split
    · exact hx
    · exact h.1 i
  · exact h.1 i
theorem Good.put {V : Nat → Int} {S : (Nat → Int) × (Nat → Int)} (h : Good V S) (k ts rs : Int) (ht : 0 ≤ ts ∧ ts ≤ 4294967295) (hr : 0 ≤ rs ∧ rs ≤ 4294967295) : Good V (putC S k ts rs) := by
  unfold putC
  split
  · refine ⟨h.1, fun i => ?_, fun i => ?_, fun i => ?_⟩
    · show 0 ≤ upd S.1 _ ts i ∧ upd S.1 _ ts i ≤ 4294967295
      unfold upd
      split
      · exact ht
      · exact h.2.1 i
    · show 0 ≤ upd S.2 _ _ i ∧ upd S.2 _ _ i ≤ 4294967295
      unfold upd
      split
      · split
        · decide
        · exact hr
      · exact h.2.2.1 i
    · show upd S.1 _ ts i = 0 → upd S.2 _ _ i = 0
      unfold upd
      split
      · intro e; rw [if_pos e]
      · exact h.2.2.2 i
  · exact h
/-- both maps in memory -/
def BI (w wr : World) (A B : Nat) (V : Nat → Int) (S : (Nat → Int) × (Nat → Int)) (V2 : Nat → Int) (S2 : (Nat → Int) × (Nat → Int)) : Prop :=
  Mp wr A V S.1 S.2 ∧ Mp wr B V2 S2.1 S2.2 ∧ Good V S ∧ Below w.heap.size w wr ∧ w.heap.size ≤ A ∧ w.heap.size ≤ B ∧ A ≠ B
theorem BI.drew {w wr : World} {A B : Nat} {V V2 : Nat → Int} {S S2 : (Nat → Int) × (Nat → Int)} (h : BI w wr A B V S V2 S2) : BI w wr.drew A B V S V2 S2 :=
  ⟨h.1, h.2.1, h.2.2.1, h.2.2.2.1.drew, h.2.2.2.2⟩
/-- the first map turns -/
theorem BI.one {w wr w' : World} {A B : Nat} {V V2 V' : Nat → Int} {S S2 S' : (Nat → Int) × (Nat → Int)} (h : BI w wr A B V S V2 S2) (hk : Kept (fun i => i = A) wr w') (hm : Mp w' A V' S'.1 S'.2) (hg : Good V' S') : BI w w' A B V' S' V2 S2 :=
  ⟨hm, h.2.1.kept hk (fun e => h.2.2.2.2.2.2 e.symm), hg, h.2.2.2.1.trans (hk.below h.2.2.2.1.size (fun k e => by have := h.2.2.2.2.1; omega)), h.2.2.2.2⟩
/-- the second does -/
theorem BI.two {w wr w' : World} {A B : Nat} {V V2 V' : Nat → Int} {S S2 S' : (Nat → Int) × (Nat → Int)} (h : BI w wr A B V S V2 S2) (hk : Kept (fun i => i = B) wr w') (hm : Mp w' B V' S'.1 S'.2) : BI w w' A B V S V' S' :=
  ⟨h.1.kept hk h.2.2.2.2.2.2, hm, h.2.2.1, h.2.2.2.1.trans (hk.below h.2.2.2.1.size (fun k e => by have := h.2.2.2.2.2.1; omega)), h.2.2.2.2⟩
theorem BI.kept {w wr w' : World} {A B : Nat} {V V2 : Nat → Int} {S S2 : (Nat → Int) × (Nat → Int)} (h : BI w wr A B V S V2 S2) (b : Below wr.heap.size wr w') : BI w w' A B V S V2 S2 :=
  ⟨h.1.below b h.1.lt, h.2.1.below b h.2.1.lt, h.2.2.1, h.2.2.2.1.trans (b.mono h.2.2.2.1.size), h.2.2.2.2⟩

/-- what the loaded map has when the pages from q on are loaded -/
def dn (V V2 : Nat → Int) (S S2 : (Nat → Int) × (Nat → Int)) (q : Nat) : Prop :=
  (∀ i, i < 64 → q ≤ i % 7 → V2 i = V i) ∧ (q ≤ 7 → ∀ i, i < 4 → S2.1 i = S.1 i ∧ S2.2 i = S.2 i)
theorem load_dn {w wr w' : World} {A B : Nat} {V V2 : Nat → Int} {S S2 : (Nat → Int) × (Nat → Int)} {e : Ending} {p : Nat} (h : BI w wr A B V S V2 S2) (hp : p < 7) (hu : dn V V2 S S2 (p + 1))
    (hL : Loaded wr w' e B (pageB (rdV nul (pg V p)) nul nul p) (pg V p) V2 S2.1 S2.2 (mix V2 (rdV nul (pg V p)) p 64) S2.1 S2.2) : e = .returned (.int .i64 0) ∧ ∃ V3, BI w w' A B V S V3 S2 ∧ dn V V3 S S2 p := by
  have hr := rdV_pg V (fun i _ => h.2.2.1.1 i) 64 p nul (by omega) (fun _ _ => rfl)
  have hq : pageB (rdV nul (pg V p)) nul nul p = pg V p := by
    unfold pageB
    rw [if_neg (by omega)]
    exact pg_ext _ _ p 64 p (by omega) rfl (fun i hi hm => by rw [hr i]; exact if_pos (by omega))
  obtain ⟨hk, ⟨_, rfl, hm⟩ | ⟨hn, _⟩⟩ := hL
  · refine ⟨rfl, _, h.two hk hm, fun i hi hip => ?_, fun _ => hu.2 (by omega)⟩
    unfold mix
    by_cases hm : i % 7 = p % 7
    · rw [if_pos ⟨hi, hm⟩, hr i, if_pos (by omega)]
    · rw [if_neg (by omega)]
      exact hu.1 i hi (by omega)
  · exact absurd hq hn
theorem load_dn7 {w wr w' : World} {A B : Nat} {V V2 : Nat → Int} {S S2 : (Nat → Int) × (Nat → Int)} {e : Ending} (h : BI w wr A B V S V2 S2)
    (hL : Loaded wr w' e B (pageB nul (rdC (nul, nul) (cg S.1 S.2 0)).1 (rdC (nul, nul) (cg S.1 S.2 0)).2 7) (cg S.1 S.2 0) V2 S2.1 S2.2 V2 (rdC (nul, nul) (cg S.1 S.2 0)).1 (rdC (nul, nul) (cg S.1 S.2 0)).2) :
    e = .returned (.int .i64 0) ∧ ∃ S3, BI w w' A B V S V2 S3 ∧ dn V V2 S S3 7 := by
  have g := h.2.2.1
  have hr := rdC_cg S.1 S.2 (fun i _ => g.2.1 i) (fun i _ => g.2.2.1 i) (fun i _ => g.2.2.2 i) 4 0 (nul, nul) (by omega) (fun _ _ => ⟨rfl, rfl⟩)
  have hr' : ∀ i, i < 4 → (rdC (nul, nul) (cg S.1 S.2 0)).1 i = S.1 i ∧ (rdC (nul, nul) (cg S.1 S.2 0)).2 i = S.2 i := fun i hi => by
    obtain ⟨a, b⟩ := hr i
    rw [a, b, if_pos (by omega), if_pos (by omega)]
    exact ⟨rfl, rfl⟩
  have hq : pageB nul (rdC (nul, nul) (cg S.1 S.2 0)).1 (rdC (nul, nul) (cg S.1 S.2 0)).2 7 = cg S.1 S.2 0 := by
    unfold pageB
    rw [if_pos rfl]
    exact cg_ext _ _ _ _ 4 0 (by omega) hr'
  obtain ⟨hk, ⟨_, rfl, hm⟩ | ⟨hn, _⟩⟩ := hL
  · exact ⟨rfl, _, h.two (S' := rdC (nul, nul) (cg S.1 S.2 0)) hk hm, fun i hi h => by omega, fun _ => hr'⟩
  · exact absurd hq hn
/-- the same values, the same sums -/
theorem sums_ext {V V2 : Nat → Int} {S S2 : (Nat → Int) × (Nat → Int)} (h : dn V V2 S S2 0) : sumsI V2 S2.1 S2.2 = sumsI V S.1 S.2 := by
  unfold sumsI
  refine List.map_congr_left fun p hp => ?_
  have hp := List.mem_range.1 hp
  unfold pageB
  split
  · rw [cg_ext S2.1 S2.2 S.1 S.2 4 0 (by omega) (h.2 (by omega))]
  · rw [pg_ext V2 V p 64 p (by omega) rfl (fun i hi _ => h.1 i hi (Nat.zero_le _))]
/-- three maps in memory, the third a copy of the first as it was -/
def B3 (w wr : World) (A B C : Nat) (V : Nat → Int) (S : (Nat → Int) × (Nat → Int)) (V2 : Nat → Int) (S2 : (Nat → Int) × (Nat → Int)) (V3 : Nat → Int) (S3 : (Nat → Int) × (Nat → Int)) : Prop :=
  Mp wr A V S.1 S.2 ∧ Mp wr B V2 S2.1 S2.2 ∧ Mp wr C V3 S3.1 S3.2 ∧ Below w.heap.size w wr ∧ w.heap.size ≤ A ∧ A ≠ B ∧ A ≠ C
theorem B3.kept {w wr w' : World} {A B C : Nat} {V V2 V3 : Nat → Int} {S S2 S3 : (Nat → Int) × (Nat → Int)} (h : B3 w wr A B C V S V2 S2 V3 S3) (b : Below wr.heap.size wr w') : B3 w w' A B C V S V2 S2 V3 S3 :=
  ⟨h.1.below b h.1.lt, h.2.1.below b h.2.1.lt, h.2.2.1.below b h.2.2.1.lt, h.2.2.2.1.trans (b.mono h.2.2.2.1.size), h.2.2.2.2⟩
theorem B3.one {w wr w' : World} {A B C : Nat} {V V2 V3 V' : Nat → Int} {S S2 S3 S' : (Nat → Int) × (Nat → Int)} (h : B3 w wr A B C V S V2 S2 V3 S3) (hk : Kept (fun i => i = A) wr w') (hm : Mp w' A V' S'.1 S'.2) : B3 w w' A B C V' S' V2 S2 V3 S3 :=
  ⟨hm, h.2.1.kept hk (fun e => h.2.2.2.2.2.1 e.symm), h.2.2.1.kept hk (fun e => h.2.2.2.2.2.2 e.symm), h.2.2.2.1.trans (hk.below h.2.2.2.1.size (fun k e => by have := h.2.2.2.2.1; omega)), h.2.2.2.2⟩
end Go.Proofs.Ytfbcjigekmgbnaa
