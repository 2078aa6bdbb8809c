/- Two maps in memory; the last page of one, loaded into the other. -/
import Derived.Test.YtphakceboohbhaaTake
import Derived.Test.YtphakceboohbhaaCop
namespace Go.Proofs.Ytphakceboohbhaa
open Go.RowKit
set_option maxRecDepth 100000

/-- all its numbers are in range; no result without a ts -/
def Good (V : Nat → Int) (S : (Nat → Int) × (Nat → Int)) : Prop :=
  (∀ i, 0 ≤ V i ∧ V i ≤ 65535) ∧ (∀ i, 0 ≤ S.1 i ∧ S.1 i ≤ 4294967295) ∧ (∀ i, 0 ≤ S.2 i ∧ S.2 i ≤ 4294967295) ∧ (∀ i, S.1 i = 0 → S.2 i = 0)
theorem good_nul : Good nul (nul, nul) := ⟨fun _ => by simp [nul], fun _ => by simp [nul], fun _ => by simp [nul], fun _ _ => rfl⟩
theorem Good.valKey {V : Nat → Int} {S : (Nat → Int) × (Nat → Int)} (h : Good V S) (k : Nat) (x : Int) (hx : 0 ≤ x ∧ x ≤ 65535) : Good (if k < 64 then upd V k x else V) S := by
  refine ⟨fun i => ?_, h.2⟩
  split
  · unfold upd
    split
    · exact hx
    · exact h.1 i
  · exact h.1 i
theorem Good.put {V : Nat → Int} {S : (Nat → Int) × (Nat → Int)} (h : Good V S) (k ts rs : Int) (ht : 0 ≤ ts ∧ ts ≤ 4294967295) (hr : 0 ≤ rs ∧ rs ≤ 4294967295) : Good V (putC S k ts rs) := by
  unfold putC
  split
  · refine ⟨h.1, fun i => ?_, fun i => ?_, fun i => ?_⟩
    · show 0 ≤ upd S.1 _ ts i ∧ upd S.1 _ ts i ≤ 4294967295
      unfold upd
      split
      · exact ht
      · exact h.2.1 i
    · show 0 ≤ upd S.2 _ _ i ∧ upd S.2 _ _ i ≤ 4294967295
      unfold upd
      split
      · split
        · decide
        · exact hr
      · exact h.2.2.1 i
    · show upd S.1 _ ts i = 0 → upd S.2 _ _ i = 0
      unfold upd
      split
      · intro e; rw [if_pos e]
      · exact h.2.2.2 i
  · exact h
/-- both maps in memory -/
def BI (w wr : World) (A B : Nat) (V : Nat → Int) (S : (Nat → Int) × (Nat → Int)) (V2 : Nat → Int) (S2 : (Nat → Int) × (Nat → Int)) : Prop :=
  Mp wr A V S.1 S.2 ∧ Mp wr B V2 S2.1 S2.2 ∧ Good V S ∧ Below w.heap.size w wr ∧ w.heap.size ≤ A ∧ w.heap.size ≤ B ∧ A ≠ B
theorem BI.drew {w wr : World} {A B : Nat} {V V2 : Nat → Int} {S S2 : (Nat → Int) × (Nat → Int)} (h : BI w wr A B V S V2 S2) : BI w wr.drew A B V S V2 S2 :=
  ⟨h.1, h.2.1, h.2.2.1, h.2.2.2.1.drew, h.2.2.2.2⟩
/-- the first map turns -/
theorem BI.one {w wr w' : World} {A B : Nat} {V V2 V' : Nat → Int} {S S2 S' : (Nat → Int) × (Nat → Int)} (h : BI w wr A B V S V2 S2) (hk : Kept (fun i => i = A) wr w') (hm : Mp w' A V' S'.1 S'.2) (hg : Good V' S') : BI w w' A B V' S' V2 S2 :=
  ⟨hm, h.2.1.kept hk (fun e => h.2.2.2.2.2.2 e.symm), hg, h.2.2.2.1.trans (hk.below h.2.2.2.1.size (fun k e => by have := h.2.2.2.2.1; omega)), h.2.2.2.2⟩
/-- the second does -/
theorem BI.two {w wr w' : World} {A B : Nat} {V V2 V' : Nat → Int} {S S2 S' : (Nat → Int) × (Nat → Int)} (h : BI w wr A B V S V2 S2) (hk : Kept (fun i => i = B) wr w') (hm : Mp w' B V' S'.1 S'.2) : BI w w' A B V S V' S' :=
  ⟨h.1.kept hk h.2.2.2.2.2.2, hm, h.2.2.1, h.2.2.2.1.trans (hk.below h.2.2.2.1.size (fun k e => by have := h.2.2.2.2.2.1; omega)), h.2.2.2.2⟩
theorem BI.kept {w wr w' : World} {A B : Nat} {V V2 : Nat → Int} {S S2 : (Nat → Int) × (Nat → Int)} (h : BI w wr A B V S V2 S2) (b : Below wr.heap.size wr w') : BI w w' A B V S V2 S2 :=
  ⟨h.1.below b h.1.lt, h.2.1.below b h.2.1.lt, h.2.2.1, h.2.2.2.1.trans (b.mono h.2.2.2.1.size), h.2.2.2.2⟩

/-- what the loaded map has when the pages from q on are loaded -/
def dn (V V2 : Nat → Int) (S S2 : (Nat → Int) × (Nat → Int)) (q : Nat) : Prop :=
  (∀ i, i < 64 → q ≤ i % 7 → V2 i = V i) ∧ (q ≤ 7 → ∀ i, i < 4 → S2.1 i = S.1 i ∧ S2.2 i = S.2 i)
/-- three maps in memory, the third a copy of the first as it was -/
def B3 (w wr : World) (A B C : Nat) (V : Nat → Int) (S : (Nat → Int) × (Nat → Int)) (V2 : Nat → Int) (S2 : (Nat → Int) × (Nat → Int)) (V3 : Nat → Int) (S3 : (Nat → Int) × (Nat → Int)) : Prop :=
  Mp wr A V S.1 S.2 ∧ Mp wr B V2 S2.1 S2.2 ∧ Mp wr C V3 S3.1 S3.2 ∧ Below w.heap.size w wr ∧ w.heap.size ≤ A ∧ A ≠ B ∧ A ≠ C
theorem B3.kept {w wr w' : World} {A B C : Nat} {V V2 V3 : Nat → Int} {S S2 S3 : (Nat → Int) × (Nat → Int)} (h : B3 w wr A B C V S V2 S2 V3 S3) (b : Below wr.heap.size wr w') : B3 w w' A B C V S V2 S2 V3 S3 :=
  ⟨h.1.below b h.1.lt, h.2.1.below b h.2.1.lt, h.2.2.1.below b h.2.2.1.lt, h.2.2.2.1.trans (b.mono h.2.2.2.1.size), h.2.2.2.2⟩
theorem B3.one {w wr w' : World} {A B C : Nat} {V V2 V3 V' : Nat → Int} {S S2 S3 S' : (Nat → Int) × (Nat → Int)} (h : B3 w wr A B C V S V2 S2 V3 S3) (hk : Kept (fun i => i = A) wr w') (hm : Mp w' A V' S'.1 S'.2) : B3 w w' A B C V' S' V2 S2 V3 S3 :=
  ⟨hm, h.2.1.kept hk (fun e => h.2.2.2.2.2.1 e.symm), h.2.2.1.kept hk (fun e => h.2.2.2.2.2.2 e.symm), h.2.2.2.1.trans (hk.below h.2.2.2.1.size (fun k e => by have := h.2.2.2.2.1; omega)), h.2.2.2.2⟩
end Go.Proofs.Ytphakceboohbhaa
