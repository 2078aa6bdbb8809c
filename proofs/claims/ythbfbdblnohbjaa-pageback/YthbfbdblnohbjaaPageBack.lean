/- PageBack: for every list of keys, of values and of others the law's function answers true and leaves its arguments as they were; no condition. -/
import Derived.Test.YthbfbdblnohbjaaRows
import Derived.Test.YthbfbdblnohbjaaKnown
import Derived.Test.YthbfbdblnohbjaaLst
import Derived.WalkKit
import Derived.ProofKit
import Derived.OpenShut
import Derived.ShutString
import Derived.ChangeOld
import Derived.Below
import Derived.Test.YthbfbdblnohbjaaHeld
namespace Go.Proofs.Ythbfbdblnohbjaa.pageBack
open Go.ChangeShapes Go.WideShapes Go.ChangeAt Go.RowKit
set_option maxRecDepth 100000

theorem own : ownKnob Try.prog.godebug = none := by kernel_rfl
theorem laidOut : laidOutB Try.prog = true := by kernel_rfl

/-- all its numbers are in range; no result without a ts -/
def Good (V : Nat → Int) (S : (Nat → Int) × (Nat → Int)) : Prop :=
  (∀ i, 0 ≤ V i ∧ V i ≤ 65535) ∧ (∀ i, 0 ≤ S.1 i ∧ S.1 i ≤ 4294967295) ∧ (∀ i, 0 ≤ S.2 i ∧ S.2 i ≤ 4294967295) ∧ (∀ i, S.1 i = 0 → S.2 i = 0)
theorem good_nul : Good nul (nul, nul) := ⟨fun _ => by simp [nul], fun _ => by simp [nul], fun _ => by simp [nul], fun _ _ => rfl⟩
theorem Good.val {V : Nat → Int} {S : (Nat → Int) × (Nat → Int)} (h : Good V S) (k : Nat) (x : Int) (hx : 0 ≤ x ∧ x ≤ 65535) : Good (if k < 64 then upd V k x else V) S := by
  refine ⟨fun i => ?_, h.2⟩
  split
  · unfold upd
    split
    · exact hx
    · exact h.1 i
  · exact h.1 i
theorem Good.put {V : Nat → Int} {S : (Nat → Int) × (Nat → Int)} (h : Good V S) (k ts rs : Int) (ht : 0 ≤ ts ∧ ts ≤ 4294967295) (hr : 0 ≤ rs ∧ rs ≤ 4294967295) : Good V (putC S k ts rs) := by
  unfold putC
  split
  · refine ⟨h.1, fun i => ?_, fun i => ?_, fun i => ?_⟩
    · show 0 ≤ upd S.1 _ ts i ∧ upd S.1 _ ts i ≤ 4294967295
      unfold upd
      split
      · exact ht
      · exact h.2.1 i
    · show 0 ≤ upd S.2 _ _ i ∧ upd S.2 _ _ i ≤ 4294967295
      unfold upd
      split
      · split
        · decide
        · exact hr
      · exact h.2.2.1 i
    · show upd S.1 _ ts i = 0 → upd S.2 _ _ i = 0
      unfold upd
      split
      · intro e; rw [if_pos e]
      · exact h.2.2.2 i
  · exact h
/-- both maps in memory -/
def BI (w wr : World) (A B : Nat) (V : Nat → Int) (S : (Nat → Int) × (Nat → Int)) (V2 : Nat → Int) (S2 : (Nat → Int) × (Nat → Int)) : Prop :=
  Mp wr A V S.1 S.2 ∧ Mp wr B V2 S2.1 S2.2 ∧ Good V S ∧ Below w.heap.size w wr ∧ w.heap.size ≤ A ∧ w.heap.size ≤ B ∧ A ≠ B
theorem BI.drew {w wr : World} {A B : Nat} {V V2 : Nat → Int} {S S2 : (Nat → Int) × (Nat → Int)} (h : BI w wr A B V S V2 S2) : BI w wr.drew A B V S V2 S2 :=
  ⟨h.1, h.2.1, h.2.2.1, h.2.2.2.1.drew, h.2.2.2.2⟩
/-- the first map turns -/
theorem BI.one {w wr w' : World} {A B : Nat} {V V2 V' : Nat → Int} {S S2 S' : (Nat → Int) × (Nat → Int)} (h : BI w wr A B V S V2 S2) (hk : Kept (fun i => i = A) wr w') (hm : Mp w' A V' S'.1 S'.2) (hg : Good V' S') : BI w w' A B V' S' V2 S2 :=
  ⟨hm, h.2.1.kept hk (fun e => h.2.2.2.2.2.2 e.symm), hg, h.2.2.2.1.trans (hk.below h.2.2.2.1.size (fun k e => by have := h.2.2.2.2.1; omega)), h.2.2.2.2⟩
/-- the second does -/
theorem BI.two {w wr w' : World} {A B : Nat} {V V2 V' : Nat → Int} {S S2 S' : (Nat → Int) × (Nat → Int)} (h : BI w wr A B V S V2 S2) (hk : Kept (fun i => i = B) wr w') (hm : Mp w' B V' S'.1 S'.2) : BI w w' A B V S V' S' :=
  ⟨h.1.kept hk h.2.2.2.2.2.2, hm, h.2.2.1, h.2.2.2.1.trans (hk.below h.2.2.2.1.size (fun k e => by have := h.2.2.2.2.2.1; omega)), h.2.2.2.2⟩
theorem BI.kept {w wr w' : World} {A B : Nat} {V V2 : Nat → Int} {S S2 : (Nat → Int) × (Nat → Int)} (h : BI w wr A B V S V2 S2) (b : Below wr.heap.size wr w') : BI w w' A B V S V2 S2 :=
  ⟨h.1.below b h.1.lt, h.2.1.below b h.2.1.lt, h.2.2.1, h.2.2.2.1.trans (b.mono h.2.2.2.1.size), h.2.2.2.2⟩

/-- what the loaded map has behind p pages -/
def upTo (V V2 : Nat → Int) (S S2 : (Nat → Int) × (Nat → Int)) (p : Nat) : Prop :=
  (∀ i, i < 64 → i % 7 < p → V2 i = V i) ∧ (7 < p → ∀ i, i < 4 → S2.1 i = S.1 i ∧ S2.2 i = S.2 i)
theorem load_back {w wr w' : World} {A B : Nat} {V V2 : Nat → Int} {S S2 : (Nat → Int) × (Nat → Int)} {e : Ending} {p : Nat} (h : BI w wr A B V S V2 S2) (hp : p < 7) (hu : upTo V V2 S S2 p)
    (hL : Loaded wr w' e B (pageB (rdV nul (pg V p)) nul nul p) (pg V p) V2 S2.1 S2.2 (mix V2 (rdV nul (pg V p)) p 64) S2.1 S2.2) : e = .returned (.int .i64 0) ∧ ∃ V3, BI w w' A B V S V3 S2 ∧ upTo V V3 S S2 (p + 1) := by
  have hr := rdV_pg V (fun i _ => h.2.2.1.1 i) 64 p nul (by omega) (fun _ _ => rfl)
  have hq : pageB (rdV nul (pg V p)) nul nul p = pg V p := by
    unfold pageB
    rw [if_neg (by omega)]
    exact pg_ext _ _ p 64 p (by omega) rfl (fun i hi hm => by rw [hr i]; exact if_pos (by omega))
  obtain ⟨hk, ⟨_, rfl, hm⟩ | ⟨hn, _⟩⟩ := hL
  · refine ⟨rfl, _, h.two hk hm, fun i hi hip => ?_, fun h7 => by omega⟩
    unfold mix
    by_cases hm : i % 7 = p % 7
    · rw [if_pos ⟨hi, hm⟩, hr i, if_pos (by omega)]
    · rw [if_neg (by omega)]
      exact hu.1 i hi (by omega)
  · exact absurd hq hn
theorem load_back7 {w wr w' : World} {A B : Nat} {V V2 : Nat → Int} {S S2 : (Nat → Int) × (Nat → Int)} {e : Ending} (h : BI w wr A B V S V2 S2) (hu : upTo V V2 S S2 7)
    (hL : Loaded wr w' e B (pageB nul (rdC (nul, nul) (cg S.1 S.2 0)).1 (rdC (nul, nul) (cg S.1 S.2 0)).2 7) (cg S.1 S.2 0) V2 S2.1 S2.2 V2 (rdC (nul, nul) (cg S.1 S.2 0)).1 (rdC (nul, nul) (cg S.1 S.2 0)).2) :
    e = .returned (.int .i64 0) ∧ ∃ S3, BI w w' A B V S V2 S3 ∧ upTo V V2 S S3 8 := by
  have g := h.2.2.1
  have hr := rdC_cg S.1 S.2 (fun i _ => g.2.1 i) (fun i _ => g.2.2.1 i) (fun i _ => g.2.2.2 i) 4 0 (nul, nul) (by omega) (fun _ _ => ⟨rfl, rfl⟩)
  have hr' : ∀ i, i < 4 → (rdC (nul, nul) (cg S.1 S.2 0)).1 i = S.1 i ∧ (rdC (nul, nul) (cg S.1 S.2 0)).2 i = S.2 i := fun i hi => by
    obtain ⟨a, b⟩ := hr i
    rw [a, b, if_pos (by omega), if_pos (by omega)]
    exact ⟨rfl, rfl⟩
  have hq : pageB nul (rdC (nul, nul) (cg S.1 S.2 0)).1 (rdC (nul, nul) (cg S.1 S.2 0)).2 7 = cg S.1 S.2 0 := by
    unfold pageB
    rw [if_pos rfl]
    exact cg_ext _ _ _ _ 4 0 (by omega) hr'
  obtain ⟨hk, ⟨_, rfl, hm⟩ | ⟨hn, _⟩⟩ := hL
  · exact ⟨rfl, _, h.two (S' := rdC (nul, nul) (cg S.1 S.2 0)) hk hm, fun i hi _ => hu.1 i hi (by omega), fun _ => hr'⟩
  · exact absurd hq hn
theorem same_all {V V2 : Nat → Int} {S S2 : (Nat → Int) × (Nat → Int)} (h : upTo V V2 S S2 8) : sameM V S.1 S.2 V2 S2.1 S2.2 = true := by
  unfold sameM
  rw [Bool.and_eq_true, List.all_eq_true, List.all_eq_true]
  refine ⟨fun i hi => ?_, fun i hi => ?_⟩
  · have hi := List.mem_range.1 hi
    rw [h.1 i hi (by omega)]; simp
  · have hi := List.mem_range.1 hi
    rw [(h.2 (by omega) i hi).1, (h.2 (by omega) i hi).2]; simp

set_option maxHeartbeats 16000000 in
theorem core (ak : Option Addr) (l : List Int) (ck : Nat) (av : Option Addr) (vs : List Int) (cv : Nat) (ao : Option Addr) (os : List Int) (co : Nat) (w : World) (hb : Bytes w ak l) (hby : ∀ x ∈ l, isByte x)
    (hr : RowU w 1 u16c (.slice av vs.length cv) vs) (hv : ∀ x ∈ vs, 0 ≤ x ∧ x ≤ 65535) (hb2 : Bytes w ao os) (hby2 : ∀ x ∈ os, isByte x) (h1 : l.length ≤ 80) (h2 : l.length ≤ vs.length) (h3 : os.length ≤ 80) :
    Calls Try.prog 3 #[.slice ak l.length ck, .slice av vs.length cv, .slice ao os.length co] w fun e w' => e = .returned (.bool true) ∧ Below w.heap.size w w' := by
  have KN := Lib.hid (known_any w)
  have d1 : decide (80 < (l.length : Int)) = false := by rw [decide_eq_false_iff_not]; omega
  have d3 : decide (80 < (os.length : Int)) = false := by rw [decide_eq_false_iff_not]; omega
  have HD3 := Lib.hid h3
  have HD80 := Lib.hid h1
  have HI := Lib.hid (And.intro hb (And.intro hby (And.intro hr (And.intro hv (And.intro hb2 hby2)))))
  obtain ⟨n, hn⟩ : ∃ n, n = l.length := ⟨_, rfl⟩
  obtain ⟨nv, hnv⟩ : ∃ nv, nv = vs.length := ⟨_, rfl⟩
  obtain ⟨m, hm⟩ : ∃ m, m = os.length := ⟨_, rfl⟩
  have d2 : n ≤ nv := by omega
  rw [← hn] at d1
  rw [← hm] at d3
  rw [← hn, ← hnv, ← hm]
  have HN := Lib.hid (And.intro hn (And.intro hnv (And.intro hm h2)))
  clear hb hby hr hv hb2 hby2 h1 h2 h3 hn hnv hm
  go_enter Try.func3, Try.ntmps3
  go_wp2_with fail
  refine KN.out.mono ?_
  rintro e w1 ⟨rfl, b1⟩
  have NW := Lib.hid (map_new w1)
  have b2 : Below w.heap.size w (w1.alloc (.cells (mapL nul nul nul).toArray 48)) := b1.alloc b1.size _
  have hA := mp_new w1
  have hs1 : (w1.alloc (.cells (mapL nul nul nul).toArray 48)).heap.size = w1.heap.size + 1 := by simp
  obtain ⟨w2, hw2⟩ : ∃ w2, w2 = w1.alloc (.cells (mapL nul nul nul).toArray 48) := ⟨_, rfl⟩
  rw [← hw2] at b2 hA NW hs1
  have NW2 := Lib.hid (map_new w2)
  have hB := mp_new w2
  obtain ⟨w3, hw3⟩ : ∃ w3, w3 = w2.alloc (.cells (mapL nul nul nul).toArray 48) := ⟨_, rfl⟩
  have b3 : Below w2.heap.size w2 w3 := hw3 ▸ ((Below.refl _ _).alloc (Nat.le_refl _) _)
  rw [← hw3] at NW2 hB
  have K0 : BI w w3 w1.heap.size w2.heap.size nul (nul, nul) nul (nul, nul) :=
    ⟨hA.below b3 hA.lt, hB, good_nul, b2.trans (b3.mono b2.size), b1.size, b2.size, by omega⟩
  have K0 := Lib.hid K0
  clear b1 b2 hA hw2 hw3 b3 hB hs1
  go_wp2_with fail
  refine NW.out.mono ?_
  rintro e w4 ⟨rfl, rfl⟩
  go_wp2_with fail
  refine NW2.out.mono ?_
  rintro e w4 ⟨rfl, rfl⟩
  clear NW NW2 KN
  go_wp2_with fail
  generalize w1.heap.size = A at *
  generalize w2.heap.size = B at *
  go_loopw [9] (fun v9 wr => ∃ (j : Nat) (V V2 : Nat → Int) (S S2 : (Nat → Int) × (Nat → Int)), v9 = .int .i64 j ∧ j ≤ n ∧ Hid (BI w wr A B V S V2 S2)) (fun v9 _ => n - (intOf v9).toNat)
  case atStart => exact ⟨0, _, _, _, _, rfl, by omega, K0⟩
  case round =>
    obtain ⟨j, V, V2, S, S2, rfl, hj, I⟩ := hrel
    by_cases hjn : j < n
    · have hjn' : (j : Int) < n := by omega
      have hjv' : (j : Int) < nv := by omega
      have hlt : j < l.length := by have := HN.out.1; omega
      have hlv : j < vs.length := by have := HN.out.2.1; have := HN.out.1; have := HN.out.2.2.2; omega
      obtain ⟨g, off, hao, hcell⟩ := bytes_at (bytes_below HI.out.1 I.out.2.2.2.1 (Nat.le_refl _)) (by omega)
      subst hao
      have hx := hcell j hlt
      have hx0 : isByte (l.getD j 0) := by
        rw [List.getD_eq_getElem?_getD, List.getElem?_eq_getElem hlt]
        exact HI.out.2.1 _ (List.getElem_mem hlt)
      generalize l.getD j 0 = x at hx hx0
      obtain ⟨kx, rfl⟩ : ∃ kx : Nat, x = kx := ⟨x.toNat, by unfold isByte at hx0; omega⟩
      obtain ⟨y, hy⟩ : ∃ y, vs[j]? = some y := ⟨_, List.getElem?_eq_getElem hlv⟩
      have hy0 : 0 ≤ y ∧ y ≤ 65535 := HI.out.2.2.2.1 _ (List.mem_of_getElem? hy)
      obtain ⟨g2, off2, hav, hyc⟩ := row_cell HI.out.2.2.1 (Kept.ofBelow (S := fun _ => False) I.out.2.2.2.1) hy rfl
      subst hav
      have hgA : g ≠ A := by
        intro e
        have := bytes_lt HI.out.1 (by omega)
        have := I.out.2.2.2.2.1
        simp only at *
        omega
      have hg2A : g2 ≠ A := by
        obtain ⟨_, _, e1, _, _, _, q⟩ := HI.out.2.2.1
        injection e1 with e1 _ _
        obtain ⟨b', o', e2, q2⟩ := q j y hy
        rw [← e1] at e2
        injection e2 with e2
        injection e2 with e2 _ _
        have := cell_block (q2 0 _ rfl)
        have := I.out.2.2.2.2.1
        simp only at *
        omega
      have HJ := Lib.hid (And.intro hlt (And.intro hlv (And.intro hy (And.intro hx0 (And.intro hy0 (And.intro hgA hg2A))))))
      have BD := Lib.hid (And.intro hx hyc)
      clear hlt hlv hcell hx hx0 hy hy0 hyc hgA hg2A
      have P := Lib.hid (put_any wr.drew A kx y V S.1 S.2 I.out.drew.1)
      go_wp2_with fail
      refine wp_region_held_drew (S := fun wx => wx.cell? ⟨g, off + j, none⟩ = some (.int .u8 kx) ∧ wx.cell? ⟨g2, off2 + j, none⟩ = some (.int .u16 y)) (by kernel_rfl) (BD.out) (fun hS => ?_)
      refine takeA (i := 0) (v := .pointer (some ⟨A, 0, none⟩)) ({ tmps := #[.slice (some ⟨g, off, none⟩) n ck, .slice (some ⟨g2, off2, none⟩) nv cv, .slice ao m co, undef, undef, undef, .bool false, .pointer (some ⟨A, 0, none⟩), .pointer (some ⟨B, 0, none⟩), .int .i64 ↑j, undef, undef, undef, .bool true, .bool false, .slice (some ⟨g, off, none⟩) n ck, .int .i64 ↑n, .bool false, .bool false, .slice (some ⟨g2, off2, none⟩) nv cv, .int .i64 ↑nv, .slice (some ⟨g, off, none⟩) n ck, .int .i64 ↑n, .bool false, .bool false, .bool false, .slice ao m co, .int .i64 ↑m, .bool false, .bool false, .pointer (some ⟨A, 0, none⟩), .pointer (some ⟨B, 0, none⟩), .int .i64 ↑j, .slice (some ⟨g, off, none⟩) n ck, .int .i64 ↑n, .bool true, u36, u37, .pointer (some ⟨A, 0, none⟩), u39, u40, u41, u42, u43, u44, u45, u46, u47, u48, u49, u50, u51, u52, u53, u54, u55, u56, u57, u58, u59, u60, u61, undef, undef, undef, undef, undef, undef, undef, undef, undef, undef, undef, undef, undef, undef, undef, undef, undef, undef, undef, undef, undef, undef, undef, undef, undef, undef, undef, undef, undef, undef, undef, undef, undef, undef, undef, undef, undef, undef, undef, undef, undef, undef, undef, undef, undef, undef], defers := [] }) rfl (by kernel_rfl) (by kernel_rfl) (by kernel_rfl) (fun _ _ _ h => h) (.inl ⟨rfl, fun _ _ => rfl⟩) hS rfl ?_
      refine takeA (i := 1) (v := .slice (some ⟨g, off, none⟩) n ck) ({ tmps := #[.slice (some ⟨g, off, none⟩) n ck, .slice (some ⟨g2, off2, none⟩) nv cv, .slice ao m co, undef, undef, undef, .bool false, .pointer (some ⟨A, 0, none⟩), .pointer (some ⟨B, 0, none⟩), .int .i64 ↑j, undef, undef, undef, .bool true, .bool false, .slice (some ⟨g, off, none⟩) n ck, .int .i64 ↑n, .bool false, .bool false, .slice (some ⟨g2, off2, none⟩) nv cv, .int .i64 ↑nv, .slice (some ⟨g, off, none⟩) n ck, .int .i64 ↑n, .bool false, .bool false, .bool false, .slice ao m co, .int .i64 ↑m, .bool false, .bool false, .pointer (some ⟨A, 0, none⟩), .pointer (some ⟨B, 0, none⟩), .int .i64 ↑j, .slice (some ⟨g, off, none⟩) n ck, .int .i64 ↑n, .bool true, u36, u37, .pointer (some ⟨A, 0, none⟩), .slice (some ⟨g, off, none⟩) n ck, u40, u41, u42, u43, u44, u45, u46, u47, u48, u49, u50, u51, u52, u53, u54, u55, u56, u57, u58, u59, u60, u61, undef, undef, undef, undef, undef, undef, undef, undef, undef, undef, undef, undef, undef, undef, undef, undef, undef, undef, undef, undef, undef, undef, undef, undef, undef, undef, undef, undef, undef, undef, undef, undef, undef, undef, undef, undef, undef, undef, undef, undef, undef, undef, undef, undef, undef, undef], defers := [] }) rfl (by kernel_rfl) (by kernel_rfl) (by kernel_rfl) (fun _ _ _ h => h) (.inl ⟨rfl, fun _ _ => rfl⟩) hS rfl ?_
      refine takeA (i := 2) (v := .int .i64 ↑j) ({ tmps := #[.slice (some ⟨g, off, none⟩) n ck, .slice (some ⟨g2, off2, none⟩) nv cv, .slice ao m co, undef, undef, undef, .bool false, .pointer (some ⟨A, 0, none⟩), .pointer (some ⟨B, 0, none⟩), .int .i64 ↑j, undef, undef, undef, .bool true, .bool false, .slice (some ⟨g, off, none⟩) n ck, .int .i64 ↑n, .bool false, .bool false, .slice (some ⟨g2, off2, none⟩) nv cv, .int .i64 ↑nv, .slice (some ⟨g, off, none⟩) n ck, .int .i64 ↑n, .bool false, .bool false, .bool false, .slice ao m co, .int .i64 ↑m, .bool false, .bool false, .pointer (some ⟨A, 0, none⟩), .pointer (some ⟨B, 0, none⟩), .int .i64 ↑j, .slice (some ⟨g, off, none⟩) n ck, .int .i64 ↑n, .bool true, u36, u37, .pointer (some ⟨A, 0, none⟩), .slice (some ⟨g, off, none⟩) n ck, .int .i64 ↑j, u41, u42, u43, u44, u45, u46, u47, u48, u49, u50, u51, u52, u53, u54, u55, u56, u57, u58, u59, u60, u61, undef, undef, undef, undef, undef, undef, undef, undef, undef, undef, undef, undef, undef, undef, undef, undef, undef, undef, undef, undef, undef, undef, undef, undef, undef, undef, undef, undef, undef, undef, undef, undef, undef, undef, undef, undef, undef, undef, undef, undef, undef, undef, undef, undef, undef, undef], defers := [] }) rfl (by kernel_rfl) (by kernel_rfl) (by kernel_rfl) (fun _ _ _ h => h) (.inl ⟨rfl, fun _ _ => rfl⟩) hS rfl ?_
      refine takeA (i := 3) (v := .pointer (some ⟨g, off + j, none⟩)) ({ tmps := #[.slice (some ⟨g, off, none⟩) n ck, .slice (some ⟨g2, off2, none⟩) nv cv, .slice ao m co, undef, undef, undef, .bool false, .pointer (some ⟨A, 0, none⟩), .pointer (some ⟨B, 0, none⟩), .int .i64 ↑j, undef, undef, undef, .bool true, .bool false, .slice (some ⟨g, off, none⟩) n ck, .int .i64 ↑n, .bool false, .bool false, .slice (some ⟨g2, off2, none⟩) nv cv, .int .i64 ↑nv, .slice (some ⟨g, off, none⟩) n ck, .int .i64 ↑n, .bool false, .bool false, .bool false, .slice ao m co, .int .i64 ↑m, .bool false, .bool false, .pointer (some ⟨A, 0, none⟩), .pointer (some ⟨B, 0, none⟩), .int .i64 ↑j, .slice (some ⟨g, off, none⟩) n ck, .int .i64 ↑n, .bool true, u36, u37, .pointer (some ⟨A, 0, none⟩), .slice (some ⟨g, off, none⟩) n ck, .int .i64 ↑j, .pointer (some ⟨g, off + j, none⟩), u42, u43, u44, u45, u46, u47, u48, u49, u50, u51, u52, u53, u54, u55, u56, u57, u58, u59, u60, u61, undef, undef, undef, undef, undef, undef, undef, undef, undef, undef, undef, undef, undef, undef, undef, undef, undef, undef, undef, undef, undef, undef, undef, undef, undef, undef, undef, undef, undef, undef, undef, undef, undef, undef, undef, undef, undef, undef, undef, undef, undef, undef, undef, undef, undef, undef], defers := [] }) rfl (by kernel_rfl) (by kernel_rfl) (by kernel_rfl) (fun _ _ _ h => h) (.inl ⟨rfl, fun _ _ => by go_simp⟩) hS rfl ?_
      refine takeA (i := 4) (v := .int .u8 ↑kx) ({ tmps := #[.slice (some ⟨g, off, none⟩) n ck, .slice (some ⟨g2, off2, none⟩) nv cv, .slice ao m co, undef, undef, undef, .bool false, .pointer (some ⟨A, 0, none⟩), .pointer (some ⟨B, 0, none⟩), .int .i64 ↑j, undef, undef, undef, .bool true, .bool false, .slice (some ⟨g, off, none⟩) n ck, .int .i64 ↑n, .bool false, .bool false, .slice (some ⟨g2, off2, none⟩) nv cv, .int .i64 ↑nv, .slice (some ⟨g, off, none⟩) n ck, .int .i64 ↑n, .bool false, .bool false, .bool false, .slice ao m co, .int .i64 ↑m, .bool false, .bool false, .pointer (some ⟨A, 0, none⟩), .pointer (some ⟨B, 0, none⟩), .int .i64 ↑j, .slice (some ⟨g, off, none⟩) n ck, .int .i64 ↑n, .bool true, u36, u37, .pointer (some ⟨A, 0, none⟩), .slice (some ⟨g, off, none⟩) n ck, .int .i64 ↑j, .pointer (some ⟨g, off + j, none⟩), .int .u8 ↑kx, u43, u44, u45, u46, u47, u48, u49, u50, u51, u52, u53, u54, u55, u56, u57, u58, u59, u60, u61, undef, undef, undef, undef, undef, undef, undef, undef, undef, undef, undef, undef, undef, undef, undef, undef, undef, undef, undef, undef, undef, undef, undef, undef, undef, undef, undef, undef, undef, undef, undef, undef, undef, undef, undef, undef, undef, undef, undef, undef, undef, undef, undef, undef, undef, undef], defers := [] }) rfl (by kernel_rfl) (by kernel_rfl) (by kernel_rfl) (fun _ _ _ h => h) (yi_load 5 _ (.pointer (some ⟨g, off + j, none⟩)) rfl rfl rfl (fun w hw => by have q := hw.1; go_simp)) hS rfl ?_
      refine takeA (i := 5) (v := .slice (some ⟨g2, off2, none⟩) nv cv) ({ tmps := #[.slice (some ⟨g, off, none⟩) n ck, .slice (some ⟨g2, off2, none⟩) nv cv, .slice ao m co, undef, undef, undef, .bool false, .pointer (some ⟨A, 0, none⟩), .pointer (some ⟨B, 0, none⟩), .int .i64 ↑j, undef, undef, undef, .bool true, .bool false, .slice (some ⟨g, off, none⟩) n ck, .int .i64 ↑n, .bool false, .bool false, .slice (some ⟨g2, off2, none⟩) nv cv, .int .i64 ↑nv, .slice (some ⟨g, off, none⟩) n ck, .int .i64 ↑n, .bool false, .bool false, .bool false, .slice ao m co, .int .i64 ↑m, .bool false, .bool false, .pointer (some ⟨A, 0, none⟩), .pointer (some ⟨B, 0, none⟩), .int .i64 ↑j, .slice (some ⟨g, off, none⟩) n ck, .int .i64 ↑n, .bool true, u36, u37, .pointer (some ⟨A, 0, none⟩), .slice (some ⟨g, off, none⟩) n ck, .int .i64 ↑j, .pointer (some ⟨g, off + j, none⟩), .int .u8 ↑kx, .slice (some ⟨g2, off2, none⟩) nv cv, u44, u45, u46, u47, u48, u49, u50, u51, u52, u53, u54, u55, u56, u57, u58, u59, u60, u61, undef, undef, undef, undef, undef, undef, undef, undef, undef, undef, undef, undef, undef, undef, undef, undef, undef, undef, undef, undef, undef, undef, undef, undef, undef, undef, undef, undef, undef, undef, undef, undef, undef, undef, undef, undef, undef, undef, undef, undef, undef, undef, undef, undef, undef, undef], defers := [] }) rfl (by kernel_rfl) (by kernel_rfl) (by kernel_rfl) (fun _ _ _ h => h) (.inl ⟨rfl, fun _ _ => rfl⟩) hS rfl ?_
      refine takeA (i := 6) (v := .int .i64 ↑j) ({ tmps := #[.slice (some ⟨g, off, none⟩) n ck, .slice (some ⟨g2, off2, none⟩) nv cv, .slice ao m co, undef, undef, undef, .bool false, .pointer (some ⟨A, 0, none⟩), .pointer (some ⟨B, 0, none⟩), .int .i64 ↑j, undef, undef, undef, .bool true, .bool false, .slice (some ⟨g, off, none⟩) n ck, .int .i64 ↑n, .bool false, .bool false, .slice (some ⟨g2, off2, none⟩) nv cv, .int .i64 ↑nv, .slice (some ⟨g, off, none⟩) n ck, .int .i64 ↑n, .bool false, .bool false, .bool false, .slice ao m co, .int .i64 ↑m, .bool false, .bool false, .pointer (some ⟨A, 0, none⟩), .pointer (some ⟨B, 0, none⟩), .int .i64 ↑j, .slice (some ⟨g, off, none⟩) n ck, .int .i64 ↑n, .bool true, u36, u37, .pointer (some ⟨A, 0, none⟩), .slice (some ⟨g, off, none⟩) n ck, .int .i64 ↑j, .pointer (some ⟨g, off + j, none⟩), .int .u8 ↑kx, .slice (some ⟨g2, off2, none⟩) nv cv, .int .i64 ↑j, u45, u46, u47, u48, u49, u50, u51, u52, u53, u54, u55, u56, u57, u58, u59, u60, u61, undef, undef, undef, undef, undef, undef, undef, undef, undef, undef, undef, undef, undef, undef, undef, undef, undef, undef, undef, undef, undef, undef, undef, undef, undef, undef, undef, undef, undef, undef, undef, undef, undef, undef, undef, undef, undef, undef, undef, undef, undef, undef, undef, undef, undef, undef], defers := [] }) rfl (by kernel_rfl) (by kernel_rfl) (by kernel_rfl) (fun _ _ _ h => h) (.inl ⟨rfl, fun _ _ => rfl⟩) hS rfl ?_
      refine takeA (i := 7) (v := .pointer (some ⟨g2, off2 + j, none⟩)) ({ tmps := #[.slice (some ⟨g, off, none⟩) n ck, .slice (some ⟨g2, off2, none⟩) nv cv, .slice ao m co, undef, undef, undef, .bool false, .pointer (some ⟨A, 0, none⟩), .pointer (some ⟨B, 0, none⟩), .int .i64 ↑j, undef, undef, undef, .bool true, .bool false, .slice (some ⟨g, off, none⟩) n ck, .int .i64 ↑n, .bool false, .bool false, .slice (some ⟨g2, off2, none⟩) nv cv, .int .i64 ↑nv, .slice (some ⟨g, off, none⟩) n ck, .int .i64 ↑n, .bool false, .bool false, .bool false, .slice ao m co, .int .i64 ↑m, .bool false, .bool false, .pointer (some ⟨A, 0, none⟩), .pointer (some ⟨B, 0, none⟩), .int .i64 ↑j, .slice (some ⟨g, off, none⟩) n ck, .int .i64 ↑n, .bool true, u36, u37, .pointer (some ⟨A, 0, none⟩), .slice (some ⟨g, off, none⟩) n ck, .int .i64 ↑j, .pointer (some ⟨g, off + j, none⟩), .int .u8 ↑kx, .slice (some ⟨g2, off2, none⟩) nv cv, .int .i64 ↑j, .pointer (some ⟨g2, off2 + j, none⟩), u46, u47, u48, u49, u50, u51, u52, u53, u54, u55, u56, u57, u58, u59, u60, u61, undef, undef, undef, undef, undef, undef, undef, undef, undef, undef, undef, undef, undef, undef, undef, undef, undef, undef, undef, undef, undef, undef, undef, undef, undef, undef, undef, undef, undef, undef, undef, undef, undef, undef, undef, undef, undef, undef, undef, undef, undef, undef, undef, undef, undef, undef], defers := [] }) rfl (by kernel_rfl) (by kernel_rfl) (by kernel_rfl) (fun _ _ _ h => h) (.inl ⟨rfl, fun _ _ => by go_simp⟩) hS rfl ?_
      refine takeA (i := 8) (v := .int .u16 y) ({ tmps := #[.slice (some ⟨g, off, none⟩) n ck, .slice (some ⟨g2, off2, none⟩) nv cv, .slice ao m co, undef, undef, undef, .bool false, .pointer (some ⟨A, 0, none⟩), .pointer (some ⟨B, 0, none⟩), .int .i64 ↑j, undef, undef, undef, .bool true, .bool false, .slice (some ⟨g, off, none⟩) n ck, .int .i64 ↑n, .bool false, .bool false, .slice (some ⟨g2, off2, none⟩) nv cv, .int .i64 ↑nv, .slice (some ⟨g, off, none⟩) n ck, .int .i64 ↑n, .bool false, .bool false, .bool false, .slice ao m co, .int .i64 ↑m, .bool false, .bool false, .pointer (some ⟨A, 0, none⟩), .pointer (some ⟨B, 0, none⟩), .int .i64 ↑j, .slice (some ⟨g, off, none⟩) n ck, .int .i64 ↑n, .bool true, u36, u37, .pointer (some ⟨A, 0, none⟩), .slice (some ⟨g, off, none⟩) n ck, .int .i64 ↑j, .pointer (some ⟨g, off + j, none⟩), .int .u8 ↑kx, .slice (some ⟨g2, off2, none⟩) nv cv, .int .i64 ↑j, .pointer (some ⟨g2, off2 + j, none⟩), .int .u16 y, u47, u48, u49, u50, u51, u52, u53, u54, u55, u56, u57, u58, u59, u60, u61, undef, undef, undef, undef, undef, undef, undef, undef, undef, undef, undef, undef, undef, undef, undef, undef, undef, undef, undef, undef, undef, undef, undef, undef, undef, undef, undef, undef, undef, undef, undef, undef, undef, undef, undef, undef, undef, undef, undef, undef, undef, undef, undef, undef, undef, undef], defers := [] }) rfl (by kernel_rfl) (by kernel_rfl) (by kernel_rfl) (fun _ _ _ h => h) (yi_load 28 _ (.pointer (some ⟨g2, off2 + j, none⟩)) rfl rfl rfl (fun w hw => by have q := hw.2; go_simp)) hS rfl ?_
      refine wpAnyH_ready (rs := [9]) (by kernel_rfl) (by simp) ?_
      refine AllReadyH.cons rfl (fun K hK => ?_) AllReadyH.nil
      rw [if_pos (by rfl)]
      go_simp
      refine Calls.mono (P.out) ?_
      rintro e w4 ⟨rfl, k4, m4⟩
      have q1 := BD.out.1
      have q2 := BD.out.2
      have hS4 : w4.cell? ⟨g, off + j, none⟩ = some (.int .u8 kx) ∧ w4.cell? ⟨g2, off2 + j, none⟩ = some (.int .u16 y) := ⟨by rw [World.cell?_of_block (k4.block _ (cell_block q1) HJ.out.2.2.2.2.2.1)]; exact q1, by rw [World.cell?_of_block (k4.block _ (cell_block q2) HJ.out.2.2.2.2.2.2)]; exact q2⟩
      have H4 := Lib.hid (And.intro hS4 (I.out.drew.one (S' := S) k4 m4 (I.out.2.2.1.val kx y HJ.out.2.2.2.2.1)))
      clear k4 m4 q1 q2 hS4
      refine hK.out ({ tmps := #[.slice (some ⟨g, off, none⟩) n ck, .slice (some ⟨g2, off2, none⟩) nv cv, .slice ao m co, undef, undef, undef, .bool false, .pointer (some ⟨A, 0, none⟩), .pointer (some ⟨B, 0, none⟩), .int .i64 ↑j, undef, undef, undef, .bool true, .bool false, .slice (some ⟨g, off, none⟩) n ck, .int .i64 ↑n, .bool false, .bool false, .slice (some ⟨g2, off2, none⟩) nv cv, .int .i64 ↑nv, .slice (some ⟨g, off, none⟩) n ck, .int .i64 ↑n, .bool false, .bool false, .bool false, .slice ao m co, .int .i64 ↑m, .bool false, .bool false, .pointer (some ⟨A, 0, none⟩), .pointer (some ⟨B, 0, none⟩), .int .i64 ↑j, .slice (some ⟨g, off, none⟩) n ck, .int .i64 ↑n, .bool true, u36, u37, .pointer (some ⟨A, 0, none⟩), .slice (some ⟨g, off, none⟩) n ck, .int .i64 ↑j, .pointer (some ⟨g, off + j, none⟩), .int .u8 ↑kx, .slice (some ⟨g2, off2, none⟩) nv cv, .int .i64 ↑j, .pointer (some ⟨g2, off2 + j, none⟩), .int .u16 y, .tuple #[], u48, u49, u50, u51, u52, u53, u54, u55, u56, u57, u58, u59, u60, u61, undef, undef, undef, undef, undef, undef, undef, undef, undef, undef, undef, undef, undef, undef, undef, undef, undef, undef, undef, undef, undef, undef, undef, undef, undef, undef, undef, undef, undef, undef, undef, undef, undef, undef, undef, undef, undef, undef, undef, undef, undef, undef, undef, undef, undef, undef], defers := [] }) _ (H4.out.1) (fun hS => ?_)
      clear hK K
      refine wpAnyH_done (by kernel_rfl) ?_ _
      clear hS P
      go_wp2_with fail
      have hwy : IntKind.u32.wrap y = y := by
        have : IntKind.u32.wrap y = y % 4294967296 := rfl
        have := HJ.out.2.2.2.2.1
        omega
      have hj80 : (j : Int) < 80 := by have := HD80.out; have := HJ.out.1; omega
      have hwj : IntKind.u32.wrap (j : Int) = j := by
        have : IntKind.u32.wrap (j : Int) = (j : Int) % 4294967296 := rfl
        omega
      obtain ⟨k6, hm6⟩ : ∃ k6 : Nat, (kx : Int) % 6 = k6 := ⟨kx % 6, by omega⟩
      have ht6 : (kx : Int).tmod 6 = k6 := by rw [Int.tmod_eq_emod_of_nonneg (by omega)]; exact hm6
      clear hm6
      have P := Lib.hid (setClient_any w4.drew A k6 y j _ S H4.out.2.drew.1)
      have hy0 := HJ.out.2.2.2.2.1.1
      have hy1 := HJ.out.2.2.2.2.1.2
      refine wp_region_held_drew (S := fun wx => wx.cell? ⟨g, off + j, none⟩ = some (.int .u8 kx) ∧ wx.cell? ⟨g2, off2 + j, none⟩ = some (.int .u16 y)) (by kernel_rfl) (H4.out.1) (fun hS => ?_)
      refine takeA (i := 0) (v := .pointer (some ⟨A, 0, none⟩)) ({ tmps := #[.slice (some ⟨g, off, none⟩) n ck, .slice (some ⟨g2, off2, none⟩) nv cv, .slice ao m co, undef, undef, undef, .bool false, .pointer (some ⟨A, 0, none⟩), .pointer (some ⟨B, 0, none⟩), .int .i64 ↑j, undef, undef, undef, .bool true, .bool false, .slice (some ⟨g, off, none⟩) n ck, .int .i64 ↑n, .bool false, .bool false, .slice (some ⟨g2, off2, none⟩) nv cv, .int .i64 ↑nv, .slice (some ⟨g, off, none⟩) n ck, .int .i64 ↑n, .bool false, .bool false, .bool false, .slice ao m co, .int .i64 ↑m, .bool false, .bool false, .pointer (some ⟨A, 0, none⟩), .pointer (some ⟨B, 0, none⟩), .int .i64 ↑j, .slice (some ⟨g, off, none⟩) n ck, .int .i64 ↑n, .bool true, u36, u37, .pointer (some ⟨A, 0, none⟩), .slice (some ⟨g, off, none⟩) n ck, .int .i64 ↑j, .pointer (some ⟨g, off + j, none⟩), .int .u8 ↑kx, .slice (some ⟨g2, off2, none⟩) nv cv, .int .i64 ↑j, .pointer (some ⟨g2, off2 + j, none⟩), .int .u16 y, .tuple #[], .pointer (some ⟨A, 0, none⟩), u49, u50, u51, u52, u53, u54, u55, u56, u57, u58, u59, u60, u61, undef, undef, undef, undef, undef, undef, undef, undef, undef, undef, undef, undef, undef, undef, undef, undef, undef, undef, undef, undef, undef, undef, undef, undef, undef, undef, undef, undef, undef, undef, undef, undef, undef, undef, undef, undef, undef, undef, undef, undef, undef, undef, undef, undef, undef, undef], defers := [] }) rfl (by kernel_rfl) (by kernel_rfl) (by kernel_rfl) (fun _ _ _ h => h) (.inl ⟨rfl, fun _ _ => rfl⟩) hS rfl ?_
      refine takeA (i := 1) (v := .slice (some ⟨g, off, none⟩) n ck) ({ tmps := #[.slice (some ⟨g, off, none⟩) n ck, .slice (some ⟨g2, off2, none⟩) nv cv, .slice ao m co, undef, undef, undef, .bool false, .pointer (some ⟨A, 0, none⟩), .pointer (some ⟨B, 0, none⟩), .int .i64 ↑j, undef, undef, undef, .bool true, .bool false, .slice (some ⟨g, off, none⟩) n ck, .int .i64 ↑n, .bool false, .bool false, .slice (some ⟨g2, off2, none⟩) nv cv, .int .i64 ↑nv, .slice (some ⟨g, off, none⟩) n ck, .int .i64 ↑n, .bool false, .bool false, .bool false, .slice ao m co, .int .i64 ↑m, .bool false, .bool false, .pointer (some ⟨A, 0, none⟩), .pointer (some ⟨B, 0, none⟩), .int .i64 ↑j, .slice (some ⟨g, off, none⟩) n ck, .int .i64 ↑n, .bool true, u36, u37, .pointer (some ⟨A, 0, none⟩), .slice (some ⟨g, off, none⟩) n ck, .int .i64 ↑j, .pointer (some ⟨g, off + j, none⟩), .int .u8 ↑kx, .slice (some ⟨g2, off2, none⟩) nv cv, .int .i64 ↑j, .pointer (some ⟨g2, off2 + j, none⟩), .int .u16 y, .tuple #[], .pointer (some ⟨A, 0, none⟩), .slice (some ⟨g, off, none⟩) n ck, u50, u51, u52, u53, u54, u55, u56, u57, u58, u59, u60, u61, undef, undef, undef, undef, undef, undef, undef, undef, undef, undef, undef, undef, undef, undef, undef, undef, undef, undef, undef, undef, undef, undef, undef, undef, undef, undef, undef, undef, undef, undef, undef, undef, undef, undef, undef, undef, undef, undef, undef, undef, undef, undef, undef, undef, undef, undef], defers := [] }) rfl (by kernel_rfl) (by kernel_rfl) (by kernel_rfl) (fun _ _ _ h => h) (.inl ⟨rfl, fun _ _ => rfl⟩) hS rfl ?_
      refine takeA (i := 2) (v := .int .i64 ↑j) ({ tmps := #[.slice (some ⟨g, off, none⟩) n ck, .slice (some ⟨g2, off2, none⟩) nv cv, .slice ao m co, undef, undef, undef, .bool false, .pointer (some ⟨A, 0, none⟩), .pointer (some ⟨B, 0, none⟩), .int .i64 ↑j, undef, undef, undef, .bool true, .bool false, .slice (some ⟨g, off, none⟩) n ck, .int .i64 ↑n, .bool false, .bool false, .slice (some ⟨g2, off2, none⟩) nv cv, .int .i64 ↑nv, .slice (some ⟨g, off, none⟩) n ck, .int .i64 ↑n, .bool false, .bool false, .bool false, .slice ao m co, .int .i64 ↑m, .bool false, .bool false, .pointer (some ⟨A, 0, none⟩), .pointer (some ⟨B, 0, none⟩), .int .i64 ↑j, .slice (some ⟨g, off, none⟩) n ck, .int .i64 ↑n, .bool true, u36, u37, .pointer (some ⟨A, 0, none⟩), .slice (some ⟨g, off, none⟩) n ck, .int .i64 ↑j, .pointer (some ⟨g, off + j, none⟩), .int .u8 ↑kx, .slice (some ⟨g2, off2, none⟩) nv cv, .int .i64 ↑j, .pointer (some ⟨g2, off2 + j, none⟩), .int .u16 y, .tuple #[], .pointer (some ⟨A, 0, none⟩), .slice (some ⟨g, off, none⟩) n ck, .int .i64 ↑j, u51, u52, u53, u54, u55, u56, u57, u58, u59, u60, u61, undef, undef, undef, undef, undef, undef, undef, undef, undef, undef, undef, undef, undef, undef, undef, undef, undef, undef, undef, undef, undef, undef, undef, undef, undef, undef, undef, undef, undef, undef, undef, undef, undef, undef, undef, undef, undef, undef, undef, undef, undef, undef, undef, undef, undef, undef], defers := [] }) rfl (by kernel_rfl) (by kernel_rfl) (by kernel_rfl) (fun _ _ _ h => h) (.inl ⟨rfl, fun _ _ => rfl⟩) hS rfl ?_
      refine takeA (i := 3) (v := .pointer (some ⟨g, off + j, none⟩)) ({ tmps := #[.slice (some ⟨g, off, none⟩) n ck, .slice (some ⟨g2, off2, none⟩) nv cv, .slice ao m co, undef, undef, undef, .bool false, .pointer (some ⟨A, 0, none⟩), .pointer (some ⟨B, 0, none⟩), .int .i64 ↑j, undef, undef, undef, .bool true, .bool false, .slice (some ⟨g, off, none⟩) n ck, .int .i64 ↑n, .bool false, .bool false, .slice (some ⟨g2, off2, none⟩) nv cv, .int .i64 ↑nv, .slice (some ⟨g, off, none⟩) n ck, .int .i64 ↑n, .bool false, .bool false, .bool false, .slice ao m co, .int .i64 ↑m, .bool false, .bool false, .pointer (some ⟨A, 0, none⟩), .pointer (some ⟨B, 0, none⟩), .int .i64 ↑j, .slice (some ⟨g, off, none⟩) n ck, .int .i64 ↑n, .bool true, u36, u37, .pointer (some ⟨A, 0, none⟩), .slice (some ⟨g, off, none⟩) n ck, .int .i64 ↑j, .pointer (some ⟨g, off + j, none⟩), .int .u8 ↑kx, .slice (some ⟨g2, off2, none⟩) nv cv, .int .i64 ↑j, .pointer (some ⟨g2, off2 + j, none⟩), .int .u16 y, .tuple #[], .pointer (some ⟨A, 0, none⟩), .slice (some ⟨g, off, none⟩) n ck, .int .i64 ↑j, .pointer (some ⟨g, off + j, none⟩), u52, u53, u54, u55, u56, u57, u58, u59, u60, u61, undef, undef, undef, undef, undef, undef, undef, undef, undef, undef, undef, undef, undef, undef, undef, undef, undef, undef, undef, undef, undef, undef, undef, undef, undef, undef, undef, undef, undef, undef, undef, undef, undef, undef, undef, undef, undef, undef, undef, undef, undef, undef, undef, undef, undef, undef], defers := [] }) rfl (by kernel_rfl) (by kernel_rfl) (by kernel_rfl) (fun _ _ _ h => h) (.inl ⟨rfl, fun _ _ => by go_simp⟩) hS rfl ?_
      refine takeA (i := 4) (v := .int .u8 ↑kx) ({ tmps := #[.slice (some ⟨g, off, none⟩) n ck, .slice (some ⟨g2, off2, none⟩) nv cv, .slice ao m co, undef, undef, undef, .bool false, .pointer (some ⟨A, 0, none⟩), .pointer (some ⟨B, 0, none⟩), .int .i64 ↑j, undef, undef, undef, .bool true, .bool false, .slice (some ⟨g, off, none⟩) n ck, .int .i64 ↑n, .bool false, .bool false, .slice (some ⟨g2, off2, none⟩) nv cv, .int .i64 ↑nv, .slice (some ⟨g, off, none⟩) n ck, .int .i64 ↑n, .bool false, .bool false, .bool false, .slice ao m co, .int .i64 ↑m, .bool false, .bool false, .pointer (some ⟨A, 0, none⟩), .pointer (some ⟨B, 0, none⟩), .int .i64 ↑j, .slice (some ⟨g, off, none⟩) n ck, .int .i64 ↑n, .bool true, u36, u37, .pointer (some ⟨A, 0, none⟩), .slice (some ⟨g, off, none⟩) n ck, .int .i64 ↑j, .pointer (some ⟨g, off + j, none⟩), .int .u8 ↑kx, .slice (some ⟨g2, off2, none⟩) nv cv, .int .i64 ↑j, .pointer (some ⟨g2, off2 + j, none⟩), .int .u16 y, .tuple #[], .pointer (some ⟨A, 0, none⟩), .slice (some ⟨g, off, none⟩) n ck, .int .i64 ↑j, .pointer (some ⟨g, off + j, none⟩), .int .u8 ↑kx, u53, u54, u55, u56, u57, u58, u59, u60, u61, undef, undef, undef, undef, undef, undef, undef, undef, undef, undef, undef, undef, undef, undef, undef, undef, undef, undef, undef, undef, undef, undef, undef, undef, undef, undef, undef, undef, undef, undef, undef, undef, undef, undef, undef, undef, undef, undef, undef, undef, undef, undef, undef, undef, undef, undef], defers := [] }) rfl (by kernel_rfl) (by kernel_rfl) (by kernel_rfl) (fun _ _ _ h => h) (yi_load 5 _ (.pointer (some ⟨g, off + j, none⟩)) rfl rfl rfl (fun w hw => by have q := hw.1; go_simp)) hS rfl ?_
      refine takeA (i := 5) (v := .int .u8 ↑k6) ({ tmps := #[.slice (some ⟨g, off, none⟩) n ck, .slice (some ⟨g2, off2, none⟩) nv cv, .slice ao m co, undef, undef, undef, .bool false, .pointer (some ⟨A, 0, none⟩), .pointer (some ⟨B, 0, none⟩), .int .i64 ↑j, undef, undef, undef, .bool true, .bool false, .slice (some ⟨g, off, none⟩) n ck, .int .i64 ↑n, .bool false, .bool false, .slice (some ⟨g2, off2, none⟩) nv cv, .int .i64 ↑nv, .slice (some ⟨g, off, none⟩) n ck, .int .i64 ↑n, .bool false, .bool false, .bool false, .slice ao m co, .int .i64 ↑m, .bool false, .bool false, .pointer (some ⟨A, 0, none⟩), .pointer (some ⟨B, 0, none⟩), .int .i64 ↑j, .slice (some ⟨g, off, none⟩) n ck, .int .i64 ↑n, .bool true, u36, u37, .pointer (some ⟨A, 0, none⟩), .slice (some ⟨g, off, none⟩) n ck, .int .i64 ↑j, .pointer (some ⟨g, off + j, none⟩), .int .u8 ↑kx, .slice (some ⟨g2, off2, none⟩) nv cv, .int .i64 ↑j, .pointer (some ⟨g2, off2 + j, none⟩), .int .u16 y, .tuple #[], .pointer (some ⟨A, 0, none⟩), .slice (some ⟨g, off, none⟩) n ck, .int .i64 ↑j, .pointer (some ⟨g, off + j, none⟩), .int .u8 ↑kx, .int .u8 ↑k6, u54, u55, u56, u57, u58, u59, u60, u61, undef, undef, undef, undef, undef, undef, undef, undef, undef, undef, undef, undef, undef, undef, undef, undef, undef, undef, undef, undef, undef, undef, undef, undef, undef, undef, undef, undef, undef, undef, undef, undef, undef, undef, undef, undef, undef, undef, undef, undef, undef, undef, undef, undef, undef, undef], defers := [] }) rfl (by kernel_rfl) (by kernel_rfl) (by kernel_rfl) (fun _ _ _ h => h) (.inl ⟨rfl, fun _ _ => by go_simp⟩) hS rfl ?_
      refine takeA (i := 6) (v := .slice (some ⟨g2, off2, none⟩) nv cv) ({ tmps := #[.slice (some ⟨g, off, none⟩) n ck, .slice (some ⟨g2, off2, none⟩) nv cv, .slice ao m co, undef, undef, undef, .bool false, .pointer (some ⟨A, 0, none⟩), .pointer (some ⟨B, 0, none⟩), .int .i64 ↑j, undef, undef, undef, .bool true, .bool false, .slice (some ⟨g, off, none⟩) n ck, .int .i64 ↑n, .bool false, .bool false, .slice (some ⟨g2, off2, none⟩) nv cv, .int .i64 ↑nv, .slice (some ⟨g, off, none⟩) n ck, .int .i64 ↑n, .bool false, .bool false, .bool false, .slice ao m co, .int .i64 ↑m, .bool false, .bool false, .pointer (some ⟨A, 0, none⟩), .pointer (some ⟨B, 0, none⟩), .int .i64 ↑j, .slice (some ⟨g, off, none⟩) n ck, .int .i64 ↑n, .bool true, u36, u37, .pointer (some ⟨A, 0, none⟩), .slice (some ⟨g, off, none⟩) n ck, .int .i64 ↑j, .pointer (some ⟨g, off + j, none⟩), .int .u8 ↑kx, .slice (some ⟨g2, off2, none⟩) nv cv, .int .i64 ↑j, .pointer (some ⟨g2, off2 + j, none⟩), .int .u16 y, .tuple #[], .pointer (some ⟨A, 0, none⟩), .slice (some ⟨g, off, none⟩) n ck, .int .i64 ↑j, .pointer (some ⟨g, off + j, none⟩), .int .u8 ↑kx, .int .u8 ↑k6, .slice (some ⟨g2, off2, none⟩) nv cv, u55, u56, u57, u58, u59, u60, u61, undef, undef, undef, undef, undef, undef, undef, undef, undef, undef, undef, undef, undef, undef, undef, undef, undef, undef, undef, undef, undef, undef, undef, undef, undef, undef, undef, undef, undef, undef, undef, undef, undef, undef, undef, undef, undef, undef, undef, undef, undef, undef, undef, undef, undef, undef], defers := [] }) rfl (by kernel_rfl) (by kernel_rfl) (by kernel_rfl) (fun _ _ _ h => h) (.inl ⟨rfl, fun _ _ => rfl⟩) hS rfl ?_
      refine takeA (i := 7) (v := .int .i64 ↑j) ({ tmps := #[.slice (some ⟨g, off, none⟩) n ck, .slice (some ⟨g2, off2, none⟩) nv cv, .slice ao m co, undef, undef, undef, .bool false, .pointer (some ⟨A, 0, none⟩), .pointer (some ⟨B, 0, none⟩), .int .i64 ↑j, undef, undef, undef, .bool true, .bool false, .slice (some ⟨g, off, none⟩) n ck, .int .i64 ↑n, .bool false, .bool false, .slice (some ⟨g2, off2, none⟩) nv cv, .int .i64 ↑nv, .slice (some ⟨g, off, none⟩) n ck, .int .i64 ↑n, .bool false, .bool false, .bool false, .slice ao m co, .int .i64 ↑m, .bool false, .bool false, .pointer (some ⟨A, 0, none⟩), .pointer (some ⟨B, 0, none⟩), .int .i64 ↑j, .slice (some ⟨g, off, none⟩) n ck, .int .i64 ↑n, .bool true, u36, u37, .pointer (some ⟨A, 0, none⟩), .slice (some ⟨g, off, none⟩) n ck, .int .i64 ↑j, .pointer (some ⟨g, off + j, none⟩), .int .u8 ↑kx, .slice (some ⟨g2, off2, none⟩) nv cv, .int .i64 ↑j, .pointer (some ⟨g2, off2 + j, none⟩), .int .u16 y, .tuple #[], .pointer (some ⟨A, 0, none⟩), .slice (some ⟨g, off, none⟩) n ck, .int .i64 ↑j, .pointer (some ⟨g, off + j, none⟩), .int .u8 ↑kx, .int .u8 ↑k6, .slice (some ⟨g2, off2, none⟩) nv cv, .int .i64 ↑j, u56, u57, u58, u59, u60, u61, undef, undef, undef, undef, undef, undef, undef, undef, undef, undef, undef, undef, undef, undef, undef, undef, undef, undef, undef, undef, undef, undef, undef, undef, undef, undef, undef, undef, undef, undef, undef, undef, undef, undef, undef, undef, undef, undef, undef, undef, undef, undef, undef, undef, undef, undef], defers := [] }) rfl (by kernel_rfl) (by kernel_rfl) (by kernel_rfl) (fun _ _ _ h => h) (.inl ⟨rfl, fun _ _ => rfl⟩) hS rfl ?_
      refine takeA (i := 8) (v := .pointer (some ⟨g2, off2 + j, none⟩)) ({ tmps := #[.slice (some ⟨g, off, none⟩) n ck, .slice (some ⟨g2, off2, none⟩) nv cv, .slice ao m co, undef, undef, undef, .bool false, .pointer (some ⟨A, 0, none⟩), .pointer (some ⟨B, 0, none⟩), .int .i64 ↑j, undef, undef, undef, .bool true, .bool false, .slice (some ⟨g, off, none⟩) n ck, .int .i64 ↑n, .bool false, .bool false, .slice (some ⟨g2, off2, none⟩) nv cv, .int .i64 ↑nv, .slice (some ⟨g, off, none⟩) n ck, .int .i64 ↑n, .bool false, .bool false, .bool false, .slice ao m co, .int .i64 ↑m, .bool false, .bool false, .pointer (some ⟨A, 0, none⟩), .pointer (some ⟨B, 0, none⟩), .int .i64 ↑j, .slice (some ⟨g, off, none⟩) n ck, .int .i64 ↑n, .bool true, u36, u37, .pointer (some ⟨A, 0, none⟩), .slice (some ⟨g, off, none⟩) n ck, .int .i64 ↑j, .pointer (some ⟨g, off + j, none⟩), .int .u8 ↑kx, .slice (some ⟨g2, off2, none⟩) nv cv, .int .i64 ↑j, .pointer (some ⟨g2, off2 + j, none⟩), .int .u16 y, .tuple #[], .pointer (some ⟨A, 0, none⟩), .slice (some ⟨g, off, none⟩) n ck, .int .i64 ↑j, .pointer (some ⟨g, off + j, none⟩), .int .u8 ↑kx, .int .u8 ↑k6, .slice (some ⟨g2, off2, none⟩) nv cv, .int .i64 ↑j, .pointer (some ⟨g2, off2 + j, none⟩), u57, u58, u59, u60, u61, undef, undef, undef, undef, undef, undef, undef, undef, undef, undef, undef, undef, undef, undef, undef, undef, undef, undef, undef, undef, undef, undef, undef, undef, undef, undef, undef, undef, undef, undef, undef, undef, undef, undef, undef, undef, undef, undef, undef, undef, undef, undef, undef, undef, undef, undef], defers := [] }) rfl (by kernel_rfl) (by kernel_rfl) (by kernel_rfl) (fun _ _ _ h => h) (.inl ⟨rfl, fun _ _ => by go_simp⟩) hS rfl ?_
      refine takeA (i := 9) (v := .int .u16 y) ({ tmps := #[.slice (some ⟨g, off, none⟩) n ck, .slice (some ⟨g2, off2, none⟩) nv cv, .slice ao m co, undef, undef, undef, .bool false, .pointer (some ⟨A, 0, none⟩), .pointer (some ⟨B, 0, none⟩), .int .i64 ↑j, undef, undef, undef, .bool true, .bool false, .slice (some ⟨g, off, none⟩) n ck, .int .i64 ↑n, .bool false, .bool false, .slice (some ⟨g2, off2, none⟩) nv cv, .int .i64 ↑nv, .slice (some ⟨g, off, none⟩) n ck, .int .i64 ↑n, .bool false, .bool false, .bool false, .slice ao m co, .int .i64 ↑m, .bool false, .bool false, .pointer (some ⟨A, 0, none⟩), .pointer (some ⟨B, 0, none⟩), .int .i64 ↑j, .slice (some ⟨g, off, none⟩) n ck, .int .i64 ↑n, .bool true, u36, u37, .pointer (some ⟨A, 0, none⟩), .slice (some ⟨g, off, none⟩) n ck, .int .i64 ↑j, .pointer (some ⟨g, off + j, none⟩), .int .u8 ↑kx, .slice (some ⟨g2, off2, none⟩) nv cv, .int .i64 ↑j, .pointer (some ⟨g2, off2 + j, none⟩), .int .u16 y, .tuple #[], .pointer (some ⟨A, 0, none⟩), .slice (some ⟨g, off, none⟩) n ck, .int .i64 ↑j, .pointer (some ⟨g, off + j, none⟩), .int .u8 ↑kx, .int .u8 ↑k6, .slice (some ⟨g2, off2, none⟩) nv cv, .int .i64 ↑j, .pointer (some ⟨g2, off2 + j, none⟩), .int .u16 y, u58, u59, u60, u61, undef, undef, undef, undef, undef, undef, undef, undef, undef, undef, undef, undef, undef, undef, undef, undef, undef, undef, undef, undef, undef, undef, undef, undef, undef, undef, undef, undef, undef, undef, undef, undef, undef, undef, undef, undef, undef, undef, undef, undef, undef, undef, undef, undef, undef, undef], defers := [] }) rfl (by kernel_rfl) (by kernel_rfl) (by kernel_rfl) (fun _ _ _ h => h) (yi_load 28 _ (.pointer (some ⟨g2, off2 + j, none⟩)) rfl rfl rfl (fun w hw => by have q := hw.2; go_simp)) hS rfl ?_
      refine takeA (i := 10) (v := .int .u32 y) ({ tmps := #[.slice (some ⟨g, off, none⟩) n ck, .slice (some ⟨g2, off2, none⟩) nv cv, .slice ao m co, undef, undef, undef, .bool false, .pointer (some ⟨A, 0, none⟩), .pointer (some ⟨B, 0, none⟩), .int .i64 ↑j, undef, undef, undef, .bool true, .bool false, .slice (some ⟨g, off, none⟩) n ck, .int .i64 ↑n, .bool false, .bool false, .slice (some ⟨g2, off2, none⟩) nv cv, .int .i64 ↑nv, .slice (some ⟨g, off, none⟩) n ck, .int .i64 ↑n, .bool false, .bool false, .bool false, .slice ao m co, .int .i64 ↑m, .bool false, .bool false, .pointer (some ⟨A, 0, none⟩), .pointer (some ⟨B, 0, none⟩), .int .i64 ↑j, .slice (some ⟨g, off, none⟩) n ck, .int .i64 ↑n, .bool true, u36, u37, .pointer (some ⟨A, 0, none⟩), .slice (some ⟨g, off, none⟩) n ck, .int .i64 ↑j, .pointer (some ⟨g, off + j, none⟩), .int .u8 ↑kx, .slice (some ⟨g2, off2, none⟩) nv cv, .int .i64 ↑j, .pointer (some ⟨g2, off2 + j, none⟩), .int .u16 y, .tuple #[], .pointer (some ⟨A, 0, none⟩), .slice (some ⟨g, off, none⟩) n ck, .int .i64 ↑j, .pointer (some ⟨g, off + j, none⟩), .int .u8 ↑kx, .int .u8 ↑k6, .slice (some ⟨g2, off2, none⟩) nv cv, .int .i64 ↑j, .pointer (some ⟨g2, off2 + j, none⟩), .int .u16 y, .int .u32 y, u59, u60, u61, undef, undef, undef, undef, undef, undef, undef, undef, undef, undef, undef, undef, undef, undef, undef, undef, undef, undef, undef, undef, undef, undef, undef, undef, undef, undef, undef, undef, undef, undef, undef, undef, undef, undef, undef, undef, undef, undef, undef, undef, undef, undef, undef, undef, undef, undef], defers := [] }) rfl (by kernel_rfl) (by kernel_rfl) (by kernel_rfl) (fun _ _ _ h => h) (.inl ⟨rfl, fun _ _ => by go_simp <;> first | exact hwy | exact hwj⟩) hS rfl ?_
      refine takeA (i := 11) (v := .int .i64 ↑j) ({ tmps := #[.slice (some ⟨g, off, none⟩) n ck, .slice (some ⟨g2, off2, none⟩) nv cv, .slice ao m co, undef, undef, undef, .bool false, .pointer (some ⟨A, 0, none⟩), .pointer (some ⟨B, 0, none⟩), .int .i64 ↑j, undef, undef, undef, .bool true, .bool false, .slice (some ⟨g, off, none⟩) n ck, .int .i64 ↑n, .bool false, .bool false, .slice (some ⟨g2, off2, none⟩) nv cv, .int .i64 ↑nv, .slice (some ⟨g, off, none⟩) n ck, .int .i64 ↑n, .bool false, .bool false, .bool false, .slice ao m co, .int .i64 ↑m, .bool false, .bool false, .pointer (some ⟨A, 0, none⟩), .pointer (some ⟨B, 0, none⟩), .int .i64 ↑j, .slice (some ⟨g, off, none⟩) n ck, .int .i64 ↑n, .bool true, u36, u37, .pointer (some ⟨A, 0, none⟩), .slice (some ⟨g, off, none⟩) n ck, .int .i64 ↑j, .pointer (some ⟨g, off + j, none⟩), .int .u8 ↑kx, .slice (some ⟨g2, off2, none⟩) nv cv, .int .i64 ↑j, .pointer (some ⟨g2, off2 + j, none⟩), .int .u16 y, .tuple #[], .pointer (some ⟨A, 0, none⟩), .slice (some ⟨g, off, none⟩) n ck, .int .i64 ↑j, .pointer (some ⟨g, off + j, none⟩), .int .u8 ↑kx, .int .u8 ↑k6, .slice (some ⟨g2, off2, none⟩) nv cv, .int .i64 ↑j, .pointer (some ⟨g2, off2 + j, none⟩), .int .u16 y, .int .u32 y, .int .i64 ↑j, u60, u61, undef, undef, undef, undef, undef, undef, undef, undef, undef, undef, undef, undef, undef, undef, undef, undef, undef, undef, undef, undef, undef, undef, undef, undef, undef, undef, undef, undef, undef, undef, undef, undef, undef, undef, undef, undef, undef, undef, undef, undef, undef, undef, undef, undef, undef, undef], defers := [] }) rfl (by kernel_rfl) (by kernel_rfl) (by kernel_rfl) (fun _ _ _ h => h) (.inl ⟨rfl, fun _ _ => rfl⟩) hS rfl ?_
      refine takeA (i := 12) (v := .int .u32 ↑j) ({ tmps := #[.slice (some ⟨g, off, none⟩) n ck, .slice (some ⟨g2, off2, none⟩) nv cv, .slice ao m co, undef, undef, undef, .bool false, .pointer (some ⟨A, 0, none⟩), .pointer (some ⟨B, 0, none⟩), .int .i64 ↑j, undef, undef, undef, .bool true, .bool false, .slice (some ⟨g, off, none⟩) n ck, .int .i64 ↑n, .bool false, .bool false, .slice (some ⟨g2, off2, none⟩) nv cv, .int .i64 ↑nv, .slice (some ⟨g, off, none⟩) n ck, .int .i64 ↑n, .bool false, .bool false, .bool false, .slice ao m co, .int .i64 ↑m, .bool false, .bool false, .pointer (some ⟨A, 0, none⟩), .pointer (some ⟨B, 0, none⟩), .int .i64 ↑j, .slice (some ⟨g, off, none⟩) n ck, .int .i64 ↑n, .bool true, u36, u37, .pointer (some ⟨A, 0, none⟩), .slice (some ⟨g, off, none⟩) n ck, .int .i64 ↑j, .pointer (some ⟨g, off + j, none⟩), .int .u8 ↑kx, .slice (some ⟨g2, off2, none⟩) nv cv, .int .i64 ↑j, .pointer (some ⟨g2, off2 + j, none⟩), .int .u16 y, .tuple #[], .pointer (some ⟨A, 0, none⟩), .slice (some ⟨g, off, none⟩) n ck, .int .i64 ↑j, .pointer (some ⟨g, off + j, none⟩), .int .u8 ↑kx, .int .u8 ↑k6, .slice (some ⟨g2, off2, none⟩) nv cv, .int .i64 ↑j, .pointer (some ⟨g2, off2 + j, none⟩), .int .u16 y, .int .u32 y, .int .i64 ↑j, .int .u32 ↑j, u61, undef, undef, undef, undef, undef, undef, undef, undef, undef, undef, undef, undef, undef, undef, undef, undef, undef, undef, undef, undef, undef, undef, undef, undef, undef, undef, undef, undef, undef, undef, undef, undef, undef, undef, undef, undef, undef, undef, undef, undef, undef, undef, undef, undef, undef, undef], defers := [] }) rfl (by kernel_rfl) (by kernel_rfl) (by kernel_rfl) (fun _ _ _ h => h) (.inl ⟨rfl, fun _ _ => by go_simp <;> first | exact hwy | exact hwj⟩) hS rfl ?_
      refine wpAnyH_ready (rs := [13]) (by kernel_rfl) (by simp) ?_
      refine AllReadyH.cons rfl (fun K hK => ?_) AllReadyH.nil
      rw [if_pos (by rfl)]
      go_simp
      refine Calls.mono (P.out) ?_
      rintro e w5 ⟨rfl, k4, m4⟩
      have q1 := H4.out.1.1
      have q2 := H4.out.1.2
      have hS4 : w5.cell? ⟨g, off + j, none⟩ = some (.int .u8 kx) ∧ w5.cell? ⟨g2, off2 + j, none⟩ = some (.int .u16 y) := ⟨by rw [World.cell?_of_block (k4.block _ (cell_block q1) HJ.out.2.2.2.2.2.1)]; exact q1, by rw [World.cell?_of_block (k4.block _ (cell_block q2) HJ.out.2.2.2.2.2.2)]; exact q2⟩
      have H5 := Lib.hid (And.intro hS4 (H4.out.2.drew.one (V' := _) (S' := putC S k6 y j) k4 m4 (H4.out.2.2.2.1.put _ y j (by have := HJ.out.2.2.2.2.1; omega) (by omega))))
      clear k4 m4 q1 q2 hS4
      refine hK.out ({ tmps := #[.slice (some ⟨g, off, none⟩) n ck, .slice (some ⟨g2, off2, none⟩) nv cv, .slice ao m co, undef, undef, undef, .bool false, .pointer (some ⟨A, 0, none⟩), .pointer (some ⟨B, 0, none⟩), .int .i64 ↑j, undef, undef, undef, .bool true, .bool false, .slice (some ⟨g, off, none⟩) n ck, .int .i64 ↑n, .bool false, .bool false, .slice (some ⟨g2, off2, none⟩) nv cv, .int .i64 ↑nv, .slice (some ⟨g, off, none⟩) n ck, .int .i64 ↑n, .bool false, .bool false, .bool false, .slice ao m co, .int .i64 ↑m, .bool false, .bool false, .pointer (some ⟨A, 0, none⟩), .pointer (some ⟨B, 0, none⟩), .int .i64 ↑j, .slice (some ⟨g, off, none⟩) n ck, .int .i64 ↑n, .bool true, u36, u37, .pointer (some ⟨A, 0, none⟩), .slice (some ⟨g, off, none⟩) n ck, .int .i64 ↑j, .pointer (some ⟨g, off + j, none⟩), .int .u8 ↑kx, .slice (some ⟨g2, off2, none⟩) nv cv, .int .i64 ↑j, .pointer (some ⟨g2, off2 + j, none⟩), .int .u16 y, .tuple #[], .pointer (some ⟨A, 0, none⟩), .slice (some ⟨g, off, none⟩) n ck, .int .i64 ↑j, .pointer (some ⟨g, off + j, none⟩), .int .u8 ↑kx, .int .u8 ↑k6, .slice (some ⟨g2, off2, none⟩) nv cv, .int .i64 ↑j, .pointer (some ⟨g2, off2 + j, none⟩), .int .u16 y, .int .u32 y, .int .i64 ↑j, .int .u32 ↑j, .tuple #[], undef, undef, undef, undef, undef, undef, undef, undef, undef, undef, undef, undef, undef, undef, undef, undef, undef, undef, undef, undef, undef, undef, undef, undef, undef, undef, undef, undef, undef, undef, undef, undef, undef, undef, undef, undef, undef, undef, undef, undef, undef, undef, undef, undef, undef, undef], defers := [] }) _ (H5.out.1) (fun hS => ?_)
      clear hK K
      refine wpAnyH_done (by kernel_rfl) ?_ _
      clear hS P
      go_wp2_with fail
      exact ⟨⟨j + 1, _, _, _, _, by go_num, by omega, Lib.hid H5.out.2⟩, by simp [intOf]; omega⟩
    · have hjn' : ¬ (j : Int) < n := by omega
      go_wp2_with fail
      go_loopw [10] (fun v10 wr => ∃ (j : Nat) (V2 : Nat → Int) (S2 : (Nat → Int) × (Nat → Int)), v10 = .int .i64 j ∧ j ≤ m ∧ Hid (BI w wr A B V S V2 S2)) (fun v10 _ => m - (intOf v10).toNat)
      case atStart => exact ⟨0, _, _, rfl, by omega, I⟩
      case round =>
        clear I hj hjn hjn'
        obtain ⟨j, V2, S2, rfl, hj, I⟩ := hrel
        by_cases hjn : j < m
        · have hjn' : (j : Int) < m := by omega
          have hlt : j < os.length := by have := HN.out.2.2.1; omega
          obtain ⟨g, off, hao, hcell⟩ := bytes_at (bytes_below HI.out.2.2.2.2.1 I.out.2.2.2.1 (Nat.le_refl _)) (by omega)
          subst hao
          have hx := hcell j hlt
          have hx0 : isByte (os.getD j 0) := by
            rw [List.getD_eq_getElem?_getD, List.getElem?_eq_getElem hlt]
            exact HI.out.2.2.2.2.2 _ (List.getElem_mem hlt)
          generalize os.getD j 0 = x at hx hx0
          obtain ⟨kx, rfl⟩ : ∃ kx : Nat, x = kx := ⟨x.toNat, by unfold isByte at hx0; omega⟩
          have hgB : g ≠ B := by
            intro e
            have := bytes_lt HI.out.2.2.2.2.1 (by omega)
            have := I.out.2.2.2.2.2.1
            simp only at *
            omega
          have hj80 : (j : Int) < 80 := by have := HD3.out; have := HN.out.2.2.1; omega
          obtain ⟨k6, hm6⟩ : ∃ k6 : Nat, (kx : Int) % 6 = k6 := ⟨kx % 6, by omega⟩
          have ht6 : (kx : Int).tmod 6 = k6 := by rw [Int.tmod_eq_emod_of_nonneg (by omega)]; exact hm6
          have P := Lib.hid (put_any wr B kx 7 V2 S2.1 S2.2 I.out.2.1)
          have HG := Lib.hid hgB
          clear hgB hcell hx0 hlt
          go_wp2_with fail
          refine P.out.mono ?_
          rintro e w4 ⟨rfl, k4, m4⟩
          have hx4 : w4.cell? ⟨g, off + j, none⟩ = some (.int .u8 kx) := by rw [World.cell?_of_block (k4.block _ (cell_block hx) HG.out)]; exact hx
          have I4 := I.out.two (S' := S2) k4 m4
          have P2 := Lib.hid (setClient_any w4 B k6 9 9 _ S2 I4.2.1)
          have I4 := Lib.hid I4
          clear P k4 m4 hx
          go_wp2_with fail
          refine P2.out.mono ?_
          rintro e w5 ⟨rfl, k5, m5⟩
          have I5 := Lib.hid (I4.out.two (S' := putC S2 k6 9 9) k5 m5)
          clear P2 k5 m5 hx4
          go_wp2_with fail
          exact ⟨⟨j + 1, _, _, by go_num, by omega, I5⟩, by simp [intOf]; omega⟩
        · have hjn' : ¬ (j : Int) < m := by omega
          go_wp2_with fail
          go_loopw [11] (fun v11 wr => ∃ (p : Nat) (V2 : Nat → Int) (S2 : (Nat → Int) × (Nat → Int)), v11 = .int .i64 p ∧ p ≤ 8 ∧ Hid (BI w wr A B V S V2 S2 ∧ upTo V V2 S S2 p)) (fun v11 _ => 8 - (intOf v11).toNat)
          case atStart => exact ⟨0, _, _, rfl, by omega, Lib.hid ⟨I.out, fun i _ h => by omega, fun h => by omega⟩⟩
          case round =>
            clear I hj hjn hjn'
            obtain ⟨p, V2, S2, rfl, hp, I⟩ := hrel
            by_cases hp8 : p < 8
            · have hp8' : (p : Int) < 8 := by omega
              have PG := Lib.hid (page_any wr A p V S.1 S.2 I.out.1.1 hp8)
              go_wp2_with fail
              refine PG.out.mono ?_
              rintro e w5 ⟨ap, cp, rfl, n5, b5⟩
              have I5 := I.out.1.kept b5
              have LD : Calls Try.prog 10 #[.pointer (some ⟨B, 0, none⟩), .int .i64 p, .slice ap (pageB V S.1 S.2 p).length cp] w5 fun e w' => e = .returned (.int .i64 0) ∧ ∃ V3 S3, BI w w' A B V S V3 S3 ∧ upTo V V3 S S3 (p + 1) := by
                by_cases h7 : p < 7
                · rw [show pageB V S.1 S.2 p = pg V p from if_neg (by omega)] at n5 ⊢
                  refine (load_keys w5 B p h7 V2 S2.1 S2.2 I5.2.1 ap cp (pg V p) (own_bytes n5.1) n5.none (by have := pg_short V p; omega) (pg_bytes V _ p (Nat.le_refl _))).mono ?_
                  intro e w' hL
                  obtain ⟨he, V3, h1, h2⟩ := load_back I5 h7 I.out.2 hL
                  exact ⟨he, V3, S2, h1, h2⟩
                · obtain rfl : p = 7 := by omega
                  rw [show pageB V S.1 S.2 7 = cg S.1 S.2 0 from if_pos rfl] at n5 ⊢
                  refine (load_last w5 B V2 S2.1 S2.2 I5.2.1 ap cp (cg S.1 S.2 0) (own_bytes n5.1) n5.none (by have := cg_short S.1 S.2 0; omega) (cg_bytes _ _ _ 0 (Nat.le_refl _))).mono ?_
                  intro e w' hL
                  obtain ⟨he, S3, h1, h2⟩ := load_back7 I5 I.out.2 hL
                  exact ⟨he, V2, S3, h1, h2⟩
              have LD := Lib.hid LD
              clear n5 b5 PG I5
              generalize (pageB V S.1 S.2 p).length = len at LD ⊢
              go_wp2_with fail
              refine LD.out.mono ?_
              rintro e w6 ⟨rfl, V3, S3, h6, u6⟩
              have H6 := Lib.hid (And.intro h6 u6)
              clear h6 u6 LD
              go_wp2_with fail
              exact ⟨⟨p + 1, V3, S3, by go_num, by omega, H6⟩, by simp [intOf]; omega⟩
            · have hp8' : ¬ (p : Int) < 8 := by omega
              obtain rfl : p = 8 := by omega
              go_wp2_with fail
              go_loopw [12] (fun v12 wx => ∃ (k : Nat), v12 = .int .i64 k ∧ k ≤ 64 ∧ wx = wr) (fun v12 _ => 64 - (intOf v12).toNat)
              case atStart => exact ⟨0, rfl, by omega, rfl⟩
              case round =>
                obtain ⟨k, rfl, hk, rfl⟩ := hrel
                by_cases hk64 : k < 64
                · have hk64' : (k : Int) < 64 := by omega
                  have G1 := get_any wr A k V S.1 S.2 I.out.1.1
                  have G2 := get_any wr B k V2 S2.1 S2.2 I.out.1.2.1
                  rw [if_pos hk64] at G1 G2
                  rw [I.out.2.1 k hk64 (by omega)] at G2
                  generalize V k = x at G1 G2
                  have G1 := Lib.hid G1
                  have G2 := Lib.hid G2
                  go_wp2_with fail
                  refine G1.out.mono ?_
                  rintro e w5 ⟨rfl, e5⟩
                  obtain rfl := e5.symm
                  go_wp2_with fail
                  refine G2.out.mono ?_
                  rintro e w5 ⟨rfl, e6⟩
                  obtain rfl := e6.symm
                  go_wp2_with fail
                  exact ⟨⟨k + 1, by go_num, by omega, trivial⟩, by simp [intOf]; omega⟩
                · have hk64' : ¬ (k : Int) < 64 := by omega
                  have SM := same_any wr A B _ _ _ _ _ _ I.out.1.1 I.out.1.2.1
                  rw [same_all I.out.2] at SM
                  have SM := Lib.hid SM
                  go_wp2_with fail
                  refine SM.out.mono ?_
                  rintro e w5 ⟨rfl, k5⟩
                  have hs := I.out.1.2.2.2.1.size
                  have B5 := Lib.hid (I.out.1.2.2.2.1.trans (k5.below hs (fun k e => e.elim)))
                  clear SM k5
                  go_wp2_with fail
                  go_ret
                  exact ⟨rfl, B5.out⟩

set_option maxHeartbeats 1000000 in
theorem long0 (ak : Option Addr) (n ck : Nat) (av : Option Addr) (nv cv : Nat) (ao : Option Addr) (m co : Nat) (w : World) (h : 80 < n ∨ nv < n ∨ 80 < m) :
    Calls Try.prog 3 #[.slice ak n ck, .slice av nv cv, .slice ao m co] w fun e w' => e = .returned (.bool true) ∧ Below w.heap.size w w' := by
  have KN := Lib.hid (known_any w)
  by_cases h1 : 80 < n
  · have d1 : (80 : Int) < n := by omega
    go_enter Try.func3, Try.ntmps3
    go_wp2_with fail
    refine KN.out.mono ?_
    rintro e w1 ⟨rfl, b1⟩
    have B1 := Lib.hid b1
    clear b1
    go_wp2_with fail
    go_ret
    exact ⟨rfl, B1.out⟩
  · have d1 : ¬ (80 : Int) < n := by omega
    by_cases h2 : nv < n
    · go_enter Try.func3, Try.ntmps3
      go_wp2_with fail
      refine KN.out.mono ?_
      rintro e w1 ⟨rfl, b1⟩
      have B1 := Lib.hid b1
      clear b1
      go_wp2_with fail
      go_ret
      exact ⟨rfl, B1.out⟩
    · have h2' : n ≤ nv := by omega
      have d3 : (80 : Int) < m := by omega
      go_enter Try.func3, Try.ntmps3
      go_wp2_with fail
      refine KN.out.mono ?_
      rintro e w1 ⟨rfl, b1⟩
      have B1 := Lib.hid b1
      clear b1
      go_wp2_with fail
      go_ret
      exact ⟨rfl, B1.out⟩

theorem walk (ak : Option Addr) (l : List Int) (ck : Nat) (v : Value) (vs : List Int) (ao : Option Addr) (os : List Int) (co : Nat) (w : World) (hb : Bytes w ak l) (hby : ∀ x ∈ l, isByte x) (_ : l.length ≤ ck) (_ : ak = none → ck = 0)
    (hr : RowU w 1 u16c v vs) (hv : ∀ x ∈ vs, 0 ≤ x ∧ x ≤ 65535) (hb2 : Bytes w ao os) (hby2 : ∀ x ∈ os, isByte x) (_ : os.length ≤ co) (_ : ao = none → co = 0) :
    Calls Try.prog 3 #[.slice ak l.length ck, v, .slice ao os.length co] w fun e w' => e = .returned (.bool true) ∧ Below w.heap.size w w' := by
  obtain ⟨av, cv, rfl, _⟩ := id hr
  by_cases h : l.length ≤ 80 ∧ l.length ≤ vs.length ∧ os.length ≤ 80
  · exact core ak l ck av vs cv ao os co w hb hby hr hv hb2 hby2 h.1 h.2.1 h.2.2
  · exact long0 ak l.length ck av vs.length cv ao os.length co w (by omega)


theorem lifted (os : Os) (started : os.Started) (H : Type) (enc : TypeId × Value → H) :
    ReturnsInHanded {} Try.checked os 3 .any (Rows.pageBackSpec.pre6 enc Try.prog Try.f3 Rows.pageBackRow.domain false) (Rows.pageBackSpec.post enc Try.prog Try.f3 false true false false) := by
  refine returnsInHanded_of_change (C := Try.checked) own started (by kernel_rfl) Try.func3
    (ChangeSpec.witness6 (enc := enc) (C := Try.checked) false ⟨#[], #[.slice none 0 0, .slice none 0 0, .slice none 0 0], []⟩ 8 (by kernel_rfl) (by kernel_rfl) (by kernel_rfl) (by kernel_rfl)) ?_
  intro W base args ds gs before hval0 hW hcnd _
  have hval : ∀ (j : Nat) t v, Try.f3.params[j]? = some t → args[j]? = some v → Value.okWide Try.prog W .any base t v := hval0
  have hW' := hW
  obtain ⟨p, q, hA0, hV, rfl, hfz, hnd⟩ := hW
  have hA : DataW.TrodAll enc Try.prog W 0 (fun _ => true) true Try.f3.params.toList args.toList ds p := hA0
  rw [Try.params3] at hA hval
  obtain ⟨v0, vs0, d0, ds0, p0, q0, hargs, rfl, rfl, h0, r0⟩ := trodAll_cons hA
  obtain ⟨v1, vs1, d1, ds1, p1, q1, rfl, rfl, rfl, h1, r1⟩ := trodAll_cons r0
  obtain ⟨v2, vs2, d2, ds2, p2, q2, rfl, rfl, rfl, h2, r2⟩ := trodAll_cons r1
  obtain ⟨rfl, rfl, rfl⟩ := trodAll_nil r2
  obtain rfl : args = #[v0, v1, v2] := by cases args; simp_all
  obtain ⟨rfl, rfl⟩ := trodVars_none hV
  have k0 := h0
  have lt0 : ∀ x ∈ p0, x.block < W.heap.size := by obtain ⟨m, hm⟩ := k0; exact DataW.trod_lt m _ _ _ hm
  obtain ⟨ax0, ln0, cx0, rfl⟩ := okWide_slice Try.underlying22 (hval 0 22 v0 rfl rfl)
  obtain ⟨a0, l0, c0, hv0, hb0, hby0, hcap0, hno0⟩ : ∃ (ao : Option Addr) (l : List Int) (cap : Nat), Value.slice ax0 ln0 cx0 = .slice ao l.length cap ∧ Bytes W ao l ∧ (∀ y ∈ l, isByte y) ∧ l.length ≤ cap ∧ (ao = none → cap = 0) := by
    obtain ⟨fuel, hf⟩ := h0
    exact open_bytes (by simpa [Value.cells] using hf)
  injection hv0 with hv0a hv0b hv0c
  subst hv0a hv0b hv0c
  have k1 := h1
  have lt1 : ∀ x ∈ p1, x.block < W.heap.size := by obtain ⟨m, hm⟩ := k1; exact DataW.trod_lt m _ _ _ hm
  obtain ⟨ax1, ln1, cx1, rfl⟩ := okWide_slice Try.underlying23 (hval 1 23 v1 rfl rfl)
  obtain ⟨fuel1, hf1⟩ := h1
  obtain ⟨l1, hr1, ok1⟩ := open_u16s (show DataW.trod enc Try.prog W 0 (fun _ => true) true fuel1 23 [.slice ax1 ln1 cx1] = _ from by simpa [Value.cells] using hf1)
  have k2 := h2
  have lt2 : ∀ x ∈ p2, x.block < W.heap.size := by obtain ⟨m, hm⟩ := k2; exact DataW.trod_lt m _ _ _ hm
  obtain ⟨ax2, ln2, cx2, rfl⟩ := okWide_slice Try.underlying22 (hval 2 22 v2 rfl rfl)
  obtain ⟨a2, l2, c2, hv2, hb2, hby2, hcap2, hno2⟩ : ∃ (ao : Option Addr) (l : List Int) (cap : Nat), Value.slice ax2 ln2 cx2 = .slice ao l.length cap ∧ Bytes W ao l ∧ (∀ y ∈ l, isByte y) ∧ l.length ≤ cap ∧ (ao = none → cap = 0) := by
    obtain ⟨fuel, hf⟩ := h2
    exact open_bytes (by simpa [Value.cells] using hf)
  injection hv2 with hv2a hv2b hv2c
  subst hv2a hv2b hv2c
  clear hA0 hval0
  refine (walk ax0 l0 cx0 (.slice ax1 ln1 cx1) l1 ax2 l2 cx2 W hb0 hby0 hcap0 hno0 hr1 ok1 hb2 hby2 hcap2 hno2).mono fun e W' ⟨he, bel⟩ => ?_
  subst he
  exact ⟨_, rfl, _, _, _, [], _, [], hW', trodAll_mk1 (shut_bool Try.underlying4 _), (trodAll_cons_mk (Below.trod laidOut (by kernel_rfl) (of_decide_eq_true (by kernel_rfl)) k0 bel lt0) (trodAll_cons_mk (Below.trod laidOut (by kernel_rfl) (of_decide_eq_true (by kernel_rfl)) k1 bel lt1) (trodAll_cons_mk (Below.trod laidOut (by kernel_rfl) (of_decide_eq_true (by kernel_rfl)) k2 bel lt2) trodAll_mk0))), rfl, bel.frame _, fun h => by cases h⟩

theorem over : Rows.pageBackRow.holds Try.pinned (OpenSpec.ofChange Rows.pageBackSpec) :=
  OpenClaim.holds_of_wide 3 Try.f3 rfl rfl rfl rfl rfl rfl rfl ⟨rfl, rfl, rfl, rfl, rfl⟩ rfl rfl rfl rfl rfl (by kernel_rfl) Try.func3 (by kernel_rfl)
    (of_decide_eq_true (by kernel_rfl)) (by unfold Func.isWrapper; first | (rw [if_pos (by decide +kernel)]; kernel_rfl) | (rw [if_neg (by decide +kernel)]; exact ⟨rfl, rfl⟩))
    (fun os started H enc _ => lifted os started H enc)

theorem proved : Rows.PageBackSaid := over
#print axioms proved
end Go.Proofs.Ythbfbdblnohbjaa.pageBack
