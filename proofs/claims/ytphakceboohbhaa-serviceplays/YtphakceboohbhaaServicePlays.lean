/- For every row of requests the law ServicePlays returns true: which are new, what each tells, the map behind each; looking changes nothing; all in one go tell the same. No condition. -/
import Derived.Test.YtphakceboohbhaaRows
import Derived.Test.YtphakceboohbhaaPla
import Derived.Test.YtphakceboohbhaaSvr
import Derived.Test.YtphakceboohbhaaRpage
import Derived.WalkKit
import Derived.ProofKit
import Derived.OpenShut
import Derived.ShutString
import Derived.ChangeOld
import Derived.Below
namespace Go.Proofs.Ytphakceboohbhaa.servicePlays
open Go.ChangeShapes Go.WideShapes Go.ChangeAt Go.RowKit
set_option maxRecDepth 100000

theorem own : ownKnob Try.prog.godebug = none := by kernel_rfl
theorem laidOut : laidOutB Try.prog = true := by kernel_rfl

def u32c (x : Int) : List Value := [.int .u32 x]
theorem row_new1' {α : Type} (w : World) (k : Nat) (enc : α → List Value) (x : α) (T : TypeId) (A : Array Value) (hA : A = (enc x).toArray) : RowU (w.alloc (.cells A T)) k enc (.slice (some ⟨w.heap.size, 0, none⟩) 1 1) [x] := by
  subst hA
  refine ⟨_, 1, rfl, fun h => (by cases h), by simp, by simp [maxLen], fun j y hj => ?_⟩
  have hj0 : j = 0 := by
    cases j with
    | zero => rfl
    | succ j => simp at hj
  subst hj0
  simp at hj
  subst hj
  refine ⟨_, _, rfl, fun i u hu => ?_⟩
  rw [cell_of_row _ _ _ _ _ _ (heap_alloc_new w _)]
  simpa using hu
theorem u32_at {w : World} {v : Value} {n : Nat} {ys : List Int} (h : w.ownsRow 0 29 1 v n (ys.flatMap u32c)) {q : Nat} {y : Int} (hq : ys[q]? = some y) :
    ∃ g cap, v = .slice (some ⟨g, 0, none⟩) n cap ∧ w.cell? ⟨g, q, none⟩ = some (.int .u32 y) := by
  have hl : (ys.flatMap u32c).length = ys.length * 1 := flatE_len ys (fun _ _ => rfl)
  obtain ⟨h0, -⟩ := List.getElem?_eq_some_iff.1 hq
  rcases h.2 with ⟨hv, hn⟩ | ⟨g', cap', cur, hv, hb, hgg, rest⟩
  · have := h.1; omega
  · refine ⟨g', cap', hv, ?_⟩
    have h2 := World.ownsRow.cells h (g := g') (by rw [hv]; rfl) q (.int .u32 y) (by
      have := flat_get (enc := u32c) (k := 1) (l := ys) (q := q) (x := y) (r := 0) (fun _ _ => rfl) hq (by decide)
      simpa [u32c] using this)
    rw [Addr.add_mid] at h2
    simpa using h2
/-- what the first j requests are told -/
def outs (l : List Rq) (j : Nat) : List Int := (List.range j).map (outR l)
theorem outs_next (l : List Rq) (j : Nat) : outs l (j + 1) = outs l j ++ [outR l j] := by unfold outs; rw [List.range_succ, List.map_append]; rfl
theorem outs_at (l : List Rq) (j i : Nat) (h : i < j) : (outs l j)[i]? = some (outR l i) := by unfold outs; simp [h]

/-- the loop's facts: the program's map at A, the document's at B, what was told in the row v -/
def LJ (w wr : World) (A B : Nat) (s1 s2 : Sv) (v : Value) (j : Nat) (ys : List Int) : Prop :=
  MI w wr A s1 ∧ Rs wr B s2 ∧ w.heap.size ≤ B ∧ A ≠ B ∧ wr.ownsRow 0 29 1 v j (ys.flatMap u32c) ∧ (∀ g, v.ownBlock = some g → w.heap.size ≤ g ∧ g ≠ A ∧ g ≠ B)
theorem LJ.below {w wr w' : World} {A B j : Nat} {s1 s2 : Sv} {v : Value} {ys : List Int} (h : LJ w wr A B s1 s2 v j ys) (b : Below wr.heap.size wr w') : LJ w w' A B s1 s2 v j ys :=
  ⟨h.1.below b, h.2.1.below b h.2.1.lt, h.2.2.1, h.2.2.2.1, own_kept' h.2.2.2.2.1 (Kept.ofBelow (S := fun _ => False) b) (fun _ _ h => h), h.2.2.2.2.2⟩
theorem LJ.one {w wr w' : World} {A B j : Nat} {s1 s2 s' : Sv} {v : Value} {ys : List Int} (h : LJ w wr A B s1 s2 v j ys) (m : MI w w' A s') (k : Kept (fun i => i = A) wr w') : LJ w w' A B s' s2 v j ys :=
  ⟨m, Rp.kept h.2.1 k (fun e => h.2.2.2.1 e.symm), h.2.2.1, h.2.2.2.1, own_kept' h.2.2.2.2.1 k (fun g hg => (h.2.2.2.2.2 g hg).2.1), h.2.2.2.2.2⟩
theorem LJ.two {w wr w' : World} {A B j : Nat} {s1 s2 s' : Sv} {v : Value} {ys : List Int} (h : LJ w wr A B s1 s2 v j ys) (m : Rs w' B s') (k : Kept (fun i => i = B) wr w') : LJ w w' A B s1 s' v j ys :=
  ⟨⟨Mp.kept h.1.1 k h.2.2.2.1, h.1.2.1, h.1.2.2.1.trans (k.below h.1.2.2.1.size (fun i e => by subst e; exact h.2.2.1)), h.1.2.2.2⟩, m, h.2.2.1, h.2.2.2.1, own_kept' h.2.2.2.2.1 k (fun g hg => (h.2.2.2.2.2 g hg).2.2), h.2.2.2.2.2⟩
theorem same_self (V T R : Nat → Int) : sameM V T R V T R = true := by simp [sameM]

set_option maxHeartbeats 32000000 in
theorem core (av : Option Addr) (l : List Rq) (n cv : Nat) (w : World) (hr : RowU w 5 Rq.cells (.slice av n cv) l) (hv : ∀ r ∈ l, r.ok) (hn : l.length = n) (h1 : n ≤ 80) :
    Calls Try.prog 3 #[.slice av n cv] w fun e w' => e = .returned (.bool true) ∧ Below w.heap.size w w' := by
  have KN := Lib.hid (known_any w)
  have d1 : decide (80 < (n : Int)) = false := by rw [decide_eq_false_iff_not]; omega
  have HR := Lib.hid (And.intro hr (And.intro hv (And.intro hn h1)))
  have hz : ∀ w, (zeroValue 32).run Try.prog w = .ok (.agg (mapR nul nul nul).toArray) w := zero34
  clear hr hn h1 hv
  go_enter Try.func3, Try.ntmps3
  go_wp2_with fail
  refine KN.out.mono ?_
  rintro e w1 ⟨rfl, b1⟩
  have NW := Lib.hid (new_mi w w1 b1)
  clear KN b1
  go_wp2_with fail
  refine NW.out.mono ?_
  rintro e w2 ⟨rfl, m2, -⟩
  have bz : Below w2.heap.size w2 (w2.alloc (.cells (mapR nul nul nul).toArray 32)) := (Below.refl _ w2).alloc (Nat.le_refl _) _
  have hB : Rs (w2.alloc (.cells (mapR nul nul nul).toArray 32)) w2.heap.size s0 := heap_alloc_new w2 _
  have K0 : LJ w (w2.alloc (.cells (mapR nul nul nul).toArray 32)) w1.heap.size w2.heap.size (stS l 0) (stS l 0) (.slice none 0 0) 0 (outs l 0) :=
    ⟨m2.below bz, hB, m2.2.2.1.size, by have := m2.1.lt; omega, ⟨by simp [outs], .inl ⟨rfl, rfl⟩⟩, fun g hg => (by cases hg)⟩
  replace K0 := Lib.hid K0
  clear NW m2 bz hB
  generalize (mapR nul nul nul).toArray = Z at *
  go_wp2_with fail
  generalize w1.heap.size = A at *
  generalize w2.heap.size = B at *
  generalize w2.alloc (.cells Z 32) = w3 at *
  clear hz
  go_loopw [5, 6] (fun v5 v6 wr => ∃ (j : Nat) (ao : Option Addr) (cap : Nat), v5 = .slice ao j cap ∧ v6 = .int .i64 j ∧ j ≤ n ∧ Hid (LJ w wr A B (stS l j) (stS l j) (.slice ao j cap) j (outs l j))) (fun _ v6 _ => n - (intOf v6).toNat)
  case atStart => exact ⟨0, none, 0, rfl, rfl, by omega, K0⟩
  case round =>
    obtain ⟨j, ao, cap, rfl, rfl, hj, I⟩ := hrel
    by_cases hjn : j < n
    · have hjn' : (j : Int) < n := by omega
      have hj80 : (j : Int) < 80 := by have := HR.out.2.2.2; omega
      obtain ⟨⟨c, t, kk, y, v⟩, hr⟩ : ∃ r, l[j]? = some r := ⟨_, List.getElem?_eq_getElem (by have := HR.out.2.2.1; omega)⟩
      have hok := HR.out.2.1 _ (List.mem_of_getElem? hr)
      obtain ⟨b, off, hav, hcell⟩ := rq_cell HR.out.1 hr
      subst hav
      simp only at hcell
      have hg := stS_good HR.out.2.1 j
      have hg' := stS_good HR.out.2.1 (j + 1)
      have eS := stS_next hr
      have eR := outR_at hr
      obtain ⟨s, hs⟩ : ∃ z, stS l j = z := ⟨_, rfl⟩
      obtain ⟨s', hs'⟩ : ∃ z, stS l (j + 1) = z := ⟨_, rfl⟩
      obtain ⟨x, hx⟩ : ∃ z, outR l j = z := ⟨_, rfl⟩
      rw [hs, hs'] at eS
      rw [hs] at eR I hg
      rw [hs'] at hg'
      rw [hx] at eR
      obtain ⟨nb, hnb⟩ : ∃ z, svNew s ⟨c, t, kk, y, v⟩ = z := ⟨_, rfl⟩
      obtain ⟨ab, hab⟩ : ∃ z, apB s ⟨c, t, kk, y, v⟩ = z := ⟨_, rfl⟩
      have HX := Lib.hid (And.intro hok (And.intro hg (And.intro hg' (And.intro eS (And.intro eR (And.intro hnb (And.intro hab (And.intro hcell (And.intro hs' hx)))))))))
      have N0 := new_svc wr A s ⟨c, t, kk, y, v⟩ hok I.out.1.1
      rw [hnb] at N0
      simp only [Rq.cells] at N0
      have N1 := Lib.hid N0
      obtain ⟨q0, q1, q2, q3, q4⟩ := hcell wr I.out.1.2.2.1
      clear hr hok hcell hg hg' eS eR hs hs' hx hnb hab N0
      go_wp2_with fail
      refine N1.out.mono ?_
      rintro e w4 ⟨rfl, b4⟩
      have I4 := Lib.hid (I.out.below b4)
      clear N1 b4 q0 q1 q2 q3 q4 I
      obtain ⟨q0, q1, q2, q3, q4⟩ := HX.out.2.2.2.2.2.2.2.1 w4 I4.out.1.2.2.1
      have N0 := peek_any w4 A s ⟨c, t, kk, y, v⟩ HX.out.1 I4.out.1.1 HX.out.2.1.1
      rw [HX.out.2.2.2.2.2.2.1, ← HX.out.2.2.2.2.1] at N0
      simp only [Rq.cells] at N0
      have N1 := Lib.hid N0
      clear N0
      go_wp2_with fail
      refine N1.out.mono ?_
      rintro e w5 ⟨rfl, b5⟩
      have I5 := Lib.hid (I4.out.below b5)
      clear N1 b5 q0 q1 q2 q3 q4 I4
      obtain ⟨q0, q1, q2, q3, q4⟩ := HX.out.2.2.2.2.2.2.2.1 w5 I5.out.1.2.2.1
      have N0 := refNew_any w5 B s ⟨c, t, kk, y, v⟩ HX.out.1 I5.out.2.1
      rw [HX.out.2.2.2.2.2.1] at N0
      simp only [Rq.cells] at N0
      have N1 := Lib.hid N0
      clear N0
      go_wp2_with fail
      refine N1.out.mono ?_
      rintro e w6 ⟨rfl, b6⟩
      have I6 := Lib.hid (I5.out.below b6)
      clear N1 b6 q0 q1 q2 q3 q4 I5
      obtain ⟨q0, q1, q2, q3, q4⟩ := HX.out.2.2.2.2.2.2.2.1 w6 I6.out.1.2.2.1
      have N1 := Lib.hid (ap_mi I6.out.1 c t kk y v s' x ab HX.out.1 HX.out.2.2.2.1.symm HX.out.2.2.2.2.1.symm HX.out.2.2.2.2.2.2.1)
      have hnn : (nb != nb) = false := by cases nb <;> rfl
      go_wp2_with fail
      refine N1.out.mono ?_
      rintro e w7 ⟨rfl, m7, k7⟩
      have I7 := Lib.hid (I6.out.one m7 k7)
      clear N1 m7 k7 q0 q1 q2 q3 q4 I6 hnn
      obtain ⟨q0, q1, q2, q3, q4⟩ := HX.out.2.2.2.2.2.2.2.1 w7 I7.out.1.2.2.1
      have N0 := refApply_any w7 B s ⟨c, t, kk, y, v⟩ HX.out.1 I7.out.2.1 HX.out.2.1.1
      rw [HX.out.2.2.2.2.2.2.1, ← HX.out.2.2.2.2.1, ← HX.out.2.2.2.1] at N0
      simp only [Rq.cells] at N0
      have N1 := Lib.hid N0
      clear N0
      go_wp2_with fail
      refine N1.out.mono ?_
      rintro e w8 ⟨rfl, k8, m8⟩
      have I8 := Lib.hid (I7.out.two m8 k8)
      clear N1 m8 k8 q0 q1 q2 q3 q4 I7
      have hab : (ab != ab) = false := by cases ab <;> rfl
      go_wp2_with fail
      clear hab
      go_loopw [14] (fun v14 wz => ∃ k : Nat, v14 = .int .i64 k ∧ k ≤ 8 ∧ Hid (LJ w wz A B s' s' (.slice ao j cap) j (outs l j))) (fun v14 _ => 8 - (intOf v14).toNat)
      case atStart => exact ⟨0, rfl, by omega, I8⟩
      case round =>
        obtain ⟨k, rfl, hk, J⟩ := hrel
        by_cases hk8 : k < 8
        · have hk8' : (k : Int) < 8 := by omega
          have PA0 := page_any wr.drew A k s'.V s'.T s'.R J.out.1.drew.1 hk8
          have hpb := pageB_bytes s'.V s'.T s'.R k
          have PB0 := fun wx (h : Rs wx B s') => refPage_any wx B k s'.V s'.T s'.R h HX.out.2.2.1.1 HX.out.2.2.1.2.1 HX.out.2.2.1.2.2 hk8
          generalize pageB s'.V s'.T s'.R k = pl at *
          have PA := Lib.hid PA0
          have PB := Lib.hid PB0
          clear PA0 PB0 hpb
          go_wp2_with fail
          refine wp_region_held_drew (S := Below wr.heap.size wr) (by kernel_rfl) ((Below.refl _ wr).drew) (fun hS => ?_)
          refine takeA (i := 0) (v := .pointer (some ⟨A, 0, none⟩)) ({ tmps := #[.slice (some ⟨b, off, none⟩) n cv, undef, u2, .pointer (some ⟨A, 0, none⟩), .pointer (some ⟨B, 0, none⟩), .slice ao j cap, .int .i64 ↑j, .bool nb, .int .u32 x, .bool ab, .int .u32 x, .bool ab, .int .u32 x, .bool ab, .int .i64 ↑k, undef, undef, undef, .bool true, .bool false, .slice (some ⟨b, off, none⟩) n cv, .int .i64 ↑n, .bool false, .pointer (some ⟨A, 0, none⟩), .agg Z, .pointer (some ⟨B, 0, none⟩), .int .i64 ↑j, .slice (some ⟨b, off, none⟩) n cv, .int .i64 ↑n, .bool true, u30, u31, .pointer (some ⟨A, 0, none⟩), .slice (some ⟨b, off, none⟩) n cv, .int .i64 ↑j, .pointer (some ⟨b, off + j * 5, none⟩), .agg #[.int .u8 c, .int .u32 t, .int .u8 kk, .int .u8 y, .int .u16 v], .bool nb, .tuple #[.int .u32 x, .bool ab], .pointer (some ⟨A, 0, none⟩), .slice (some ⟨b, off, none⟩) n cv, .int .i64 ↑j, .pointer (some ⟨b, off + j * 5, none⟩), .agg #[.int .u8 c, .int .u32 t, .int .u8 kk, .int .u8 y, .int .u16 v], .tuple #[.int .u32 x, .bool ab], .int .u32 x, .bool ab, .bool nb, .pointer (some ⟨B, 0, none⟩), .slice (some ⟨b, off, none⟩) n cv, .int .i64 ↑j, .pointer (some ⟨b, off + j * 5, none⟩), .agg #[.int .u8 c, .int .u32 t, .int .u8 kk, .int .u8 y, .int .u16 v], .bool nb, .bool false, .tuple #[.int .u32 x, .bool ab], .pointer (some ⟨A, 0, none⟩), .slice (some ⟨b, off, none⟩) n cv, .int .i64 ↑j, .pointer (some ⟨b, off + j * 5, none⟩), .agg #[.int .u8 c, .int .u32 t, .int .u8 kk, .int .u8 y, .int .u16 v], .tuple #[.int .u32 x, .bool ab], .int .u32 x, .bool ab, .tuple #[.int .u32 x, .bool ab], .pointer (some ⟨B, 0, none⟩), .slice (some ⟨b, off, none⟩) n cv, .int .i64 ↑j, .pointer (some ⟨b, off + j * 5, none⟩), .agg #[.int .u8 c, .int .u32 t, .int .u8 kk, .int .u8 y, .int .u16 v], .tuple #[.int .u32 x, .bool ab], .int .u32 x, .bool ab, .int .u32 x, .int .u32 x, .bool false, .bool false, .bool ab, .bool ab, .bool false, .bool false, .bool false, .int .u32 x, .int .u32 x, .bool false, .bool false, .bool false, .bool ab, .bool ab, .bool false, .bool false, .int .i64 ↑k, .bool true, u93, u94, .pointer (some ⟨A, 0, none⟩), u96, u97, u98, u99, u100, u101, u102, u103, u104, u105, u106, u107, u108, u109, undef, undef, undef, undef, undef, undef, undef, undef, undef, undef, undef, undef, undef, undef, undef, undef, undef, undef, undef, undef, undef, undef, undef, undef, undef, undef, undef, undef, undef, undef, undef], defers := [] }) rfl (by kernel_rfl) (by kernel_rfl) (by kernel_rfl) (fun _ _ _ h => h) (.inl ⟨rfl, fun _ _ => rfl⟩) hS rfl ?_
          refine takeA (i := 1) (v := .int .i64 ↑k) ({ tmps := #[.slice (some ⟨b, off, none⟩) n cv, undef, u2, .pointer (some ⟨A, 0, none⟩), .pointer (some ⟨B, 0, none⟩), .slice ao j cap, .int .i64 ↑j, .bool nb, .int .u32 x, .bool ab, .int .u32 x, .bool ab, .int .u32 x, .bool ab, .int .i64 ↑k, undef, undef, undef, .bool true, .bool false, .slice (some ⟨b, off, none⟩) n cv, .int .i64 ↑n, .bool false, .pointer (some ⟨A, 0, none⟩), .agg Z, .pointer (some ⟨B, 0, none⟩), .int .i64 ↑j, .slice (some ⟨b, off, none⟩) n cv, .int .i64 ↑n, .bool true, u30, u31, .pointer (some ⟨A, 0, none⟩), .slice (some ⟨b, off, none⟩) n cv, .int .i64 ↑j, .pointer (some ⟨b, off + j * 5, none⟩), .agg #[.int .u8 c, .int .u32 t, .int .u8 kk, .int .u8 y, .int .u16 v], .bool nb, .tuple #[.int .u32 x, .bool ab], .pointer (some ⟨A, 0, none⟩), .slice (some ⟨b, off, none⟩) n cv, .int .i64 ↑j, .pointer (some ⟨b, off + j * 5, none⟩), .agg #[.int .u8 c, .int .u32 t, .int .u8 kk, .int .u8 y, .int .u16 v], .tuple #[.int .u32 x, .bool ab], .int .u32 x, .bool ab, .bool nb, .pointer (some ⟨B, 0, none⟩), .slice (some ⟨b, off, none⟩) n cv, .int .i64 ↑j, .pointer (some ⟨b, off + j * 5, none⟩), .agg #[.int .u8 c, .int .u32 t, .int .u8 kk, .int .u8 y, .int .u16 v], .bool nb, .bool false, .tuple #[.int .u32 x, .bool ab], .pointer (some ⟨A, 0, none⟩), .slice (some ⟨b, off, none⟩) n cv, .int .i64 ↑j, .pointer (some ⟨b, off + j * 5, none⟩), .agg #[.int .u8 c, .int .u32 t, .int .u8 kk, .int .u8 y, .int .u16 v], .tuple #[.int .u32 x, .bool ab], .int .u32 x, .bool ab, .tuple #[.int .u32 x, .bool ab], .pointer (some ⟨B, 0, none⟩), .slice (some ⟨b, off, none⟩) n cv, .int .i64 ↑j, .pointer (some ⟨b, off + j * 5, none⟩), .agg #[.int .u8 c, .int .u32 t, .int .u8 kk, .int .u8 y, .int .u16 v], .tuple #[.int .u32 x, .bool ab], .int .u32 x, .bool ab, .int .u32 x, .int .u32 x, .bool false, .bool false, .bool ab, .bool ab, .bool false, .bool false, .bool false, .int .u32 x, .int .u32 x, .bool false, .bool false, .bool false, .bool ab, .bool ab, .bool false, .bool false, .int .i64 ↑k, .bool true, u93, u94, .pointer (some ⟨A, 0, none⟩), .int .i64 ↑k, u97, u98, u99, u100, u101, u102, u103, u104, u105, u106, u107, u108, u109, undef, undef, undef, undef, undef, undef, undef, undef, undef, undef, undef, undef, undef, undef, undef, undef, undef, undef, undef, undef, undef, undef, undef, undef, undef, undef, undef, undef, undef, undef, undef], defers := [] }) rfl (by kernel_rfl) (by kernel_rfl) (by kernel_rfl) (fun _ _ _ h => h) (.inl ⟨rfl, fun _ _ => rfl⟩) hS rfl ?_
          refine takeA (i := 4) (v := .pointer (some ⟨B, 0, none⟩)) ({ tmps := #[.slice (some ⟨b, off, none⟩) n cv, undef, u2, .pointer (some ⟨A, 0, none⟩), .pointer (some ⟨B, 0, none⟩), .slice ao j cap, .int .i64 ↑j, .bool nb, .int .u32 x, .bool ab, .int .u32 x, .bool ab, .int .u32 x, .bool ab, .int .i64 ↑k, undef, undef, undef, .bool true, .bool false, .slice (some ⟨b, off, none⟩) n cv, .int .i64 ↑n, .bool false, .pointer (some ⟨A, 0, none⟩), .agg Z, .pointer (some ⟨B, 0, none⟩), .int .i64 ↑j, .slice (some ⟨b, off, none⟩) n cv, .int .i64 ↑n, .bool true, u30, u31, .pointer (some ⟨A, 0, none⟩), .slice (some ⟨b, off, none⟩) n cv, .int .i64 ↑j, .pointer (some ⟨b, off + j * 5, none⟩), .agg #[.int .u8 c, .int .u32 t, .int .u8 kk, .int .u8 y, .int .u16 v], .bool nb, .tuple #[.int .u32 x, .bool ab], .pointer (some ⟨A, 0, none⟩), .slice (some ⟨b, off, none⟩) n cv, .int .i64 ↑j, .pointer (some ⟨b, off + j * 5, none⟩), .agg #[.int .u8 c, .int .u32 t, .int .u8 kk, .int .u8 y, .int .u16 v], .tuple #[.int .u32 x, .bool ab], .int .u32 x, .bool ab, .bool nb, .pointer (some ⟨B, 0, none⟩), .slice (some ⟨b, off, none⟩) n cv, .int .i64 ↑j, .pointer (some ⟨b, off + j * 5, none⟩), .agg #[.int .u8 c, .int .u32 t, .int .u8 kk, .int .u8 y, .int .u16 v], .bool nb, .bool false, .tuple #[.int .u32 x, .bool ab], .pointer (some ⟨A, 0, none⟩), .slice (some ⟨b, off, none⟩) n cv, .int .i64 ↑j, .pointer (some ⟨b, off + j * 5, none⟩), .agg #[.int .u8 c, .int .u32 t, .int .u8 kk, .int .u8 y, .int .u16 v], .tuple #[.int .u32 x, .bool ab], .int .u32 x, .bool ab, .tuple #[.int .u32 x, .bool ab], .pointer (some ⟨B, 0, none⟩), .slice (some ⟨b, off, none⟩) n cv, .int .i64 ↑j, .pointer (some ⟨b, off + j * 5, none⟩), .agg #[.int .u8 c, .int .u32 t, .int .u8 kk, .int .u8 y, .int .u16 v], .tuple #[.int .u32 x, .bool ab], .int .u32 x, .bool ab, .int .u32 x, .int .u32 x, .bool false, .bool false, .bool ab, .bool ab, .bool false, .bool false, .bool false, .int .u32 x, .int .u32 x, .bool false, .bool false, .bool false, .bool ab, .bool ab, .bool false, .bool false, .int .i64 ↑k, .bool true, u93, u94, .pointer (some ⟨A, 0, none⟩), .int .i64 ↑k, u97, u98, .pointer (some ⟨B, 0, none⟩), u100, u101, u102, u103, u104, u105, u106, u107, u108, u109, undef, undef, undef, undef, undef, undef, undef, undef, undef, undef, undef, undef, undef, undef, undef, undef, undef, undef, undef, undef, undef, undef, undef, undef, undef, undef, undef, undef, undef, undef, undef], defers := [] }) rfl (by kernel_rfl) (by kernel_rfl) (by kernel_rfl) (fun _ _ _ h => h) (.inl ⟨rfl, fun _ _ => rfl⟩) hS rfl ?_
          refine takeA (i := 5) (v := .int .i64 ↑k) ({ tmps := #[.slice (some ⟨b, off, none⟩) n cv, undef, u2, .pointer (some ⟨A, 0, none⟩), .pointer (some ⟨B, 0, none⟩), .slice ao j cap, .int .i64 ↑j, .bool nb, .int .u32 x, .bool ab, .int .u32 x, .bool ab, .int .u32 x, .bool ab, .int .i64 ↑k, undef, undef, undef, .bool true, .bool false, .slice (some ⟨b, off, none⟩) n cv, .int .i64 ↑n, .bool false, .pointer (some ⟨A, 0, none⟩), .agg Z, .pointer (some ⟨B, 0, none⟩), .int .i64 ↑j, .slice (some ⟨b, off, none⟩) n cv, .int .i64 ↑n, .bool true, u30, u31, .pointer (some ⟨A, 0, none⟩), .slice (some ⟨b, off, none⟩) n cv, .int .i64 ↑j, .pointer (some ⟨b, off + j * 5, none⟩), .agg #[.int .u8 c, .int .u32 t, .int .u8 kk, .int .u8 y, .int .u16 v], .bool nb, .tuple #[.int .u32 x, .bool ab], .pointer (some ⟨A, 0, none⟩), .slice (some ⟨b, off, none⟩) n cv, .int .i64 ↑j, .pointer (some ⟨b, off + j * 5, none⟩), .agg #[.int .u8 c, .int .u32 t, .int .u8 kk, .int .u8 y, .int .u16 v], .tuple #[.int .u32 x, .bool ab], .int .u32 x, .bool ab, .bool nb, .pointer (some ⟨B, 0, none⟩), .slice (some ⟨b, off, none⟩) n cv, .int .i64 ↑j, .pointer (some ⟨b, off + j * 5, none⟩), .agg #[.int .u8 c, .int .u32 t, .int .u8 kk, .int .u8 y, .int .u16 v], .bool nb, .bool false, .tuple #[.int .u32 x, .bool ab], .pointer (some ⟨A, 0, none⟩), .slice (some ⟨b, off, none⟩) n cv, .int .i64 ↑j, .pointer (some ⟨b, off + j * 5, none⟩), .agg #[.int .u8 c, .int .u32 t, .int .u8 kk, .int .u8 y, .int .u16 v], .tuple #[.int .u32 x, .bool ab], .int .u32 x, .bool ab, .tuple #[.int .u32 x, .bool ab], .pointer (some ⟨B, 0, none⟩), .slice (some ⟨b, off, none⟩) n cv, .int .i64 ↑j, .pointer (some ⟨b, off + j * 5, none⟩), .agg #[.int .u8 c, .int .u32 t, .int .u8 kk, .int .u8 y, .int .u16 v], .tuple #[.int .u32 x, .bool ab], .int .u32 x, .bool ab, .int .u32 x, .int .u32 x, .bool false, .bool false, .bool ab, .bool ab, .bool false, .bool false, .bool false, .int .u32 x, .int .u32 x, .bool false, .bool false, .bool false, .bool ab, .bool ab, .bool false, .bool false, .int .i64 ↑k, .bool true, u93, u94, .pointer (some ⟨A, 0, none⟩), .int .i64 ↑k, u97, u98, .pointer (some ⟨B, 0, none⟩), .int .i64 ↑k, u101, u102, u103, u104, u105, u106, u107, u108, u109, undef, undef, undef, undef, undef, undef, undef, undef, undef, undef, undef, undef, undef, undef, undef, undef, undef, undef, undef, undef, undef, undef, undef, undef, undef, undef, undef, undef, undef, undef, undef], defers := [] }) rfl (by kernel_rfl) (by kernel_rfl) (by kernel_rfl) (fun _ _ _ h => h) (.inl ⟨rfl, fun _ _ => rfl⟩) hS rfl ?_
          refine wpAnyH_ready (rs := [2]) (by kernel_rfl) (by simp) ?_
          refine AllReadyH.cons rfl (fun K hK => ?_) AllReadyH.nil
          rw [if_pos (by rfl)]
          go_simp
          refine Calls.mono (PA.out) ?_
          rintro e w9 ⟨a1, c1, rfl, n9, b9⟩
          have hs9 := str_new n9
          have B9 := Lib.hid ((show Below wr.heap.size wr wr.drew from (Below.refl _ wr).drew).trans b9)
          have PB1 := Lib.hid (PB.out w9 (J.out.below B9.out).2.1)
          have N9 := Lib.hid n9
          clear n9 b9
          refine hK.out ({ tmps := #[.slice (some ⟨b, off, none⟩) n cv, undef, u2, .pointer (some ⟨A, 0, none⟩), .pointer (some ⟨B, 0, none⟩), .slice ao j cap, .int .i64 ↑j, .bool nb, .int .u32 x, .bool ab, .int .u32 x, .bool ab, .int .u32 x, .bool ab, .int .i64 ↑k, undef, undef, undef, .bool true, .bool false, .slice (some ⟨b, off, none⟩) n cv, .int .i64 ↑n, .bool false, .pointer (some ⟨A, 0, none⟩), .agg Z, .pointer (some ⟨B, 0, none⟩), .int .i64 ↑j, .slice (some ⟨b, off, none⟩) n cv, .int .i64 ↑n, .bool true, u30, u31, .pointer (some ⟨A, 0, none⟩), .slice (some ⟨b, off, none⟩) n cv, .int .i64 ↑j, .pointer (some ⟨b, off + j * 5, none⟩), .agg #[.int .u8 c, .int .u32 t, .int .u8 kk, .int .u8 y, .int .u16 v], .bool nb, .tuple #[.int .u32 x, .bool ab], .pointer (some ⟨A, 0, none⟩), .slice (some ⟨b, off, none⟩) n cv, .int .i64 ↑j, .pointer (some ⟨b, off + j * 5, none⟩), .agg #[.int .u8 c, .int .u32 t, .int .u8 kk, .int .u8 y, .int .u16 v], .tuple #[.int .u32 x, .bool ab], .int .u32 x, .bool ab, .bool nb, .pointer (some ⟨B, 0, none⟩), .slice (some ⟨b, off, none⟩) n cv, .int .i64 ↑j, .pointer (some ⟨b, off + j * 5, none⟩), .agg #[.int .u8 c, .int .u32 t, .int .u8 kk, .int .u8 y, .int .u16 v], .bool nb, .bool false, .tuple #[.int .u32 x, .bool ab], .pointer (some ⟨A, 0, none⟩), .slice (some ⟨b, off, none⟩) n cv, .int .i64 ↑j, .pointer (some ⟨b, off + j * 5, none⟩), .agg #[.int .u8 c, .int .u32 t, .int .u8 kk, .int .u8 y, .int .u16 v], .tuple #[.int .u32 x, .bool ab], .int .u32 x, .bool ab, .tuple #[.int .u32 x, .bool ab], .pointer (some ⟨B, 0, none⟩), .slice (some ⟨b, off, none⟩) n cv, .int .i64 ↑j, .pointer (some ⟨b, off + j * 5, none⟩), .agg #[.int .u8 c, .int .u32 t, .int .u8 kk, .int .u8 y, .int .u16 v], .tuple #[.int .u32 x, .bool ab], .int .u32 x, .bool ab, .int .u32 x, .int .u32 x, .bool false, .bool false, .bool ab, .bool ab, .bool false, .bool false, .bool false, .int .u32 x, .int .u32 x, .bool false, .bool false, .bool false, .bool ab, .bool ab, .bool false, .bool false, .int .i64 ↑k, .bool true, u93, u94, .pointer (some ⟨A, 0, none⟩), .int .i64 ↑k, .slice a1 pl.length c1, u98, .pointer (some ⟨B, 0, none⟩), .int .i64 ↑k, u101, u102, u103, u104, u105, u106, u107, u108, u109, undef, undef, undef, undef, undef, undef, undef, undef, undef, undef, undef, undef, undef, undef, undef, undef, undef, undef, undef, undef, undef, undef, undef, undef, undef, undef, undef, undef, undef, undef, undef], defers := [] }) _ (B9.out) (fun hS => ?_)
          clear hK K
          refine wpAnyH_ready (rs := [3, 6]) (by kernel_rfl) (by simp) ?_
          refine AllReadyH.cons rfl (fun K hK => ?_) (AllReadyH.cons rfl (fun K hK => ?_) AllReadyH.nil)
          · rw [if_pos (by rfl)]
            go_simp
            refine hK.out ({ tmps := #[.slice (some ⟨b, off, none⟩) n cv, undef, u2, .pointer (some ⟨A, 0, none⟩), .pointer (some ⟨B, 0, none⟩), .slice ao j cap, .int .i64 ↑j, .bool nb, .int .u32 x, .bool ab, .int .u32 x, .bool ab, .int .u32 x, .bool ab, .int .i64 ↑k, undef, undef, undef, .bool true, .bool false, .slice (some ⟨b, off, none⟩) n cv, .int .i64 ↑n, .bool false, .pointer (some ⟨A, 0, none⟩), .agg Z, .pointer (some ⟨B, 0, none⟩), .int .i64 ↑j, .slice (some ⟨b, off, none⟩) n cv, .int .i64 ↑n, .bool true, u30, u31, .pointer (some ⟨A, 0, none⟩), .slice (some ⟨b, off, none⟩) n cv, .int .i64 ↑j, .pointer (some ⟨b, off + j * 5, none⟩), .agg #[.int .u8 c, .int .u32 t, .int .u8 kk, .int .u8 y, .int .u16 v], .bool nb, .tuple #[.int .u32 x, .bool ab], .pointer (some ⟨A, 0, none⟩), .slice (some ⟨b, off, none⟩) n cv, .int .i64 ↑j, .pointer (some ⟨b, off + j * 5, none⟩), .agg #[.int .u8 c, .int .u32 t, .int .u8 kk, .int .u8 y, .int .u16 v], .tuple #[.int .u32 x, .bool ab], .int .u32 x, .bool ab, .bool nb, .pointer (some ⟨B, 0, none⟩), .slice (some ⟨b, off, none⟩) n cv, .int .i64 ↑j, .pointer (some ⟨b, off + j * 5, none⟩), .agg #[.int .u8 c, .int .u32 t, .int .u8 kk, .int .u8 y, .int .u16 v], .bool nb, .bool false, .tuple #[.int .u32 x, .bool ab], .pointer (some ⟨A, 0, none⟩), .slice (some ⟨b, off, none⟩) n cv, .int .i64 ↑j, .pointer (some ⟨b, off + j * 5, none⟩), .agg #[.int .u8 c, .int .u32 t, .int .u8 kk, .int .u8 y, .int .u16 v], .tuple #[.int .u32 x, .bool ab], .int .u32 x, .bool ab, .tuple #[.int .u32 x, .bool ab], .pointer (some ⟨B, 0, none⟩), .slice (some ⟨b, off, none⟩) n cv, .int .i64 ↑j, .pointer (some ⟨b, off + j * 5, none⟩), .agg #[.int .u8 c, .int .u32 t, .int .u8 kk, .int .u8 y, .int .u16 v], .tuple #[.int .u32 x, .bool ab], .int .u32 x, .bool ab, .int .u32 x, .int .u32 x, .bool false, .bool false, .bool ab, .bool ab, .bool false, .bool false, .bool false, .int .u32 x, .int .u32 x, .bool false, .bool false, .bool false, .bool ab, .bool ab, .bool false, .bool false, .int .i64 ↑k, .bool true, u93, u94, .pointer (some ⟨A, 0, none⟩), .int .i64 ↑k, .slice a1 pl.length c1, .string (strOfNums pl), .pointer (some ⟨B, 0, none⟩), .int .i64 ↑k, u101, u102, u103, u104, u105, u106, u107, u108, u109, undef, undef, undef, undef, undef, undef, undef, undef, undef, undef, undef, undef, undef, undef, undef, undef, undef, undef, undef, undef, undef, undef, undef, undef, undef, undef, undef, undef, undef, undef, undef], defers := [] }) _ (B9.out) (fun hS => ?_)
            clear hK K
            refine wpAnyH_ready (rs := [6]) (by kernel_rfl) (by simp) ?_
            refine AllReadyH.cons rfl (fun K hK => ?_) AllReadyH.nil
            rw [if_pos (by rfl)]
            go_simp
            refine Calls.mono (PB1.out) ?_
            rintro e w10 ⟨a2, c2, rfl, n10, b10⟩
            have hs10 := str_new n10
            have hs11 := str_new (H := 0) (w := w10) (ao := a1) (c := c1) (l := pl) ⟨own_kept N9.out.1 (Kept.ofBelow (S := fun _ => False) b10) (fun _ _ h => h), fun _ _ => Nat.zero_le _⟩
            have B10 := Lib.hid (B9.out.trans (b10.mono B9.out.size))
            clear n10 b10
            refine hK.out ({ tmps := #[.slice (some ⟨b, off, none⟩) n cv, undef, u2, .pointer (some ⟨A, 0, none⟩), .pointer (some ⟨B, 0, none⟩), .slice ao j cap, .int .i64 ↑j, .bool nb, .int .u32 x, .bool ab, .int .u32 x, .bool ab, .int .u32 x, .bool ab, .int .i64 ↑k, undef, undef, undef, .bool true, .bool false, .slice (some ⟨b, off, none⟩) n cv, .int .i64 ↑n, .bool false, .pointer (some ⟨A, 0, none⟩), .agg Z, .pointer (some ⟨B, 0, none⟩), .int .i64 ↑j, .slice (some ⟨b, off, none⟩) n cv, .int .i64 ↑n, .bool true, u30, u31, .pointer (some ⟨A, 0, none⟩), .slice (some ⟨b, off, none⟩) n cv, .int .i64 ↑j, .pointer (some ⟨b, off + j * 5, none⟩), .agg #[.int .u8 c, .int .u32 t, .int .u8 kk, .int .u8 y, .int .u16 v], .bool nb, .tuple #[.int .u32 x, .bool ab], .pointer (some ⟨A, 0, none⟩), .slice (some ⟨b, off, none⟩) n cv, .int .i64 ↑j, .pointer (some ⟨b, off + j * 5, none⟩), .agg #[.int .u8 c, .int .u32 t, .int .u8 kk, .int .u8 y, .int .u16 v], .tuple #[.int .u32 x, .bool ab], .int .u32 x, .bool ab, .bool nb, .pointer (some ⟨B, 0, none⟩), .slice (some ⟨b, off, none⟩) n cv, .int .i64 ↑j, .pointer (some ⟨b, off + j * 5, none⟩), .agg #[.int .u8 c, .int .u32 t, .int .u8 kk, .int .u8 y, .int .u16 v], .bool nb, .bool false, .tuple #[.int .u32 x, .bool ab], .pointer (some ⟨A, 0, none⟩), .slice (some ⟨b, off, none⟩) n cv, .int .i64 ↑j, .pointer (some ⟨b, off + j * 5, none⟩), .agg #[.int .u8 c, .int .u32 t, .int .u8 kk, .int .u8 y, .int .u16 v], .tuple #[.int .u32 x, .bool ab], .int .u32 x, .bool ab, .tuple #[.int .u32 x, .bool ab], .pointer (some ⟨B, 0, none⟩), .slice (some ⟨b, off, none⟩) n cv, .int .i64 ↑j, .pointer (some ⟨b, off + j * 5, none⟩), .agg #[.int .u8 c, .int .u32 t, .int .u8 kk, .int .u8 y, .int .u16 v], .tuple #[.int .u32 x, .bool ab], .int .u32 x, .bool ab, .int .u32 x, .int .u32 x, .bool false, .bool false, .bool ab, .bool ab, .bool false, .bool false, .bool false, .int .u32 x, .int .u32 x, .bool false, .bool false, .bool false, .bool ab, .bool ab, .bool false, .bool false, .int .i64 ↑k, .bool true, u93, u94, .pointer (some ⟨A, 0, none⟩), .int .i64 ↑k, .slice a1 pl.length c1, .string (strOfNums pl), .pointer (some ⟨B, 0, none⟩), .int .i64 ↑k, .slice a2 pl.length c2, u102, u103, u104, u105, u106, u107, u108, u109, undef, undef, undef, undef, undef, undef, undef, undef, undef, undef, undef, undef, undef, undef, undef, undef, undef, undef, undef, undef, undef, undef, undef, undef, undef, undef, undef, undef, undef, undef, undef], defers := [] }) _ (B10.out) (fun hS => ?_)
            clear hK K
            refine wpAnyH_ready (rs := [7]) (by kernel_rfl) (by simp) ?_
            refine AllReadyH.cons rfl (fun K hK => ?_) AllReadyH.nil
            rw [if_pos (by rfl)]
            go_simp
            refine hK.out ({ tmps := #[.slice (some ⟨b, off, none⟩) n cv, undef, u2, .pointer (some ⟨A, 0, none⟩), .pointer (some ⟨B, 0, none⟩), .slice ao j cap, .int .i64 ↑j, .bool nb, .int .u32 x, .bool ab, .int .u32 x, .bool ab, .int .u32 x, .bool ab, .int .i64 ↑k, undef, undef, undef, .bool true, .bool false, .slice (some ⟨b, off, none⟩) n cv, .int .i64 ↑n, .bool false, .pointer (some ⟨A, 0, none⟩), .agg Z, .pointer (some ⟨B, 0, none⟩), .int .i64 ↑j, .slice (some ⟨b, off, none⟩) n cv, .int .i64 ↑n, .bool true, u30, u31, .pointer (some ⟨A, 0, none⟩), .slice (some ⟨b, off, none⟩) n cv, .int .i64 ↑j, .pointer (some ⟨b, off + j * 5, none⟩), .agg #[.int .u8 c, .int .u32 t, .int .u8 kk, .int .u8 y, .int .u16 v], .bool nb, .tuple #[.int .u32 x, .bool ab], .pointer (some ⟨A, 0, none⟩), .slice (some ⟨b, off, none⟩) n cv, .int .i64 ↑j, .pointer (some ⟨b, off + j * 5, none⟩), .agg #[.int .u8 c, .int .u32 t, .int .u8 kk, .int .u8 y, .int .u16 v], .tuple #[.int .u32 x, .bool ab], .int .u32 x, .bool ab, .bool nb, .pointer (some ⟨B, 0, none⟩), .slice (some ⟨b, off, none⟩) n cv, .int .i64 ↑j, .pointer (some ⟨b, off + j * 5, none⟩), .agg #[.int .u8 c, .int .u32 t, .int .u8 kk, .int .u8 y, .int .u16 v], .bool nb, .bool false, .tuple #[.int .u32 x, .bool ab], .pointer (some ⟨A, 0, none⟩), .slice (some ⟨b, off, none⟩) n cv, .int .i64 ↑j, .pointer (some ⟨b, off + j * 5, none⟩), .agg #[.int .u8 c, .int .u32 t, .int .u8 kk, .int .u8 y, .int .u16 v], .tuple #[.int .u32 x, .bool ab], .int .u32 x, .bool ab, .tuple #[.int .u32 x, .bool ab], .pointer (some ⟨B, 0, none⟩), .slice (some ⟨b, off, none⟩) n cv, .int .i64 ↑j, .pointer (some ⟨b, off + j * 5, none⟩), .agg #[.int .u8 c, .int .u32 t, .int .u8 kk, .int .u8 y, .int .u16 v], .tuple #[.int .u32 x, .bool ab], .int .u32 x, .bool ab, .int .u32 x, .int .u32 x, .bool false, .bool false, .bool ab, .bool ab, .bool false, .bool false, .bool false, .int .u32 x, .int .u32 x, .bool false, .bool false, .bool false, .bool ab, .bool ab, .bool false, .bool false, .int .i64 ↑k, .bool true, u93, u94, .pointer (some ⟨A, 0, none⟩), .int .i64 ↑k, .slice a1 pl.length c1, .string (strOfNums pl), .pointer (some ⟨B, 0, none⟩), .int .i64 ↑k, .slice a2 pl.length c2, .string (strOfNums pl), u103, u104, u105, u106, u107, u108, u109, undef, undef, undef, undef, undef, undef, undef, undef, undef, undef, undef, undef, undef, undef, undef, undef, undef, undef, undef, undef, undef, undef, undef, undef, undef, undef, undef, undef, undef, undef, undef], defers := [] }) _ (B10.out) (fun hS => ?_)
            clear hK K
            refine takeA (i := 8) (v := .bool false) ({ tmps := #[.slice (some ⟨b, off, none⟩) n cv, undef, u2, .pointer (some ⟨A, 0, none⟩), .pointer (some ⟨B, 0, none⟩), .slice ao j cap, .int .i64 ↑j, .bool nb, .int .u32 x, .bool ab, .int .u32 x, .bool ab, .int .u32 x, .bool ab, .int .i64 ↑k, undef, undef, undef, .bool true, .bool false, .slice (some ⟨b, off, none⟩) n cv, .int .i64 ↑n, .bool false, .pointer (some ⟨A, 0, none⟩), .agg Z, .pointer (some ⟨B, 0, none⟩), .int .i64 ↑j, .slice (some ⟨b, off, none⟩) n cv, .int .i64 ↑n, .bool true, u30, u31, .pointer (some ⟨A, 0, none⟩), .slice (some ⟨b, off, none⟩) n cv, .int .i64 ↑j, .pointer (some ⟨b, off + j * 5, none⟩), .agg #[.int .u8 c, .int .u32 t, .int .u8 kk, .int .u8 y, .int .u16 v], .bool nb, .tuple #[.int .u32 x, .bool ab], .pointer (some ⟨A, 0, none⟩), .slice (some ⟨b, off, none⟩) n cv, .int .i64 ↑j, .pointer (some ⟨b, off + j * 5, none⟩), .agg #[.int .u8 c, .int .u32 t, .int .u8 kk, .int .u8 y, .int .u16 v], .tuple #[.int .u32 x, .bool ab], .int .u32 x, .bool ab, .bool nb, .pointer (some ⟨B, 0, none⟩), .slice (some ⟨b, off, none⟩) n cv, .int .i64 ↑j, .pointer (some ⟨b, off + j * 5, none⟩), .agg #[.int .u8 c, .int .u32 t, .int .u8 kk, .int .u8 y, .int .u16 v], .bool nb, .bool false, .tuple #[.int .u32 x, .bool ab], .pointer (some ⟨A, 0, none⟩), .slice (some ⟨b, off, none⟩) n cv, .int .i64 ↑j, .pointer (some ⟨b, off + j * 5, none⟩), .agg #[.int .u8 c, .int .u32 t, .int .u8 kk, .int .u8 y, .int .u16 v], .tuple #[.int .u32 x, .bool ab], .int .u32 x, .bool ab, .tuple #[.int .u32 x, .bool ab], .pointer (some ⟨B, 0, none⟩), .slice (some ⟨b, off, none⟩) n cv, .int .i64 ↑j, .pointer (some ⟨b, off + j * 5, none⟩), .agg #[.int .u8 c, .int .u32 t, .int .u8 kk, .int .u8 y, .int .u16 v], .tuple #[.int .u32 x, .bool ab], .int .u32 x, .bool ab, .int .u32 x, .int .u32 x, .bool false, .bool false, .bool ab, .bool ab, .bool false, .bool false, .bool false, .int .u32 x, .int .u32 x, .bool false, .bool false, .bool false, .bool ab, .bool ab, .bool false, .bool false, .int .i64 ↑k, .bool true, u93, u94, .pointer (some ⟨A, 0, none⟩), .int .i64 ↑k, .slice a1 pl.length c1, .string (strOfNums pl), .pointer (some ⟨B, 0, none⟩), .int .i64 ↑k, .slice a2 pl.length c2, .string (strOfNums pl), .bool false, u104, u105, u106, u107, u108, u109, undef, undef, undef, undef, undef, undef, undef, undef, undef, undef, undef, undef, undef, undef, undef, undef, undef, undef, undef, undef, undef, undef, undef, undef, undef, undef, undef, undef, undef, undef, undef], defers := [] }) rfl (by kernel_rfl) (by kernel_rfl) (by kernel_rfl) (fun _ _ _ h => h) (.inl ⟨rfl, fun _ _ => by go_simp⟩) hS rfl ?_
            refine wpAnyH_done (by kernel_rfl) ?_ _
            clear hS
            go_wp2_with fail
            exact ⟨⟨k + 1, by go_num, by omega, Lib.hid (J.out.below B10.out)⟩, by simp [intOf]; omega⟩
          · rw [if_pos (by rfl)]
            go_simp
            refine Calls.mono (PB1.out) ?_
            rintro e w10 ⟨a2, c2, rfl, n10, b10⟩
            have hs10 := str_new n10
            have hs11 := str_new (H := 0) (w := w10) (ao := a1) (c := c1) (l := pl) ⟨own_kept N9.out.1 (Kept.ofBelow (S := fun _ => False) b10) (fun _ _ h => h), fun _ _ => Nat.zero_le _⟩
            have B10 := Lib.hid (B9.out.trans (b10.mono B9.out.size))
            clear n10 b10
            refine hK.out ({ tmps := #[.slice (some ⟨b, off, none⟩) n cv, undef, u2, .pointer (some ⟨A, 0, none⟩), .pointer (some ⟨B, 0, none⟩), .slice ao j cap, .int .i64 ↑j, .bool nb, .int .u32 x, .bool ab, .int .u32 x, .bool ab, .int .u32 x, .bool ab, .int .i64 ↑k, undef, undef, undef, .bool true, .bool false, .slice (some ⟨b, off, none⟩) n cv, .int .i64 ↑n, .bool false, .pointer (some ⟨A, 0, none⟩), .agg Z, .pointer (some ⟨B, 0, none⟩), .int .i64 ↑j, .slice (some ⟨b, off, none⟩) n cv, .int .i64 ↑n, .bool true, u30, u31, .pointer (some ⟨A, 0, none⟩), .slice (some ⟨b, off, none⟩) n cv, .int .i64 ↑j, .pointer (some ⟨b, off + j * 5, none⟩), .agg #[.int .u8 c, .int .u32 t, .int .u8 kk, .int .u8 y, .int .u16 v], .bool nb, .tuple #[.int .u32 x, .bool ab], .pointer (some ⟨A, 0, none⟩), .slice (some ⟨b, off, none⟩) n cv, .int .i64 ↑j, .pointer (some ⟨b, off + j * 5, none⟩), .agg #[.int .u8 c, .int .u32 t, .int .u8 kk, .int .u8 y, .int .u16 v], .tuple #[.int .u32 x, .bool ab], .int .u32 x, .bool ab, .bool nb, .pointer (some ⟨B, 0, none⟩), .slice (some ⟨b, off, none⟩) n cv, .int .i64 ↑j, .pointer (some ⟨b, off + j * 5, none⟩), .agg #[.int .u8 c, .int .u32 t, .int .u8 kk, .int .u8 y, .int .u16 v], .bool nb, .bool false, .tuple #[.int .u32 x, .bool ab], .pointer (some ⟨A, 0, none⟩), .slice (some ⟨b, off, none⟩) n cv, .int .i64 ↑j, .pointer (some ⟨b, off + j * 5, none⟩), .agg #[.int .u8 c, .int .u32 t, .int .u8 kk, .int .u8 y, .int .u16 v], .tuple #[.int .u32 x, .bool ab], .int .u32 x, .bool ab, .tuple #[.int .u32 x, .bool ab], .pointer (some ⟨B, 0, none⟩), .slice (some ⟨b, off, none⟩) n cv, .int .i64 ↑j, .pointer (some ⟨b, off + j * 5, none⟩), .agg #[.int .u8 c, .int .u32 t, .int .u8 kk, .int .u8 y, .int .u16 v], .tuple #[.int .u32 x, .bool ab], .int .u32 x, .bool ab, .int .u32 x, .int .u32 x, .bool false, .bool false, .bool ab, .bool ab, .bool false, .bool false, .bool false, .int .u32 x, .int .u32 x, .bool false, .bool false, .bool false, .bool ab, .bool ab, .bool false, .bool false, .int .i64 ↑k, .bool true, u93, u94, .pointer (some ⟨A, 0, none⟩), .int .i64 ↑k, .slice a1 pl.length c1, u98, .pointer (some ⟨B, 0, none⟩), .int .i64 ↑k, .slice a2 pl.length c2, u102, u103, u104, u105, u106, u107, u108, u109, undef, undef, undef, undef, undef, undef, undef, undef, undef, undef, undef, undef, undef, undef, undef, undef, undef, undef, undef, undef, undef, undef, undef, undef, undef, undef, undef, undef, undef, undef, undef], defers := [] }) _ (B10.out) (fun hS => ?_)
            clear hK K
            refine wpAnyH_ready (rs := [3, 7]) (by kernel_rfl) (by simp) ?_
            refine AllReadyH.cons rfl (fun K hK => ?_) (AllReadyH.cons rfl (fun K hK => ?_) AllReadyH.nil)
            · rw [if_pos (by rfl)]
              go_simp
              refine hK.out ({ tmps := #[.slice (some ⟨b, off, none⟩) n cv, undef, u2, .pointer (some ⟨A, 0, none⟩), .pointer (some ⟨B, 0, none⟩), .slice ao j cap, .int .i64 ↑j, .bool nb, .int .u32 x, .bool ab, .int .u32 x, .bool ab, .int .u32 x, .bool ab, .int .i64 ↑k, undef, undef, undef, .bool true, .bool false, .slice (some ⟨b, off, none⟩) n cv, .int .i64 ↑n, .bool false, .pointer (some ⟨A, 0, none⟩), .agg Z, .pointer (some ⟨B, 0, none⟩), .int .i64 ↑j, .slice (some ⟨b, off, none⟩) n cv, .int .i64 ↑n, .bool true, u30, u31, .pointer (some ⟨A, 0, none⟩), .slice (some ⟨b, off, none⟩) n cv, .int .i64 ↑j, .pointer (some ⟨b, off + j * 5, none⟩), .agg #[.int .u8 c, .int .u32 t, .int .u8 kk, .int .u8 y, .int .u16 v], .bool nb, .tuple #[.int .u32 x, .bool ab], .pointer (some ⟨A, 0, none⟩), .slice (some ⟨b, off, none⟩) n cv, .int .i64 ↑j, .pointer (some ⟨b, off + j * 5, none⟩), .agg #[.int .u8 c, .int .u32 t, .int .u8 kk, .int .u8 y, .int .u16 v], .tuple #[.int .u32 x, .bool ab], .int .u32 x, .bool ab, .bool nb, .pointer (some ⟨B, 0, none⟩), .slice (some ⟨b, off, none⟩) n cv, .int .i64 ↑j, .pointer (some ⟨b, off + j * 5, none⟩), .agg #[.int .u8 c, .int .u32 t, .int .u8 kk, .int .u8 y, .int .u16 v], .bool nb, .bool false, .tuple #[.int .u32 x, .bool ab], .pointer (some ⟨A, 0, none⟩), .slice (some ⟨b, off, none⟩) n cv, .int .i64 ↑j, .pointer (some ⟨b, off + j * 5, none⟩), .agg #[.int .u8 c, .int .u32 t, .int .u8 kk, .int .u8 y, .int .u16 v], .tuple #[.int .u32 x, .bool ab], .int .u32 x, .bool ab, .tuple #[.int .u32 x, .bool ab], .pointer (some ⟨B, 0, none⟩), .slice (some ⟨b, off, none⟩) n cv, .int .i64 ↑j, .pointer (some ⟨b, off + j * 5, none⟩), .agg #[.int .u8 c, .int .u32 t, .int .u8 kk, .int .u8 y, .int .u16 v], .tuple #[.int .u32 x, .bool ab], .int .u32 x, .bool ab, .int .u32 x, .int .u32 x, .bool false, .bool false, .bool ab, .bool ab, .bool false, .bool false, .bool false, .int .u32 x, .int .u32 x, .bool false, .bool false, .bool false, .bool ab, .bool ab, .bool false, .bool false, .int .i64 ↑k, .bool true, u93, u94, .pointer (some ⟨A, 0, none⟩), .int .i64 ↑k, .slice a1 pl.length c1, .string (strOfNums pl), .pointer (some ⟨B, 0, none⟩), .int .i64 ↑k, .slice a2 pl.length c2, u102, u103, u104, u105, u106, u107, u108, u109, undef, undef, undef, undef, undef, undef, undef, undef, undef, undef, undef, undef, undef, undef, undef, undef, undef, undef, undef, undef, undef, undef, undef, undef, undef, undef, undef, undef, undef, undef, undef], defers := [] }) _ (B10.out) (fun hS => ?_)
              clear hK K
              refine wpAnyH_ready (rs := [7]) (by kernel_rfl) (by simp) ?_
              refine AllReadyH.cons rfl (fun K hK => ?_) AllReadyH.nil
              rw [if_pos (by rfl)]
              go_simp
              refine hK.out ({ tmps := #[.slice (some ⟨b, off, none⟩) n cv, undef, u2, .pointer (some ⟨A, 0, none⟩), .pointer (some ⟨B, 0, none⟩), .slice ao j cap, .int .i64 ↑j, .bool nb, .int .u32 x, .bool ab, .int .u32 x, .bool ab, .int .u32 x, .bool ab, .int .i64 ↑k, undef, undef, undef, .bool true, .bool false, .slice (some ⟨b, off, none⟩) n cv, .int .i64 ↑n, .bool false, .pointer (some ⟨A, 0, none⟩), .agg Z, .pointer (some ⟨B, 0, none⟩), .int .i64 ↑j, .slice (some ⟨b, off, none⟩) n cv, .int .i64 ↑n, .bool true, u30, u31, .pointer (some ⟨A, 0, none⟩), .slice (some ⟨b, off, none⟩) n cv, .int .i64 ↑j, .pointer (some ⟨b, off + j * 5, none⟩), .agg #[.int .u8 c, .int .u32 t, .int .u8 kk, .int .u8 y, .int .u16 v], .bool nb, .tuple #[.int .u32 x, .bool ab], .pointer (some ⟨A, 0, none⟩), .slice (some ⟨b, off, none⟩) n cv, .int .i64 ↑j, .pointer (some ⟨b, off + j * 5, none⟩), .agg #[.int .u8 c, .int .u32 t, .int .u8 kk, .int .u8 y, .int .u16 v], .tuple #[.int .u32 x, .bool ab], .int .u32 x, .bool ab, .bool nb, .pointer (some ⟨B, 0, none⟩), .slice (some ⟨b, off, none⟩) n cv, .int .i64 ↑j, .pointer (some ⟨b, off + j * 5, none⟩), .agg #[.int .u8 c, .int .u32 t, .int .u8 kk, .int .u8 y, .int .u16 v], .bool nb, .bool false, .tuple #[.int .u32 x, .bool ab], .pointer (some ⟨A, 0, none⟩), .slice (some ⟨b, off, none⟩) n cv, .int .i64 ↑j, .pointer (some ⟨b, off + j * 5, none⟩), .agg #[.int .u8 c, .int .u32 t, .int .u8 kk, .int .u8 y, .int .u16 v], .tuple #[.int .u32 x, .bool ab], .int .u32 x, .bool ab, .tuple #[.int .u32 x, .bool ab], .pointer (some ⟨B, 0, none⟩), .slice (some ⟨b, off, none⟩) n cv, .int .i64 ↑j, .pointer (some ⟨b, off + j * 5, none⟩), .agg #[.int .u8 c, .int .u32 t, .int .u8 kk, .int .u8 y, .int .u16 v], .tuple #[.int .u32 x, .bool ab], .int .u32 x, .bool ab, .int .u32 x, .int .u32 x, .bool false, .bool false, .bool ab, .bool ab, .bool false, .bool false, .bool false, .int .u32 x, .int .u32 x, .bool false, .bool false, .bool false, .bool ab, .bool ab, .bool false, .bool false, .int .i64 ↑k, .bool true, u93, u94, .pointer (some ⟨A, 0, none⟩), .int .i64 ↑k, .slice a1 pl.length c1, .string (strOfNums pl), .pointer (some ⟨B, 0, none⟩), .int .i64 ↑k, .slice a2 pl.length c2, .string (strOfNums pl), u103, u104, u105, u106, u107, u108, u109, undef, undef, undef, undef, undef, undef, undef, undef, undef, undef, undef, undef, undef, undef, undef, undef, undef, undef, undef, undef, undef, undef, undef, undef, undef, undef, undef, undef, undef, undef, undef], defers := [] }) _ (B10.out) (fun hS => ?_)
              clear hK K
              refine takeA (i := 8) (v := .bool false) ({ tmps := #[.slice (some ⟨b, off, none⟩) n cv, undef, u2, .pointer (some ⟨A, 0, none⟩), .pointer (some ⟨B, 0, none⟩), .slice ao j cap, .int .i64 ↑j, .bool nb, .int .u32 x, .bool ab, .int .u32 x, .bool ab, .int .u32 x, .bool ab, .int .i64 ↑k, undef, undef, undef, .bool true, .bool false, .slice (some ⟨b, off, none⟩) n cv, .int .i64 ↑n, .bool false, .pointer (some ⟨A, 0, none⟩), .agg Z, .pointer (some ⟨B, 0, none⟩), .int .i64 ↑j, .slice (some ⟨b, off, none⟩) n cv, .int .i64 ↑n, .bool true, u30, u31, .pointer (some ⟨A, 0, none⟩), .slice (some ⟨b, off, none⟩) n cv, .int .i64 ↑j, .pointer (some ⟨b, off + j * 5, none⟩), .agg #[.int .u8 c, .int .u32 t, .int .u8 kk, .int .u8 y, .int .u16 v], .bool nb, .tuple #[.int .u32 x, .bool ab], .pointer (some ⟨A, 0, none⟩), .slice (some ⟨b, off, none⟩) n cv, .int .i64 ↑j, .pointer (some ⟨b, off + j * 5, none⟩), .agg #[.int .u8 c, .int .u32 t, .int .u8 kk, .int .u8 y, .int .u16 v], .tuple #[.int .u32 x, .bool ab], .int .u32 x, .bool ab, .bool nb, .pointer (some ⟨B, 0, none⟩), .slice (some ⟨b, off, none⟩) n cv, .int .i64 ↑j, .pointer (some ⟨b, off + j * 5, none⟩), .agg #[.int .u8 c, .int .u32 t, .int .u8 kk, .int .u8 y, .int .u16 v], .bool nb, .bool false, .tuple #[.int .u32 x, .bool ab], .pointer (some ⟨A, 0, none⟩), .slice (some ⟨b, off, none⟩) n cv, .int .i64 ↑j, .pointer (some ⟨b, off + j * 5, none⟩), .agg #[.int .u8 c, .int .u32 t, .int .u8 kk, .int .u8 y, .int .u16 v], .tuple #[.int .u32 x, .bool ab], .int .u32 x, .bool ab, .tuple #[.int .u32 x, .bool ab], .pointer (some ⟨B, 0, none⟩), .slice (some ⟨b, off, none⟩) n cv, .int .i64 ↑j, .pointer (some ⟨b, off + j * 5, none⟩), .agg #[.int .u8 c, .int .u32 t, .int .u8 kk, .int .u8 y, .int .u16 v], .tuple #[.int .u32 x, .bool ab], .int .u32 x, .bool ab, .int .u32 x, .int .u32 x, .bool false, .bool false, .bool ab, .bool ab, .bool false, .bool false, .bool false, .int .u32 x, .int .u32 x, .bool false, .bool false, .bool false, .bool ab, .bool ab, .bool false, .bool false, .int .i64 ↑k, .bool true, u93, u94, .pointer (some ⟨A, 0, none⟩), .int .i64 ↑k, .slice a1 pl.length c1, .string (strOfNums pl), .pointer (some ⟨B, 0, none⟩), .int .i64 ↑k, .slice a2 pl.length c2, .string (strOfNums pl), .bool false, u104, u105, u106, u107, u108, u109, undef, undef, undef, undef, undef, undef, undef, undef, undef, undef, undef, undef, undef, undef, undef, undef, undef, undef, undef, undef, undef, undef, undef, undef, undef, undef, undef, undef, undef, undef, undef], defers := [] }) rfl (by kernel_rfl) (by kernel_rfl) (by kernel_rfl) (fun _ _ _ h => h) (.inl ⟨rfl, fun _ _ => by go_simp⟩) hS rfl ?_
              refine wpAnyH_done (by kernel_rfl) ?_ _
              clear hS
              go_wp2_with fail
              exact ⟨⟨k + 1, by go_num, by omega, Lib.hid (J.out.below B10.out)⟩, by simp [intOf]; omega⟩
            · rw [if_pos (by rfl)]
              go_simp
              refine hK.out ({ tmps := #[.slice (some ⟨b, off, none⟩) n cv, undef, u2, .pointer (some ⟨A, 0, none⟩), .pointer (some ⟨B, 0, none⟩), .slice ao j cap, .int .i64 ↑j, .bool nb, .int .u32 x, .bool ab, .int .u32 x, .bool ab, .int .u32 x, .bool ab, .int .i64 ↑k, undef, undef, undef, .bool true, .bool false, .slice (some ⟨b, off, none⟩) n cv, .int .i64 ↑n, .bool false, .pointer (some ⟨A, 0, none⟩), .agg Z, .pointer (some ⟨B, 0, none⟩), .int .i64 ↑j, .slice (some ⟨b, off, none⟩) n cv, .int .i64 ↑n, .bool true, u30, u31, .pointer (some ⟨A, 0, none⟩), .slice (some ⟨b, off, none⟩) n cv, .int .i64 ↑j, .pointer (some ⟨b, off + j * 5, none⟩), .agg #[.int .u8 c, .int .u32 t, .int .u8 kk, .int .u8 y, .int .u16 v], .bool nb, .tuple #[.int .u32 x, .bool ab], .pointer (some ⟨A, 0, none⟩), .slice (some ⟨b, off, none⟩) n cv, .int .i64 ↑j, .pointer (some ⟨b, off + j * 5, none⟩), .agg #[.int .u8 c, .int .u32 t, .int .u8 kk, .int .u8 y, .int .u16 v], .tuple #[.int .u32 x, .bool ab], .int .u32 x, .bool ab, .bool nb, .pointer (some ⟨B, 0, none⟩), .slice (some ⟨b, off, none⟩) n cv, .int .i64 ↑j, .pointer (some ⟨b, off + j * 5, none⟩), .agg #[.int .u8 c, .int .u32 t, .int .u8 kk, .int .u8 y, .int .u16 v], .bool nb, .bool false, .tuple #[.int .u32 x, .bool ab], .pointer (some ⟨A, 0, none⟩), .slice (some ⟨b, off, none⟩) n cv, .int .i64 ↑j, .pointer (some ⟨b, off + j * 5, none⟩), .agg #[.int .u8 c, .int .u32 t, .int .u8 kk, .int .u8 y, .int .u16 v], .tuple #[.int .u32 x, .bool ab], .int .u32 x, .bool ab, .tuple #[.int .u32 x, .bool ab], .pointer (some ⟨B, 0, none⟩), .slice (some ⟨b, off, none⟩) n cv, .int .i64 ↑j, .pointer (some ⟨b, off + j * 5, none⟩), .agg #[.int .u8 c, .int .u32 t, .int .u8 kk, .int .u8 y, .int .u16 v], .tuple #[.int .u32 x, .bool ab], .int .u32 x, .bool ab, .int .u32 x, .int .u32 x, .bool false, .bool false, .bool ab, .bool ab, .bool false, .bool false, .bool false, .int .u32 x, .int .u32 x, .bool false, .bool false, .bool false, .bool ab, .bool ab, .bool false, .bool false, .int .i64 ↑k, .bool true, u93, u94, .pointer (some ⟨A, 0, none⟩), .int .i64 ↑k, .slice a1 pl.length c1, u98, .pointer (some ⟨B, 0, none⟩), .int .i64 ↑k, .slice a2 pl.length c2, .string (strOfNums pl), u103, u104, u105, u106, u107, u108, u109, undef, undef, undef, undef, undef, undef, undef, undef, undef, undef, undef, undef, undef, undef, undef, undef, undef, undef, undef, undef, undef, undef, undef, undef, undef, undef, undef, undef, undef, undef, undef], defers := [] }) _ (B10.out) (fun hS => ?_)
              clear hK K
              refine wpAnyH_ready (rs := [3]) (by kernel_rfl) (by simp) ?_
              refine AllReadyH.cons rfl (fun K hK => ?_) AllReadyH.nil
              rw [if_pos (by rfl)]
              go_simp
              refine hK.out ({ tmps := #[.slice (some ⟨b, off, none⟩) n cv, undef, u2, .pointer (some ⟨A, 0, none⟩), .pointer (some ⟨B, 0, none⟩), .slice ao j cap, .int .i64 ↑j, .bool nb, .int .u32 x, .bool ab, .int .u32 x, .bool ab, .int .u32 x, .bool ab, .int .i64 ↑k, undef, undef, undef, .bool true, .bool false, .slice (some ⟨b, off, none⟩) n cv, .int .i64 ↑n, .bool false, .pointer (some ⟨A, 0, none⟩), .agg Z, .pointer (some ⟨B, 0, none⟩), .int .i64 ↑j, .slice (some ⟨b, off, none⟩) n cv, .int .i64 ↑n, .bool true, u30, u31, .pointer (some ⟨A, 0, none⟩), .slice (some ⟨b, off, none⟩) n cv, .int .i64 ↑j, .pointer (some ⟨b, off + j * 5, none⟩), .agg #[.int .u8 c, .int .u32 t, .int .u8 kk, .int .u8 y, .int .u16 v], .bool nb, .tuple #[.int .u32 x, .bool ab], .pointer (some ⟨A, 0, none⟩), .slice (some ⟨b, off, none⟩) n cv, .int .i64 ↑j, .pointer (some ⟨b, off + j * 5, none⟩), .agg #[.int .u8 c, .int .u32 t, .int .u8 kk, .int .u8 y, .int .u16 v], .tuple #[.int .u32 x, .bool ab], .int .u32 x, .bool ab, .bool nb, .pointer (some ⟨B, 0, none⟩), .slice (some ⟨b, off, none⟩) n cv, .int .i64 ↑j, .pointer (some ⟨b, off + j * 5, none⟩), .agg #[.int .u8 c, .int .u32 t, .int .u8 kk, .int .u8 y, .int .u16 v], .bool nb, .bool false, .tuple #[.int .u32 x, .bool ab], .pointer (some ⟨A, 0, none⟩), .slice (some ⟨b, off, none⟩) n cv, .int .i64 ↑j, .pointer (some ⟨b, off + j * 5, none⟩), .agg #[.int .u8 c, .int .u32 t, .int .u8 kk, .int .u8 y, .int .u16 v], .tuple #[.int .u32 x, .bool ab], .int .u32 x, .bool ab, .tuple #[.int .u32 x, .bool ab], .pointer (some ⟨B, 0, none⟩), .slice (some ⟨b, off, none⟩) n cv, .int .i64 ↑j, .pointer (some ⟨b, off + j * 5, none⟩), .agg #[.int .u8 c, .int .u32 t, .int .u8 kk, .int .u8 y, .int .u16 v], .tuple #[.int .u32 x, .bool ab], .int .u32 x, .bool ab, .int .u32 x, .int .u32 x, .bool false, .bool false, .bool ab, .bool ab, .bool false, .bool false, .bool false, .int .u32 x, .int .u32 x, .bool false, .bool false, .bool false, .bool ab, .bool ab, .bool false, .bool false, .int .i64 ↑k, .bool true, u93, u94, .pointer (some ⟨A, 0, none⟩), .int .i64 ↑k, .slice a1 pl.length c1, .string (strOfNums pl), .pointer (some ⟨B, 0, none⟩), .int .i64 ↑k, .slice a2 pl.length c2, .string (strOfNums pl), u103, u104, u105, u106, u107, u108, u109, undef, undef, undef, undef, undef, undef, undef, undef, undef, undef, undef, undef, undef, undef, undef, undef, undef, undef, undef, undef, undef, undef, undef, undef, undef, undef, undef, undef, undef, undef, undef], defers := [] }) _ (B10.out) (fun hS => ?_)
              clear hK K
              refine takeA (i := 8) (v := .bool false) ({ tmps := #[.slice (some ⟨b, off, none⟩) n cv, undef, u2, .pointer (some ⟨A, 0, none⟩), .pointer (some ⟨B, 0, none⟩), .slice ao j cap, .int .i64 ↑j, .bool nb, .int .u32 x, .bool ab, .int .u32 x, .bool ab, .int .u32 x, .bool ab, .int .i64 ↑k, undef, undef, undef, .bool true, .bool false, .slice (some ⟨b, off, none⟩) n cv, .int .i64 ↑n, .bool false, .pointer (some ⟨A, 0, none⟩), .agg Z, .pointer (some ⟨B, 0, none⟩), .int .i64 ↑j, .slice (some ⟨b, off, none⟩) n cv, .int .i64 ↑n, .bool true, u30, u31, .pointer (some ⟨A, 0, none⟩), .slice (some ⟨b, off, none⟩) n cv, .int .i64 ↑j, .pointer (some ⟨b, off + j * 5, none⟩), .agg #[.int .u8 c, .int .u32 t, .int .u8 kk, .int .u8 y, .int .u16 v], .bool nb, .tuple #[.int .u32 x, .bool ab], .pointer (some ⟨A, 0, none⟩), .slice (some ⟨b, off, none⟩) n cv, .int .i64 ↑j, .pointer (some ⟨b, off + j * 5, none⟩), .agg #[.int .u8 c, .int .u32 t, .int .u8 kk, .int .u8 y, .int .u16 v], .tuple #[.int .u32 x, .bool ab], .int .u32 x, .bool ab, .bool nb, .pointer (some ⟨B, 0, none⟩), .slice (some ⟨b, off, none⟩) n cv, .int .i64 ↑j, .pointer (some ⟨b, off + j * 5, none⟩), .agg #[.int .u8 c, .int .u32 t, .int .u8 kk, .int .u8 y, .int .u16 v], .bool nb, .bool false, .tuple #[.int .u32 x, .bool ab], .pointer (some ⟨A, 0, none⟩), .slice (some ⟨b, off, none⟩) n cv, .int .i64 ↑j, .pointer (some ⟨b, off + j * 5, none⟩), .agg #[.int .u8 c, .int .u32 t, .int .u8 kk, .int .u8 y, .int .u16 v], .tuple #[.int .u32 x, .bool ab], .int .u32 x, .bool ab, .tuple #[.int .u32 x, .bool ab], .pointer (some ⟨B, 0, none⟩), .slice (some ⟨b, off, none⟩) n cv, .int .i64 ↑j, .pointer (some ⟨b, off + j * 5, none⟩), .agg #[.int .u8 c, .int .u32 t, .int .u8 kk, .int .u8 y, .int .u16 v], .tuple #[.int .u32 x, .bool ab], .int .u32 x, .bool ab, .int .u32 x, .int .u32 x, .bool false, .bool false, .bool ab, .bool ab, .bool false, .bool false, .bool false, .int .u32 x, .int .u32 x, .bool false, .bool false, .bool false, .bool ab, .bool ab, .bool false, .bool false, .int .i64 ↑k, .bool true, u93, u94, .pointer (some ⟨A, 0, none⟩), .int .i64 ↑k, .slice a1 pl.length c1, .string (strOfNums pl), .pointer (some ⟨B, 0, none⟩), .int .i64 ↑k, .slice a2 pl.length c2, .string (strOfNums pl), .bool false, u104, u105, u106, u107, u108, u109, undef, undef, undef, undef, undef, undef, undef, undef, undef, undef, undef, undef, undef, undef, undef, undef, undef, undef, undef, undef, undef, undef, undef, undef, undef, undef, undef, undef, undef, undef, undef], defers := [] }) rfl (by kernel_rfl) (by kernel_rfl) (by kernel_rfl) (fun _ _ _ h => h) (.inl ⟨rfl, fun _ _ => by go_simp⟩) hS rfl ?_
              refine wpAnyH_done (by kernel_rfl) ?_ _
              clear hS
              go_wp2_with fail
              exact ⟨⟨k + 1, by go_num, by omega, Lib.hid (J.out.below B10.out)⟩, by simp [intOf]; omega⟩
        · obtain rfl : k = 8 := by omega
          by_cases hb : ab = true
          · subst hb
            go_upto_region 25 with fail
            refine wp_region_lit ?_
            refine wv (.slice ao j cap) wr (by go_simp) ?_
            refine wv (.int .u32 x) wr (by go_simp) ?_
            refine wv (.slice (some ⟨wr.heap.size, 0, none⟩) 1 1) (wr.alloc (.cells #[.int .u32 x] 29)) (by go_simp) ?_
            have RA := Lib.hid (row_new1' wr 1 u32c x 29 #[.int .u32 x] rfl)
            have b11 : Below wr.heap.size wr (wr.alloc (.cells #[.int .u32 x] 29)) := (Below.refl _ _).alloc (Nat.le_refl _) _
            have M11 := Lib.hid (J.out.below b11)
            have hAz : A < wr.heap.size ∧ B < wr.heap.size := ⟨J.out.1.1.lt, J.out.2.1.lt⟩
            have hwz : w.heap.size ≤ wr.heap.size := J.out.1.2.2.1.size
            obtain ⟨i0, hinfo⟩ := info_parts info29
            obtain ⟨hi, hz0, hz1, hz2⟩ := hinfo
            refine wpList_appR u32c 1 33 29 4 i0 _ _ rfl (.tmp 106) (.tmp 108) rfl Try.underlying33 hi hz0 hz1 hz2 rfl (by decide) (by decide) (.slice ao j cap) j ((outs l j).flatMap u32c) rfl M11.out.2.2.2.2.1 (some ⟨wr.heap.size, 0, none⟩) 1 1 [x] rfl RA.out (fun _ _ => rfl) (fun z _ u hu => by simp only [u32c, List.mem_singleton] at hu; subst hu; rfl) (by omega) (by decide) ?_
            intro ao' cap' w12 ho hk12 hgr
            have HG : ∀ g, (Value.slice ao' (j + 1) cap').ownBlock = some g → w.heap.size ≤ g ∧ g ≠ A ∧ g ≠ B := fun g hgg => by
              rcases hgr with e | e
              · exact M11.out.2.2.2.2.2 g (by rw [← e]; exact hgg)
              · rw [hgg] at e
                injection e with e
                simp at e
                omega
            have KN2 : LJ w w12 A B s' s' (.slice ao' (j + 1) cap') (j + 1) (outs l (j + 1)) :=
              ⟨⟨Mp.kept M11.out.1.1 hk12 (fun e => (M11.out.2.2.2.2.2 A e.symm).2.1 rfl), M11.out.1.2.1, M11.out.1.2.2.1.trans (hk12.below M11.out.1.2.2.1.size (fun k e => (M11.out.2.2.2.2.2 k e.symm).1)), M11.out.1.2.2.2⟩,
                Rp.kept M11.out.2.1 hk12 (fun e => (M11.out.2.2.2.2.2 B e.symm).2.2 rfl), M11.out.2.2.1, M11.out.2.2.2.1, by rw [outs_next, HX.out.2.2.2.2.2.2.2.2.2]; have := ho; simpa [List.flatMap_append] using this, HG⟩
            rw [← HX.out.2.2.2.2.2.2.2.2.1] at KN2
            replace KN2 := Lib.hid KN2
            clear ho hk12 hgr hi hz0 hz1 hz2 RA M11 HG b11
            refine wv (.slice ao' (j + 1) cap') w12 (by go_simp) ?_
            dsimp only
            go_wp2_with fail
            exact ⟨⟨j + 1, ao', cap', by go_num, by go_num, by omega, KN2⟩, by simp [intOf]; omega⟩
          · obtain rfl : ab = false := by simpa using hb
            obtain rfl : x = 0 := by rw [HX.out.2.2.2.2.1]; exact ap_false HX.out.2.2.2.2.2.2.1
            go_upto_region 25 with fail
            refine wp_region_lit ?_
            refine wv (.slice ao j cap) wr (by go_simp) ?_
            refine wv (.int .u32 0) wr (by go_simp) ?_
            refine wv (.slice (some ⟨wr.heap.size, 0, none⟩) 1 1) (wr.alloc (.cells #[.int .u32 0] 29)) (by go_simp) ?_
            have RA := Lib.hid (row_new1' wr 1 u32c 0 29 #[.int .u32 0] rfl)
            have b11 : Below wr.heap.size wr (wr.alloc (.cells #[.int .u32 0] 29)) := (Below.refl _ _).alloc (Nat.le_refl _) _
            have M11 := Lib.hid (J.out.below b11)
            have hAz : A < wr.heap.size ∧ B < wr.heap.size := ⟨J.out.1.1.lt, J.out.2.1.lt⟩
            have hwz : w.heap.size ≤ wr.heap.size := J.out.1.2.2.1.size
            obtain ⟨i0, hinfo⟩ := info_parts info29
            obtain ⟨hi, hz0, hz1, hz2⟩ := hinfo
            refine wpList_appR u32c 1 33 29 4 i0 _ _ rfl (.tmp 106) (.tmp 108) rfl Try.underlying33 hi hz0 hz1 hz2 rfl (by decide) (by decide) (.slice ao j cap) j ((outs l j).flatMap u32c) rfl M11.out.2.2.2.2.1 (some ⟨wr.heap.size, 0, none⟩) 1 1 [0] rfl RA.out (fun _ _ => rfl) (fun z _ u hu => by simp only [u32c, List.mem_singleton] at hu; subst hu; rfl) (by omega) (by decide) ?_
            intro ao' cap' w12 ho hk12 hgr
            have HG : ∀ g, (Value.slice ao' (j + 1) cap').ownBlock = some g → w.heap.size ≤ g ∧ g ≠ A ∧ g ≠ B := fun g hgg => by
              rcases hgr with e | e
              · exact M11.out.2.2.2.2.2 g (by rw [← e]; exact hgg)
              · rw [hgg] at e
                injection e with e
                simp at e
                omega
            have KN2 : LJ w w12 A B s' s' (.slice ao' (j + 1) cap') (j + 1) (outs l (j + 1)) :=
              ⟨⟨Mp.kept M11.out.1.1 hk12 (fun e => (M11.out.2.2.2.2.2 A e.symm).2.1 rfl), M11.out.1.2.1, M11.out.1.2.2.1.trans (hk12.below M11.out.1.2.2.1.size (fun k e => (M11.out.2.2.2.2.2 k e.symm).1)), M11.out.1.2.2.2⟩,
                Rp.kept M11.out.2.1 hk12 (fun e => (M11.out.2.2.2.2.2 B e.symm).2.2 rfl), M11.out.2.2.1, M11.out.2.2.2.1, by rw [outs_next, HX.out.2.2.2.2.2.2.2.2.2]; have := ho; simpa [List.flatMap_append] using this, HG⟩
            rw [← HX.out.2.2.2.2.2.2.2.2.1] at KN2
            replace KN2 := Lib.hid KN2
            clear ho hk12 hgr hi hz0 hz1 hz2 RA M11 HG b11
            refine wv (.slice ao' (j + 1) cap') w12 (by go_simp) ?_
            dsimp only
            go_wp2_with fail
            exact ⟨⟨j + 1, ao', cap', by go_num, by go_num, by omega, KN2⟩, by simp [intOf]; omega⟩
    · obtain rfl : j = n := by omega
      have PL0 := play_any av j cv l w wr I.out.1.2.2.1 HR.out.1 HR.out.2.2.1 HR.out.2.1 HR.out.2.2.2
      have PL := Lib.hid PL0
      clear PL0
      go_wp2_with fail
      refine PL.out.mono ?_
      rintro e w4 ⟨A2, g, rfl, y4⟩
      have I4 := Lib.hid (I.out.below y4.1.2.2.1)
      have SA0 := same_any w4 A2 A (stS l j).V (stS l j).T (stS l j).R (stS l j).V (stS l j).T (stS l j).R y4.1.1 I4.out.1.1
      rw [same_self] at SA0
      have SA := Lib.hid SA0
      have Y4 := Lib.hid y4.2.1
      clear SA0 y4 I PL
      go_wp2_with fail
      refine SA.out.mono ?_
      rintro e w5 ⟨rfl, k5⟩
      have b5 : Below w4.heap.size w4 w5 := k5.below (Nat.le_refl _) (fun _ h => h.elim)
      have I5 := Lib.hid (And.intro (I4.out.below b5) (Y4.out.below b5))
      clear SA k5 b5 I4 Y4
      go_wp2_with fail
      go_loopw [17] (fun v17 wz => ∃ k : Nat, v17 = .int .i64 k ∧ k ≤ j ∧ Hid (Kept (fun _ => False) w5 wz)) (fun v17 _ => j - (intOf v17).toNat)
      case atStart => exact ⟨0, rfl, by omega, Lib.hid (Kept.refl _ _)⟩
      case round =>
        obtain ⟨k, rfl, hk, J⟩ := hrel
        by_cases hkj : k < j
        · have hkj' : (k : Int) < j := by omega
          have hk80 : (k : Int) < 80 := by have := HR.out.2.2.2; omega
          have bz : Below w5.heap.size w5 wr := J.out.below (Nat.le_refl _) (fun _ h => h.elim)
          have c1 := (I5.out.2.below bz).cell k hkj
          obtain ⟨g2, cap2, hv2, c2⟩ := u32_at (I5.out.1.below bz).2.2.2.2.1 (outs_at l j k hkj)
          injection hv2 with hv3 _ hv4
          subst hv3 hv4
          generalize outR l k = x at c1 c2
          clear bz
          go_wp2_with fail
          go_quiet (fail)
          have J2 := Lib.hid (J.out.drewN nq)
          go_wp2_with fail
          exact ⟨⟨k + 1, by go_num, by omega, J2⟩, by simp [intOf]; omega⟩
        · obtain rfl : k = j := by omega
          go_wp2_with fail
          go_ret
          exact ⟨rfl, I5.out.1.1.2.2.1.trans (J.out.below I5.out.1.1.2.2.1.size (fun _ h => h.elim))⟩

theorem open_rq {H : Type} {enc : TypeId × Value → H} {W : World} {n : Nat} {cs : List Value} {y : DataW H × List MemPlace} (hl : cs.length = 5) (h : DataW.trod enc Try.prog W 0 (fun _ => true) true n 38 cs = some y) : ∃ x : Rq, cs = x.cells ∧ x.ok := by
  have hc : Try.prog.cellsOf 38 = 5 := by kernel_rfl
  match cs, hl with
  | [x0, x1, x2, x3, x4], _ =>
    obtain ⟨n0, y0, v0, e0, t0⟩ := trod_leaf 4 (show leafAt Try.prog 4 38 0 = some 5 by kernel_rfl) h (by simp) (by rw [hc]; simp)
    obtain rfl : x0 = v0 := Option.some.inj e0
    obtain ⟨a0, q0, _, b0⟩ := DataW.trod_int Try.underlying5 t0
    injection q0 with q0
    subst q0
    obtain ⟨n1, y1, v1, e1, t1⟩ := trod_leaf 4 (show leafAt Try.prog 4 38 1 = some 29 by kernel_rfl) h (by simp) (by rw [hc]; simp)
    obtain rfl : x1 = v1 := Option.some.inj e1
    obtain ⟨a1, q1, _, b1⟩ := DataW.trod_int Try.underlying29 t1
    injection q1 with q1
    subst q1
    obtain ⟨n2, y2, v2, e2, t2⟩ := trod_leaf 4 (show leafAt Try.prog 4 38 2 = some 5 by kernel_rfl) h (by simp) (by rw [hc]; simp)
    obtain rfl : x2 = v2 := Option.some.inj e2
    obtain ⟨a2, q2, _, b2⟩ := DataW.trod_int Try.underlying5 t2
    injection q2 with q2
    subst q2
    obtain ⟨n3, y3, v3, e3, t3⟩ := trod_leaf 4 (show leafAt Try.prog 4 38 3 = some 5 by kernel_rfl) h (by simp) (by rw [hc]; simp)
    obtain rfl : x3 = v3 := Option.some.inj e3
    obtain ⟨a3, q3, _, b3⟩ := DataW.trod_int Try.underlying5 t3
    injection q3 with q3
    subst q3
    obtain ⟨n4, y4, v4, e4, t4⟩ := trod_leaf 4 (show leafAt Try.prog 4 38 4 = some 27 by kernel_rfl) h (by simp) (by rw [hc]; simp)
    obtain rfl : x4 = v4 := Option.some.inj e4
    obtain ⟨a4, q4, _, b4⟩ := DataW.trod_int Try.underlying27 t4
    injection q4 with q4
    subst q4
    refine ⟨⟨a0, a1, a2, a3, a4⟩, rfl, ?_⟩
    simp [Lit.wf, IntKind.min, IntKind.max, IntKind.signed, IntKind.bits] at b0 b1 b2 b3 b4
    exact ok_mk b0 b1 b2 b3 b4
instance : Inhabited Rq := ⟨Rq.zero⟩
theorem open_rqs {H : Type} {enc : TypeId × Value → H} {W : World} {n : Nat} {v : Value} {y : DataW H × List MemPlace} (h : DataW.trod enc Try.prog W 0 (fun _ => true) true n 22 [v] = some y) : ∃ xs : List Rq, RowU W 5 Rq.cells v xs ∧ ∀ x ∈ xs, x.ok :=
  open_row Rq.cells 5 (fun x => x.ok) Try.underlying22 (by kernel_rfl) (by decide) (fun _ _ _ h1 h2 => open_rq h1 h2) h

theorem walk (v : Value) (l : List Rq) (w : World) (hr : RowU w 5 Rq.cells v l) (hv : ∀ r ∈ l, r.ok) :
    Calls Try.prog 3 #[v] w fun e w' => e = .returned (.bool true) ∧ Below w.heap.size w w' := by
  obtain ⟨av, cv, rfl, hr2⟩ := id hr
  by_cases h1 : l.length ≤ 80
  · exact core av l l.length cv w hr hv rfl h1
  · have KN := Lib.hid (known_any w)
    have d1 : decide (80 < (l.length : Int)) = true := by rw [decide_eq_true_iff]; omega
    generalize l.length = n at *
    clear hr hr2 hv h1
    go_enter Try.func3, Try.ntmps3
    go_wp2_with fail
    refine KN.out.mono ?_
    rintro e w1 ⟨rfl, b1⟩
    replace b1 := Lib.hid b1
    go_wp2_with fail
    go_ret
    exact ⟨rfl, b1.out⟩


theorem lifted (os : Os) (started : os.Started) (H : Type) (enc : TypeId × Value → H) :
    ReturnsInHanded {} Try.checked os 3 .any (Rows.servicePlaysSpec.pre6 enc Try.prog Try.f3 Rows.servicePlaysRow.domain false) (Rows.servicePlaysSpec.post enc Try.prog Try.f3 false true false false) := by
  refine returnsInHanded_of_change (C := Try.checked) own started (by kernel_rfl) Try.func3
    (ChangeSpec.witness6 (enc := enc) (C := Try.checked) false ⟨#[], #[.slice none 0 0], []⟩ 8 (by kernel_rfl) (by kernel_rfl) (by kernel_rfl) (by kernel_rfl)) ?_
  intro W base args ds gs before hval0 hW hcnd _
  have hval : ∀ (j : Nat) t v, Try.f3.params[j]? = some t → args[j]? = some v → Value.okWide Try.prog W .any base t v := hval0
  have hW' := hW
  obtain ⟨p, q, hA0, hV, rfl, hfz, hnd⟩ := hW
  have hA : DataW.TrodAll enc Try.prog W 0 (fun _ => true) true Try.f3.params.toList args.toList ds p := hA0
  rw [Try.params3] at hA hval
  obtain ⟨v0, vs0, d0, ds0, p0, q0, hargs, rfl, rfl, h0, r0⟩ := trodAll_cons hA
  obtain ⟨rfl, rfl, rfl⟩ := trodAll_nil r0
  obtain rfl : args = #[v0] := by cases args; simp_all
  obtain ⟨rfl, rfl⟩ := trodVars_none hV
  have k0 := h0
  have lt0 : ∀ x ∈ p0, x.block < W.heap.size := by obtain ⟨m, hm⟩ := k0; exact DataW.trod_lt m _ _ _ hm
  obtain ⟨ax0, ln0, cx0, rfl⟩ := okWide_slice Try.underlying22 (hval 0 22 v0 rfl rfl)
  obtain ⟨fuel0, hf0⟩ := h0
  obtain ⟨l0, hr0, ok0⟩ := open_rqs (show DataW.trod enc Try.prog W 0 (fun _ => true) true fuel0 22 [.slice ax0 ln0 cx0] = _ from by simpa [Value.cells] using hf0)
  clear hA0 hval0
  refine (walk (.slice ax0 ln0 cx0) l0 W hr0 ok0).mono fun e W' ⟨he, bel⟩ => ?_
  subst he
  exact ⟨_, rfl, _, _, _, [], _, [], hW', trodAll_mk1 (shut_bool Try.underlying4 _), (trodAll_cons_mk (Below.trod laidOut (by kernel_rfl) (of_decide_eq_true (by kernel_rfl)) k0 bel lt0) trodAll_mk0), rfl, bel.frame _, fun h => by cases h⟩

theorem over : Rows.servicePlaysRow.holds Try.pinned (OpenSpec.ofChange Rows.servicePlaysSpec) :=
  OpenClaim.holds_of_wide 3 Try.f3 rfl rfl rfl rfl rfl rfl rfl ⟨rfl, rfl, rfl, rfl, rfl⟩ rfl rfl rfl rfl rfl (by kernel_rfl) Try.func3 (by kernel_rfl)
    (of_decide_eq_true (by kernel_rfl)) (by unfold Func.isWrapper; first | (rw [if_pos (by decide +kernel)]; kernel_rfl) | (rw [if_neg (by decide +kernel)]; exact ⟨rfl, rfl⟩))
    (fun os started H enc _ => lifted os started H enc)

theorem proved : Rows.ServicePlaysSaid := over
#print axioms proved
end Go.Proofs.Ytphakceboohbhaa.servicePlays
