/- Maps with the same pages have the same root, and the root of a copy does not change with the first map, for every input (MerkleSame). -/
import Derived.Test.YtfbcjigekmgbnaaRows
import Derived.Test.YtfbcjigekmgbnaaKno
import Derived.Test.YtfbcjigekmgbnaaPair
import Derived.Test.YtfbcjigekmgbnaaLst
import Derived.Test.YtfbcjigekmgbnaaHeld
import Derived.Test.YtfbcjigekmgbnaaOpen
import Derived.WalkKit
import Derived.ProofKit
import Derived.OpenShut
import Derived.ShutString
import Derived.ChangeOld
import Derived.Below
namespace Go.Proofs.Ytfbcjigekmgbnaa.merkleSame
open Go.ChangeShapes Go.WideShapes Go.ChangeAt Go.RowKit
set_option maxRecDepth 100000

theorem own : ownKnob Try.prog.godebug = none := by kernel_rfl
theorem laidOut : laidOutB Try.prog = true := by kernel_rfl

set_option maxHeartbeats 16000000 in
theorem core (ak : Option Addr) (l : List Int) (ck : Nat) (av : Option Addr) (vs : List Int) (cv : Nat) (w : World) (hb : Bytes w ak l) (hby : ∀ x ∈ l, isByte x)
    (hr : RowU w 1 u16c (.slice av vs.length cv) vs) (hv : ∀ x ∈ vs, 0 ≤ x ∧ x ≤ 65535) (h1 : l.length ≤ 60) (h2 : l.length ≤ vs.length) :
    Calls Try.prog 5 #[.slice ak l.length ck, .slice av vs.length cv] w fun e w' => e = .returned (.bool true) ∧ Below w.heap.size w w' := by
  have KN := Lib.hid (known_any w)
  have d1 : decide (60 < (l.length : Int)) = false := by rw [decide_eq_false_iff_not]; omega
  have HI := Lib.hid (And.intro hb (And.intro hby (And.intro hr hv)))
  obtain ⟨n, hn⟩ : ∃ n, n = l.length := ⟨_, rfl⟩
  obtain ⟨nv, hnv⟩ : ∃ nv, nv = vs.length := ⟨_, rfl⟩
  have d2 : n ≤ nv := by omega
  rw [← hn] at d1
  rw [← hn, ← hnv]
  have HN := Lib.hid (And.intro hn (And.intro hnv h2))
  have H60 := Lib.hid h1
  clear hb hby hr hv h1 h2 hn hnv
  go_enter Try.func5, Try.ntmps5
  go_wp2_with fail
  refine KN.out.mono ?_
  rintro e w1 ⟨rfl, b1⟩
  have NW := Lib.hid (map_new w1)
  have b2 : Below w.heap.size w (w1.alloc (.cells (mapL nul nul nul).toArray 66)) := b1.alloc b1.size _
  have hA := mp_new w1
  have hs1 : (w1.alloc (.cells (mapL nul nul nul).toArray 66)).heap.size = w1.heap.size + 1 := by simp
  obtain ⟨w2, hw2⟩ : ∃ w2, w2 = w1.alloc (.cells (mapL nul nul nul).toArray 66) := ⟨_, rfl⟩
  rw [← hw2] at b2 hA NW hs1
  have NW2 := Lib.hid (map_new w2)
  have hB := mp_new w2
  obtain ⟨w3, hw3⟩ : ∃ w3, w3 = w2.alloc (.cells (mapL nul nul nul).toArray 66) := ⟨_, rfl⟩
  have b3 : Below w2.heap.size w2 w3 := hw3 ▸ ((Below.refl _ _).alloc (Nat.le_refl _) _)
  rw [← hw3] at NW2 hB
  have K0 : BI w w3 w1.heap.size w2.heap.size nul (nul, nul) nul (nul, nul) :=
    ⟨hA.below b3 hA.lt, hB, good_nul, b2.trans (b3.mono b2.size), b1.size, b2.size, by omega⟩
  have K0 := Lib.hid K0
  clear b1 b2 hA hw2 hw3 b3 hB hs1
  go_wp2_with fail
  refine NW.out.mono ?_
  rintro e w4 ⟨rfl, rfl⟩
  go_wp2_with fail
  refine NW2.out.mono ?_
  rintro e w4 ⟨rfl, rfl⟩
  clear NW NW2 KN
  go_wp2_with fail
  generalize w1.heap.size = A at *
  generalize w2.heap.size = B at *
  go_loopw [7] (fun v7 wr => ∃ (j : Nat) (V : Nat → Int), v7 = .int .i64 j ∧ j ≤ n ∧ Hid (BI w wr A B V (nul, nul) nul (nul, nul))) (fun v7 _ => n - (intOf v7).toNat)
  case atStart => exact ⟨0, _, rfl, by omega, K0⟩
  case round =>
    obtain ⟨j, V, rfl, hj, I⟩ := hrel
    by_cases hjn : j < n
    · have hjn' : (j : Int) < n := by omega
      have hjv' : (j : Int) < nv := by have := HN.out; omega
      have hj60 : (j : Int) < 60 := by have := HN.out.1; have := H60.out; omega
      have hlt : j < l.length := by have := HN.out.1; omega
      have hlv : j < vs.length := by have := HN.out.2.1; have := HN.out.1; have := HN.out.2.2; omega
      obtain ⟨g, off, hao, hcell⟩ := bytes_at (bytes_below HI.out.1 I.out.2.2.2.1 (Nat.le_refl _)) (by omega)
      subst hao
      have hx := hcell j hlt
      have hx0 : isByte (l.getD j 0) := by
        rw [List.getD_eq_getElem?_getD, List.getElem?_eq_getElem hlt]
        exact HI.out.2.1 _ (List.getElem_mem hlt)
      generalize l.getD j 0 = x at hx hx0
      obtain ⟨kx, rfl⟩ : ∃ kx : Nat, x = kx := ⟨x.toNat, by unfold isByte at hx0; omega⟩
      obtain ⟨y, hy⟩ : ∃ y, vs[j]? = some y := ⟨_, List.getElem?_eq_getElem hlv⟩
      have hy0 : 0 ≤ y ∧ y ≤ 65535 := HI.out.2.2.2 _ (List.mem_of_getElem? hy)
      obtain ⟨g2, off2, hav, hyc⟩ := row_cell HI.out.2.2.1 (Kept.ofBelow (S := fun _ => False) I.out.2.2.2.1) hy rfl
      subst hav
      have hgA : g ≠ A := by
        intro e
        have := bytes_lt HI.out.1 (by omega)
        have := I.out.2.2.2.2.1
        simp only at *
        omega
      have hg2A : g2 ≠ A := by
        obtain ⟨_, _, e1, _, _, _, q⟩ := HI.out.2.2.1
        injection e1 with e1 _ _
        obtain ⟨b', o', e2, q2⟩ := q j y hy
        rw [← e1] at e2
        injection e2 with e2
        injection e2 with e2 _ _
        have := cell_block (q2 0 _ rfl)
        have := I.out.2.2.2.2.1
        simp only at *
        omega
      have HJ := Lib.hid (And.intro hlt (And.intro hlv (And.intro hy (And.intro hx0 (And.intro hy0 (And.intro hgA hg2A))))))
      have BD := Lib.hid (And.intro hx hyc)
      clear hlt hlv hcell hx hx0 hy hy0 hyc hgA hg2A
      have P := Lib.hid (put_any wr.drew A kx y V nul nul I.out.drew.1)
      go_wp2_with fail
      refine wp_region_held_drew (S := fun wx => wx.cell? ⟨g, off + j, none⟩ = some (.int .u8 kx) ∧ wx.cell? ⟨g2, off2 + j, none⟩ = some (.int .u16 y)) (by kernel_rfl) (BD.out) (fun hS => ?_)
      refine takeA (i := 0) (v := .pointer (some ⟨A, 0, none⟩)) ({ tmps := #[.slice (some ⟨g, off, none⟩) n ck, .slice (some ⟨g2, off2, none⟩) nv cv, undef, undef, .bool false, .pointer (some ⟨A, 0, none⟩), .pointer (some ⟨B, 0, none⟩), .int .i64 ↑j, undef, undef, undef, .bool true, .bool false, .slice (some ⟨g, off, none⟩) n ck, .int .i64 ↑n, .bool false, .bool false, .slice (some ⟨g2, off2, none⟩) nv cv, .int .i64 ↑nv, .slice (some ⟨g, off, none⟩) n ck, .int .i64 ↑n, .bool false, .bool false, .pointer (some ⟨A, 0, none⟩), .pointer (some ⟨B, 0, none⟩), .int .i64 ↑j, .slice (some ⟨g, off, none⟩) n ck, .int .i64 ↑n, .bool true, u29, u30, .pointer (some ⟨A, 0, none⟩), u32, u33, u34, u35, u36, u37, u38, u39, u40, undef, undef, undef, undef, undef, undef, undef, undef, undef, undef, undef, undef, undef, undef, undef, undef, undef, undef, undef, undef, undef, undef, undef, undef, undef, undef, undef, undef, undef, undef, undef, undef, undef, undef, undef, undef, undef, undef, undef, undef, undef, undef, undef, undef, undef, undef, undef, undef, undef, undef, undef, undef, undef, undef, undef, undef], defers := [] }) rfl (by kernel_rfl) (by kernel_rfl) (by kernel_rfl) (fun _ _ _ h => h) (.inl ⟨rfl, fun _ _ => rfl⟩) hS rfl ?_
      refine takeA (i := 1) (v := .slice (some ⟨g, off, none⟩) n ck) ({ tmps := #[.slice (some ⟨g, off, none⟩) n ck, .slice (some ⟨g2, off2, none⟩) nv cv, undef, undef, .bool false, .pointer (some ⟨A, 0, none⟩), .pointer (some ⟨B, 0, none⟩), .int .i64 ↑j, undef, undef, undef, .bool true, .bool false, .slice (some ⟨g, off, none⟩) n ck, .int .i64 ↑n, .bool false, .bool false, .slice (some ⟨g2, off2, none⟩) nv cv, .int .i64 ↑nv, .slice (some ⟨g, off, none⟩) n ck, .int .i64 ↑n, .bool false, .bool false, .pointer (some ⟨A, 0, none⟩), .pointer (some ⟨B, 0, none⟩), .int .i64 ↑j, .slice (some ⟨g, off, none⟩) n ck, .int .i64 ↑n, .bool true, u29, u30, .pointer (some ⟨A, 0, none⟩), .slice (some ⟨g, off, none⟩) n ck, u33, u34, u35, u36, u37, u38, u39, u40, undef, undef, undef, undef, undef, undef, undef, undef, undef, undef, undef, undef, undef, undef, undef, undef, undef, undef, undef, undef, undef, undef, undef, undef, undef, undef, undef, undef, undef, undef, undef, undef, undef, undef, undef, undef, undef, undef, undef, undef, undef, undef, undef, undef, undef, undef, undef, undef, undef, undef, undef, undef, undef, undef, undef, undef], defers := [] }) rfl (by kernel_rfl) (by kernel_rfl) (by kernel_rfl) (fun _ _ _ h => h) (.inl ⟨rfl, fun _ _ => rfl⟩) hS rfl ?_
      refine takeA (i := 2) (v := .int .i64 ↑j) ({ tmps := #[.slice (some ⟨g, off, none⟩) n ck, .slice (some ⟨g2, off2, none⟩) nv cv, undef, undef, .bool false, .pointer (some ⟨A, 0, none⟩), .pointer (some ⟨B, 0, none⟩), .int .i64 ↑j, undef, undef, undef, .bool true, .bool false, .slice (some ⟨g, off, none⟩) n ck, .int .i64 ↑n, .bool false, .bool false, .slice (some ⟨g2, off2, none⟩) nv cv, .int .i64 ↑nv, .slice (some ⟨g, off, none⟩) n ck, .int .i64 ↑n, .bool false, .bool false, .pointer (some ⟨A, 0, none⟩), .pointer (some ⟨B, 0, none⟩), .int .i64 ↑j, .slice (some ⟨g, off, none⟩) n ck, .int .i64 ↑n, .bool true, u29, u30, .pointer (some ⟨A, 0, none⟩), .slice (some ⟨g, off, none⟩) n ck, .int .i64 ↑j, u34, u35, u36, u37, u38, u39, u40, undef, undef, undef, undef, undef, undef, undef, undef, undef, undef, undef, undef, undef, undef, undef, undef, undef, undef, undef, undef, undef, undef, undef, undef, undef, undef, undef, undef, undef, undef, undef, undef, undef, undef, undef, undef, undef, undef, undef, undef, undef, undef, undef, undef, undef, undef, undef, undef, undef, undef, undef, undef, undef, undef, undef, undef], defers := [] }) rfl (by kernel_rfl) (by kernel_rfl) (by kernel_rfl) (fun _ _ _ h => h) (.inl ⟨rfl, fun _ _ => rfl⟩) hS rfl ?_
      refine takeA (i := 3) (v := .pointer (some ⟨g, off + j, none⟩)) ({ tmps := #[.slice (some ⟨g, off, none⟩) n ck, .slice (some ⟨g2, off2, none⟩) nv cv, undef, undef, .bool false, .pointer (some ⟨A, 0, none⟩), .pointer (some ⟨B, 0, none⟩), .int .i64 ↑j, undef, undef, undef, .bool true, .bool false, .slice (some ⟨g, off, none⟩) n ck, .int .i64 ↑n, .bool false, .bool false, .slice (some ⟨g2, off2, none⟩) nv cv, .int .i64 ↑nv, .slice (some ⟨g, off, none⟩) n ck, .int .i64 ↑n, .bool false, .bool false, .pointer (some ⟨A, 0, none⟩), .pointer (some ⟨B, 0, none⟩), .int .i64 ↑j, .slice (some ⟨g, off, none⟩) n ck, .int .i64 ↑n, .bool true, u29, u30, .pointer (some ⟨A, 0, none⟩), .slice (some ⟨g, off, none⟩) n ck, .int .i64 ↑j, .pointer (some ⟨g, off + j, none⟩), u35, u36, u37, u38, u39, u40, undef, undef, undef, undef, undef, undef, undef, undef, undef, undef, undef, undef, undef, undef, undef, undef, undef, undef, undef, undef, undef, undef, undef, undef, undef, undef, undef, undef, undef, undef, undef, undef, undef, undef, undef, undef, undef, undef, undef, undef, undef, undef, undef, undef, undef, undef, undef, undef, undef, undef, undef, undef, undef, undef, undef, undef], defers := [] }) rfl (by kernel_rfl) (by kernel_rfl) (by kernel_rfl) (fun _ _ _ h => h) (.inl ⟨rfl, fun _ _ => by go_simp⟩) hS rfl ?_
      refine takeA (i := 4) (v := .int .u8 ↑kx) ({ tmps := #[.slice (some ⟨g, off, none⟩) n ck, .slice (some ⟨g2, off2, none⟩) nv cv, undef, undef, .bool false, .pointer (some ⟨A, 0, none⟩), .pointer (some ⟨B, 0, none⟩), .int .i64 ↑j, undef, undef, undef, .bool true, .bool false, .slice (some ⟨g, off, none⟩) n ck, .int .i64 ↑n, .bool false, .bool false, .slice (some ⟨g2, off2, none⟩) nv cv, .int .i64 ↑nv, .slice (some ⟨g, off, none⟩) n ck, .int .i64 ↑n, .bool false, .bool false, .pointer (some ⟨A, 0, none⟩), .pointer (some ⟨B, 0, none⟩), .int .i64 ↑j, .slice (some ⟨g, off, none⟩) n ck, .int .i64 ↑n, .bool true, u29, u30, .pointer (some ⟨A, 0, none⟩), .slice (some ⟨g, off, none⟩) n ck, .int .i64 ↑j, .pointer (some ⟨g, off + j, none⟩), .int .u8 ↑kx, u36, u37, u38, u39, u40, undef, undef, undef, undef, undef, undef, undef, undef, undef, undef, undef, undef, undef, undef, undef, undef, undef, undef, undef, undef, undef, undef, undef, undef, undef, undef, undef, undef, undef, undef, undef, undef, undef, undef, undef, undef, undef, undef, undef, undef, undef, undef, undef, undef, undef, undef, undef, undef, undef, undef, undef, undef, undef, undef, undef, undef], defers := [] }) rfl (by kernel_rfl) (by kernel_rfl) (by kernel_rfl) (fun _ _ _ h => h) (yi_load 5 _ (.pointer (some ⟨g, off + j, none⟩)) rfl rfl rfl (fun w hw => by have q := hw.1; go_simp)) hS rfl ?_
      refine takeA (i := 5) (v := .slice (some ⟨g2, off2, none⟩) nv cv) ({ tmps := #[.slice (some ⟨g, off, none⟩) n ck, .slice (some ⟨g2, off2, none⟩) nv cv, undef, undef, .bool false, .pointer (some ⟨A, 0, none⟩), .pointer (some ⟨B, 0, none⟩), .int .i64 ↑j, undef, undef, undef, .bool true, .bool false, .slice (some ⟨g, off, none⟩) n ck, .int .i64 ↑n, .bool false, .bool false, .slice (some ⟨g2, off2, none⟩) nv cv, .int .i64 ↑nv, .slice (some ⟨g, off, none⟩) n ck, .int .i64 ↑n, .bool false, .bool false, .pointer (some ⟨A, 0, none⟩), .pointer (some ⟨B, 0, none⟩), .int .i64 ↑j, .slice (some ⟨g, off, none⟩) n ck, .int .i64 ↑n, .bool true, u29, u30, .pointer (some ⟨A, 0, none⟩), .slice (some ⟨g, off, none⟩) n ck, .int .i64 ↑j, .pointer (some ⟨g, off + j, none⟩), .int .u8 ↑kx, .slice (some ⟨g2, off2, none⟩) nv cv, u37, u38, u39, u40, undef, undef, undef, undef, undef, undef, undef, undef, undef, undef, undef, undef, undef, undef, undef, undef, undef, undef, undef, undef, undef, undef, undef, undef, undef, undef, undef, undef, undef, undef, undef, undef, undef, undef, undef, undef, undef, undef, undef, undef, undef, undef, undef, undef, undef, undef, undef, undef, undef, undef, undef, undef, undef, undef, undef, undef], defers := [] }) rfl (by kernel_rfl) (by kernel_rfl) (by kernel_rfl) (fun _ _ _ h => h) (.inl ⟨rfl, fun _ _ => rfl⟩) hS rfl ?_
      refine takeA (i := 6) (v := .int .i64 ↑j) ({ tmps := #[.slice (some ⟨g, off, none⟩) n ck, .slice (some ⟨g2, off2, none⟩) nv cv, undef, undef, .bool false, .pointer (some ⟨A, 0, none⟩), .pointer (some ⟨B, 0, none⟩), .int .i64 ↑j, undef, undef, undef, .bool true, .bool false, .slice (some ⟨g, off, none⟩) n ck, .int .i64 ↑n, .bool false, .bool false, .slice (some ⟨g2, off2, none⟩) nv cv, .int .i64 ↑nv, .slice (some ⟨g, off, none⟩) n ck, .int .i64 ↑n, .bool false, .bool false, .pointer (some ⟨A, 0, none⟩), .pointer (some ⟨B, 0, none⟩), .int .i64 ↑j, .slice (some ⟨g, off, none⟩) n ck, .int .i64 ↑n, .bool true, u29, u30, .pointer (some ⟨A, 0, none⟩), .slice (some ⟨g, off, none⟩) n ck, .int .i64 ↑j, .pointer (some ⟨g, off + j, none⟩), .int .u8 ↑kx, .slice (some ⟨g2, off2, none⟩) nv cv, .int .i64 ↑j, u38, u39, u40, undef, undef, undef, undef, undef, undef, undef, undef, undef, undef, undef, undef, undef, undef, undef, undef, undef, undef, undef, undef, undef, undef, undef, undef, undef, undef, undef, undef, undef, undef, undef, undef, undef, undef, undef, undef, undef, undef, undef, undef, undef, undef, undef, undef, undef, undef, undef, undef, undef, undef, undef, undef, undef, undef, undef, undef], defers := [] }) rfl (by kernel_rfl) (by kernel_rfl) (by kernel_rfl) (fun _ _ _ h => h) (.inl ⟨rfl, fun _ _ => rfl⟩) hS rfl ?_
      refine takeA (i := 7) (v := .pointer (some ⟨g2, off2 + j, none⟩)) ({ tmps := #[.slice (some ⟨g, off, none⟩) n ck, .slice (some ⟨g2, off2, none⟩) nv cv, undef, undef, .bool false, .pointer (some ⟨A, 0, none⟩), .pointer (some ⟨B, 0, none⟩), .int .i64 ↑j, undef, undef, undef, .bool true, .bool false, .slice (some ⟨g, off, none⟩) n ck, .int .i64 ↑n, .bool false, .bool false, .slice (some ⟨g2, off2, none⟩) nv cv, .int .i64 ↑nv, .slice (some ⟨g, off, none⟩) n ck, .int .i64 ↑n, .bool false, .bool false, .pointer (some ⟨A, 0, none⟩), .pointer (some ⟨B, 0, none⟩), .int .i64 ↑j, .slice (some ⟨g, off, none⟩) n ck, .int .i64 ↑n, .bool true, u29, u30, .pointer (some ⟨A, 0, none⟩), .slice (some ⟨g, off, none⟩) n ck, .int .i64 ↑j, .pointer (some ⟨g, off + j, none⟩), .int .u8 ↑kx, .slice (some ⟨g2, off2, none⟩) nv cv, .int .i64 ↑j, .pointer (some ⟨g2, off2 + j, none⟩), u39, u40, undef, undef, undef, undef, undef, undef, undef, undef, undef, undef, undef, undef, undef, undef, undef, undef, undef, undef, undef, undef, undef, undef, undef, undef, undef, undef, undef, undef, undef, undef, undef, undef, undef, undef, undef, undef, undef, undef, undef, undef, undef, undef, undef, undef, undef, undef, undef, undef, undef, undef, undef, undef, undef, undef, undef, undef], defers := [] }) rfl (by kernel_rfl) (by kernel_rfl) (by kernel_rfl) (fun _ _ _ h => h) (.inl ⟨rfl, fun _ _ => by go_simp⟩) hS rfl ?_
      refine takeA (i := 8) (v := .int .u16 y) ({ tmps := #[.slice (some ⟨g, off, none⟩) n ck, .slice (some ⟨g2, off2, none⟩) nv cv, undef, undef, .bool false, .pointer (some ⟨A, 0, none⟩), .pointer (some ⟨B, 0, none⟩), .int .i64 ↑j, undef, undef, undef, .bool true, .bool false, .slice (some ⟨g, off, none⟩) n ck, .int .i64 ↑n, .bool false, .bool false, .slice (some ⟨g2, off2, none⟩) nv cv, .int .i64 ↑nv, .slice (some ⟨g, off, none⟩) n ck, .int .i64 ↑n, .bool false, .bool false, .pointer (some ⟨A, 0, none⟩), .pointer (some ⟨B, 0, none⟩), .int .i64 ↑j, .slice (some ⟨g, off, none⟩) n ck, .int .i64 ↑n, .bool true, u29, u30, .pointer (some ⟨A, 0, none⟩), .slice (some ⟨g, off, none⟩) n ck, .int .i64 ↑j, .pointer (some ⟨g, off + j, none⟩), .int .u8 ↑kx, .slice (some ⟨g2, off2, none⟩) nv cv, .int .i64 ↑j, .pointer (some ⟨g2, off2 + j, none⟩), .int .u16 y, u40, undef, undef, undef, undef, undef, undef, undef, undef, undef, undef, undef, undef, undef, undef, undef, undef, undef, undef, undef, undef, undef, undef, undef, undef, undef, undef, undef, undef, undef, undef, undef, undef, undef, undef, undef, undef, undef, undef, undef, undef, undef, undef, undef, undef, undef, undef, undef, undef, undef, undef, undef, undef, undef, undef, undef, undef], defers := [] }) rfl (by kernel_rfl) (by kernel_rfl) (by kernel_rfl) (fun _ _ _ h => h) (yi_load 29 _ (.pointer (some ⟨g2, off2 + j, none⟩)) rfl rfl rfl (fun w hw => by have q := hw.2; go_simp)) hS rfl ?_
      refine wpAnyH_ready (rs := [9]) (by kernel_rfl) (by simp) ?_
      refine AllReadyH.cons rfl (fun K hK => ?_) AllReadyH.nil
      rw [if_pos (by rfl)]
      go_simp
      refine Calls.mono (P.out) ?_
      rintro e w4 ⟨rfl, k4, m4⟩
      have q1 := BD.out.1
      have q2 := BD.out.2
      have hS4 : w4.cell? ⟨g, off + j, none⟩ = some (.int .u8 kx) ∧ w4.cell? ⟨g2, off2 + j, none⟩ = some (.int .u16 y) := ⟨by rw [World.cell?_of_block (k4.block _ (cell_block q1) HJ.out.2.2.2.2.2.1)]; exact q1, by rw [World.cell?_of_block (k4.block _ (cell_block q2) HJ.out.2.2.2.2.2.2)]; exact q2⟩
      have H4 := Lib.hid (And.intro hS4 (I.out.drew.one (S' := (nul, nul)) k4 m4 (I.out.2.2.1.valKey kx y HJ.out.2.2.2.2.1)))
      clear k4 m4 q1 q2 hS4
      refine hK.out ({ tmps := #[.slice (some ⟨g, off, none⟩) n ck, .slice (some ⟨g2, off2, none⟩) nv cv, undef, undef, .bool false, .pointer (some ⟨A, 0, none⟩), .pointer (some ⟨B, 0, none⟩), .int .i64 ↑j, undef, undef, undef, .bool true, .bool false, .slice (some ⟨g, off, none⟩) n ck, .int .i64 ↑n, .bool false, .bool false, .slice (some ⟨g2, off2, none⟩) nv cv, .int .i64 ↑nv, .slice (some ⟨g, off, none⟩) n ck, .int .i64 ↑n, .bool false, .bool false, .pointer (some ⟨A, 0, none⟩), .pointer (some ⟨B, 0, none⟩), .int .i64 ↑j, .slice (some ⟨g, off, none⟩) n ck, .int .i64 ↑n, .bool true, u29, u30, .pointer (some ⟨A, 0, none⟩), .slice (some ⟨g, off, none⟩) n ck, .int .i64 ↑j, .pointer (some ⟨g, off + j, none⟩), .int .u8 ↑kx, .slice (some ⟨g2, off2, none⟩) nv cv, .int .i64 ↑j, .pointer (some ⟨g2, off2 + j, none⟩), .int .u16 y, .tuple #[], undef, undef, undef, undef, undef, undef, undef, undef, undef, undef, undef, undef, undef, undef, undef, undef, undef, undef, undef, undef, undef, undef, undef, undef, undef, undef, undef, undef, undef, undef, undef, undef, undef, undef, undef, undef, undef, undef, undef, undef, undef, undef, undef, undef, undef, undef, undef, undef, undef, undef, undef, undef, undef, undef, undef, undef], defers := [] }) _ (H4.out.1) (fun hS => ?_)
      clear hK K
      refine wpAnyH_done (by kernel_rfl) ?_ _
      clear hS P
      go_wp2_with fail
      exact ⟨⟨j + 1, _, by go_num, by omega, Lib.hid H4.out.2⟩, by simp [intOf]; omega⟩
    · have hjn' : ¬ (j : Int) < n := by omega
      go_wp2_with fail
      go_loopw [8] (fun v8 wr => ∃ (p : Nat) (V2 : Nat → Int) (S2 : (Nat → Int) × (Nat → Int)), v8 = .int .i64 ((p : Int) - 1) ∧ p ≤ 8 ∧ Hid (BI w wr A B V (nul, nul) V2 S2 ∧ dn V V2 (nul, nul) S2 p)) (fun v8 _ => (intOf v8 + 1).toNat)
      case atStart => exact ⟨8, _, _, by simp, by omega, Lib.hid ⟨I.out, fun i _ h => by omega, fun h => by omega⟩⟩
      case round =>
        clear I hj hjn hjn'
        obtain ⟨p1, V2, S2, rfl, hp, I⟩ := hrel
        by_cases hp0 : 0 < p1
        · obtain ⟨p, rfl⟩ : ∃ p, p1 = p + 1 := ⟨p1 - 1, by omega⟩
          have ep : (((p + 1 : Nat) : Int) - 1) = (p : Int) := by omega
          rw [ep]
          have hp8 : p < 8 := by omega
          have PG := Lib.hid (page_any wr A p V nul nul I.out.1.1 hp8)
          go_wp2_with fail
          refine PG.out.mono ?_
          rintro e w5 ⟨ap, cp, rfl, n5, b5⟩
          have I5 := I.out.1.kept b5
          have LD : Calls Try.prog 30 #[.pointer (some ⟨B, 0, none⟩), .int .i64 p, .slice ap (pageB V nul nul p).length cp] w5 fun e w' => e = .returned (.int .i64 0) ∧ ∃ V3 S3, BI w w' A B V (nul, nul) V3 S3 ∧ dn V V3 (nul, nul) S3 p := by
            by_cases h7 : p < 7
            · rw [show pageB V nul nul p = pg V p from if_neg (by omega)] at n5 ⊢
              refine (load_keys w5 B p h7 V2 S2.1 S2.2 I5.2.1 ap cp (pg V p) (own_bytes n5.1) n5.none (by have := pg_short V p; omega) (pg_bytes V _ p (Nat.le_refl _))).mono ?_
              intro e w' hL
              obtain ⟨he, V3, h1, h2⟩ := load_dn I5 h7 I.out.2 hL
              exact ⟨he, V3, S2, h1, h2⟩
            · obtain rfl : p = 7 := by omega
              rw [show pageB V nul nul 7 = cg nul nul 0 from if_pos rfl] at n5 ⊢
              refine (load_last w5 B V2 S2.1 S2.2 I5.2.1 ap cp (cg nul nul 0) (own_bytes n5.1) n5.none (by have := cg_short nul nul 0; omega) (cg_bytes _ _ _ 0 (Nat.le_refl _))).mono ?_
              intro e w' hL
              obtain ⟨he, S3, h1, h2⟩ := load_dn7 (S := (nul, nul)) I5 hL
              exact ⟨he, V2, S3, h1, h2⟩
          have LD := Lib.hid LD
          clear n5 b5 PG I5 ep
          generalize (pageB V nul nul p).length = len at LD ⊢
          go_wp2_with fail
          refine LD.out.mono ?_
          rintro e w6 ⟨rfl, V3, S3, h6, u6⟩
          have H6 := Lib.hid (And.intro h6 u6)
          clear h6 u6 LD
          go_wp2_with fail
          exact ⟨⟨p, V3, S3, by go_num, by omega, H6⟩, by simp [intOf]⟩
        · obtain rfl : p1 = 0 := by omega
          have CA := Lib.hid (copy_any wr A V nul nul I.out.1.1)
          have HE := Lib.hid (sums_ext I.out.2)
          have hAB := I.out.1.2.2.2.2.2.2
          have hAl := I.out.1.1.lt
          have hBl := I.out.1.2.1.lt
          have HX := Lib.hid (And.intro hAB (And.intro hAl hBl))
          clear hAB hAl hBl
          generalize hC : wr.heap.size = C at *
          go_wp2_with fail
          refine CA.out.mono ?_
          rintro e x1 ⟨rfl, m1, b1⟩
          rw [← hC] at b1
          have I1 := I.out.1.kept b1
          have J1 := Lib.hid (show B3 w x1 A B C V (nul, nul) V2 S2 V (nul, nul) from ⟨I1.1, I1.2.1, m1, I1.2.2.2.1, I1.2.2.2.2.1, HX.out.1, by have := HX.out; omega⟩)
          clear CA m1 b1 I1 I hC
          have O1 := Lib.hid (of_any x1 A V nul nul J1.out.1)
          have hE := HE.out
          obtain ⟨s, hs⟩ : ∃ s, s = sumsI V nul nul := ⟨_, rfl⟩
          have hls : s.length = 8 := by rw [hs]; exact sumsI_len _ _ _
          obtain ⟨r, hr⟩ : ∃ r, r = rI s := ⟨_, rfl⟩
          rw [← hs, ← hr] at O1
          have HS := Lib.hid (And.intro hs (And.intro hr (And.intro hls hE)))
          clear hs hr hls hE HE
          go_wp2_with fail
          refine O1.out.mono ?_
          rintro e x2 ⟨rfl, b2⟩
          have J2 := Lib.hid (J1.out.kept b2)
          have O2 := of_any x2 B V2 S2.1 S2.2 J2.out.2.1
          rw [HS.out.2.2.2, ← HS.out.1, ← HS.out.2.1] at O2
          replace O2 := Lib.hid O2
          clear O1 J1 b2
          go_wp2_with fail
          refine O2.out.mono ?_
          rintro e x3 ⟨rfl, b3⟩
          have J3 := Lib.hid (J2.out.kept b3)
          have O3 := of_any x3 C V nul nul J3.out.2.2.1
          rw [← HS.out.1, ← HS.out.2.1] at O3
          replace O3 := Lib.hid O3
          clear O2 J2 b3
          go_wp2_with fail
          refine O3.out.mono ?_
          rintro e x4 ⟨rfl, b4⟩
          have J4 := Lib.hid (J3.out.kept b4)
          have O4 := Lib.hid (sums_any x4 A V nul nul J4.out.1)
          clear O3 J3 b4
          go_wp2_with fail
          refine O4.out.mono ?_
          rintro e x5 ⟨E, rfl, hE, hEl, b5⟩
          rw [← HS.out.1] at hE
          have J5 := Lib.hid (J4.out.kept b5)
          have O5 := root_any x5 (some ⟨E, 0, none⟩) 8 8 s (qs_block hE) HS.out.2.2.1
          rw [← HS.out.2.1] at O5
          replace O5 := Lib.hid O5
          clear O4 J4 b5 hE hEl
          go_wp2_with fail
          refine O5.out.mono ?_
          rintro e x6 ⟨rfl, b6⟩
          have J6 := Lib.hid (J5.out.kept b6)
          have O6 := get_any x6 A 5 V nul nul J6.out.1
          rw [if_pos (by omega)] at O6
          replace O6 := Lib.hid O6
          clear O5 J5 b6
          go_wp2_with fail
          refine O6.out.mono ?_
          rintro e x7 ⟨rfl, rfl⟩
          have O7 := fun x : Int => put_any x7 A 5 x V nul nul J6.out.1
          replace O7 := Lib.hid O7
          clear O6
          generalize V 5 = v5
          go_wp2_with fail
          refine (O7.out _).mono ?_
          rintro e x8 ⟨rfl, k8, m8⟩
          rw [if_pos (by omega)] at m8
          have J8 := Lib.hid (J6.out.one (S' := (nul, nul)) k8 m8)
          have O8 := of_any x8 C V nul nul J8.out.2.2.1
          rw [← HS.out.1, ← HS.out.2.1] at O8
          replace O8 := Lib.hid O8
          clear O7 J6 k8 m8
          go_wp2_with fail
          refine O8.out.mono ?_
          rintro e x9 ⟨rfl, b9⟩
          have J9 := Lib.hid (J8.out.kept b9)
          have O9 := of_any x9 B V2 S2.1 S2.2 J9.out.2.1
          rw [HS.out.2.2.2, ← HS.out.1, ← HS.out.2.1] at O9
          replace O9 := Lib.hid O9
          clear O8 J8 b9
          go_wp2_with fail
          refine O9.out.mono ?_
          rintro e y1 ⟨rfl, b1⟩
          have J1 := Lib.hid (J9.out.kept b1)
          have O1 := Lib.hid (sums_any y1 B V2 S2.1 S2.2 J1.out.2.1)
          clear O9 J9 b1
          go_wp2_with fail
          refine O1.out.mono ?_
          rintro e y2 ⟨E1, rfl, hE1, hEl1, b2⟩
          rw [HS.out.2.2.2, ← HS.out.1] at hE1
          have J2 := Lib.hid (J1.out.kept b2)
          have Q2 := Lib.hid (qs_block hE1)
          have O2 := Lib.hid (sums_any y2 C V nul nul J2.out.2.2.1)
          clear O1 J1 b2 hE1 hEl1
          go_wp2_with fail
          refine O2.out.mono ?_
          rintro e y3 ⟨E2, rfl, hE2, hEl2, b3⟩
          rw [← HS.out.1] at hE2
          have J3 := Lib.hid (J2.out.kept b3)
          have O3 := unlike_any y3 (some ⟨E1, 0, none⟩) (some ⟨E2, 0, none⟩) 8 8 8 8 s s (qs_below Q2.out b3) (qs_block hE2) HS.out.2.2.1 HS.out.2.2.1
          replace O3 := Lib.hid O3
          clear O2 J2 b3 hE2 hEl2
          go_wp2_with fail
          refine O3.out.mono ?_
          rintro e y4 ⟨ao, c, rfl, -, -, b4⟩
          rw [unl_same s HS.out.2.2.1]
          have b5 := Lib.hid (J3.out.2.2.2.1.trans (b4.mono J3.out.2.2.2.1.size))
          clear O3 J3 b4
          go_wp2_with fail
          go_ret
          exact ⟨rfl, b5.out⟩

theorem long0 (ak : Option Addr) (n ck : Nat) (av : Option Addr) (nv cv : Nat) (w : World) (hl : ¬ (n ≤ 60 ∧ n ≤ nv)) :
    Calls Try.prog 5 #[.slice ak n ck, .slice av nv cv] w fun e w' => e = .returned (.bool true) ∧ Below w.heap.size w w' := by
  have KN := Lib.hid (known_any w)
  by_cases h1 : n ≤ 60
  · have d1 : decide (60 < (n : Int)) = false := by rw [decide_eq_false_iff_not]; omega
    have d2 : nv < n := by omega
    clear hl h1
    go_enter Try.func5, Try.ntmps5
    go_wp2_with fail
    refine KN.out.mono ?_
    rintro e w1 ⟨rfl, b1⟩
    have B1 := Lib.hid b1
    clear b1 KN
    go_wp2_with fail
    go_ret
    exact ⟨rfl, B1.out⟩
  · have d1 : decide (60 < (n : Int)) = true := by rw [decide_eq_true_iff]; omega
    clear hl h1
    go_enter Try.func5, Try.ntmps5
    go_wp2_with fail
    refine KN.out.mono ?_
    rintro e w1 ⟨rfl, b1⟩
    have B1 := Lib.hid b1
    clear b1 KN
    go_wp2_with fail
    go_ret
    exact ⟨rfl, B1.out⟩

theorem walk (ak : Option Addr) (l : List Int) (ck : Nat) (v : Value) (vs : List Int) (w : World) (hb : Bytes w ak l) (hby : ∀ x ∈ l, isByte x) (_ : l.length ≤ ck) (_ : ak = none → ck = 0)
    (hr : RowU w 1 u16c v vs) (hv : ∀ x ∈ vs, 0 ≤ x ∧ x ≤ 65535) :
    Calls Try.prog 5 #[.slice ak l.length ck, v] w fun e w' => e = .returned (.bool true) ∧ Below w.heap.size w w' := by
  obtain ⟨av, cv, rfl, _⟩ := id hr
  by_cases h : l.length ≤ 60 ∧ l.length ≤ vs.length
  · exact core ak l ck av vs cv w hb hby hr hv h.1 h.2
  · exact long0 ak l.length ck av vs.length cv w h


theorem lifted (os : Os) (started : os.Started) (H : Type) (enc : TypeId × Value → H) :
    ReturnsInHanded {} Try.checked os 5 .any (Rows.merkleSameSpec.pre6 enc Try.prog Try.f5 Rows.merkleSameRow.domain false) (Rows.merkleSameSpec.post enc Try.prog Try.f5 false true false false) := by
  refine returnsInHanded_of_change (C := Try.checked) own started (by kernel_rfl) Try.func5
    (ChangeSpec.witness6 (enc := enc) (C := Try.checked) false ⟨#[], #[.slice none 0 0, .slice none 0 0], []⟩ 8 (by kernel_rfl) (by kernel_rfl) (by kernel_rfl) (by kernel_rfl)) ?_
  intro W base args ds gs before hval0 hW hcnd _
  have hval : ∀ (j : Nat) t v, Try.f5.params[j]? = some t → args[j]? = some v → Value.okWide Try.prog W .any base t v := hval0
  have hW' := hW
  obtain ⟨p, q, hA0, hV, rfl, hfz, hnd⟩ := hW
  have hA : DataW.TrodAll enc Try.prog W 0 (fun _ => true) true Try.f5.params.toList args.toList ds p := hA0
  rw [Try.params5] at hA hval
  obtain ⟨v0, vs0, d0, ds0, p0, q0, hargs, rfl, rfl, h0, r0⟩ := trodAll_cons hA
  obtain ⟨v1, vs1, d1, ds1, p1, q1, rfl, rfl, rfl, h1, r1⟩ := trodAll_cons r0
  obtain ⟨rfl, rfl, rfl⟩ := trodAll_nil r1
  obtain rfl : args = #[v0, v1] := by cases args; simp_all
  obtain ⟨rfl, rfl⟩ := trodVars_none hV
  have k0 := h0
  have lt0 : ∀ x ∈ p0, x.block < W.heap.size := by obtain ⟨m, hm⟩ := k0; exact DataW.trod_lt m _ _ _ hm
  obtain ⟨ax0, ln0, cx0, rfl⟩ := okWide_slice Try.underlying22 (hval 0 22 v0 rfl rfl)
  obtain ⟨a0, l0, c0, hv0, hb0, hby0, hcap0, hno0⟩ : ∃ (ao : Option Addr) (l : List Int) (cap : Nat), Value.slice ax0 ln0 cx0 = .slice ao l.length cap ∧ Bytes W ao l ∧ (∀ y ∈ l, isByte y) ∧ l.length ≤ cap ∧ (ao = none → cap = 0) := by
    obtain ⟨fuel, hf⟩ := h0
    exact open_bytes (by simpa [Value.cells] using hf)
  injection hv0 with hv0a hv0b hv0c
  subst hv0a hv0b hv0c
  have k1 := h1
  have lt1 : ∀ x ∈ p1, x.block < W.heap.size := by obtain ⟨m, hm⟩ := k1; exact DataW.trod_lt m _ _ _ hm
  obtain ⟨ax1, ln1, cx1, rfl⟩ := okWide_slice Try.underlying23 (hval 1 23 v1 rfl rfl)
  obtain ⟨fuel1, hf1⟩ := h1
  obtain ⟨l1, hr1, ok1⟩ := open_u16s (show DataW.trod enc Try.prog W 0 (fun _ => true) true fuel1 23 [.slice ax1 ln1 cx1] = _ from by simpa [Value.cells] using hf1)
  clear hA0 hval0
  refine (walk ax0 l0 cx0 (.slice ax1 ln1 cx1) l1 W hb0 hby0 hcap0 hno0 hr1 ok1).mono fun e W' ⟨he, bel⟩ => ?_
  subst he
  exact ⟨_, rfl, _, _, _, [], _, [], hW', trodAll_mk1 (shut_bool Try.underlying4 _), (trodAll_cons_mk (Below.trod laidOut (by kernel_rfl) (of_decide_eq_true (by kernel_rfl)) k0 bel lt0) (trodAll_cons_mk (Below.trod laidOut (by kernel_rfl) (of_decide_eq_true (by kernel_rfl)) k1 bel lt1) trodAll_mk0)), rfl, bel.frame _, fun h => by cases h⟩

theorem over : Rows.merkleSameRow.holds Try.pinned (OpenSpec.ofChange Rows.merkleSameSpec) :=
  OpenClaim.holds_of_wide 5 Try.f5 rfl rfl rfl rfl rfl rfl rfl ⟨rfl, rfl, rfl, rfl, rfl⟩ rfl rfl rfl rfl rfl (by kernel_rfl) Try.func5 (by kernel_rfl)
    (of_decide_eq_true (by kernel_rfl)) (by unfold Func.isWrapper; first | (rw [if_pos (by decide +kernel)]; kernel_rfl) | (rw [if_neg (by decide +kernel)]; exact ⟨rfl, rfl⟩))
    (fun os started H enc _ => lifted os started H enc)

theorem proved : Rows.MerkleSameSaid := over
#print axioms proved
end Go.Proofs.Ytfbcjigekmgbnaa.merkleSame
