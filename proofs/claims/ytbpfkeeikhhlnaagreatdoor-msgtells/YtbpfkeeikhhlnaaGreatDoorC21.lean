/- The document's Encode, kind 9. The document's Encode, kind 10. The document's Encode, kind 11. The document's Encode, kind 12. The document's Encode, kind 13. The document's Encode, kind 14. The document's Encode of every message. What comes in: the cells of a struct, whatever structs are in it; rows of structs. Which messages the laws of layer 3 look at: their lists are short. -/
import Derived.Test.YtbpfkeeikhhlnaaGreatDoorC19
import Derived.Test.YtbpfkeeikhhlnaaGreatDoorC03
import Derived.Test.YtbpfkeeikhhlnaaGreatDoorC20
import Derived.ProofKit
import Derived.OpenShut
import Derived.ChangeOld
import Derived.Deep.Slices
import Derived.WalkKit
import Derived.Test.YtbpfkeeikhhlnaaGreatDoorC07
import Derived.Test.YtbpfkeeikhhlnaaGreatDoorC05
import Derived.LaidMore
import Derived.Lay
namespace Go.Proofs.YtbpfkeeikhhlnaaGreatDoor
open Go.RowKit
set_option maxRecDepth 100000

set_option maxHeartbeats 8000000 in
theorem refEnc_k9 (w : World) (m : Mg) (c : Mc) (hm : MgAt w m c) (hok : ∀ x ∈ c.vs, (∀ y ∈ x.2.p, 0 ≤ y.s ∧ y.rq.ok) ∧ ∀ y ∈ x.2.q, 0 ≤ y.s ∧ y.rq.ok) (hvo : (∀ y ∈ c.vt.p, 0 ≤ y.s ∧ y.rq.ok) ∧ ∀ y ∈ c.vt.q, 0 ≤ y.s ∧ y.rq.ok)
    (hf : 0 ≤ m.f ∧ m.f ≤ 255) (ht : 0 ≤ m.t ∧ m.t ≤ 255) (hg : ((0 ≤ m.vw ∧ m.vw ≤ 4294967295) ∧ (0 ≤ m.sq ∧ m.sq ≤ 4294967295) ∧ (0 ≤ m.rs ∧ m.rs ≤ 4294967295) ∧ m.rq.ok ∧ VtR m.vt c.vt ∧ (∀ x ∈ c.vs, VtR x.1 x.2) ∧ (∀ x ∈ c.sm, 0 ≤ x ∧ x ≤ 18446744073709551615))) (hk : m.k = 9) (hi : isM m c = true) :
    Calls Tryz.prog 9 #[.agg m.cells.toArray] w fun e w' => ∃ ao z, e = .returned (.tuple #[.slice ao (encM m c).length z, .int .i64 0]) ∧ New w.heap.size w' ao z (encM m c) ∧ Below w.heap.size w w' := by
  obtain ⟨W, hW⟩ : ∃ W, W = w.alloc (.cells m.cells.toArray 37) := ⟨_, rfl⟩
  have hbx := bx1 hW
  have hbl := bl1 hW
  have hs : W.heap.size = w.heap.size + 1 := by rw [hW]; simp
  have IS := refIs_any W m c (hm.below hbl) hok hvo hf ht
  rw [hi] at IS
  have IS := Lib.hid IS
  have HM := Lib.hid hm
  have HI := Lib.hid hi
  have HG := Lib.hid hg
  have HK := Lib.hid hk
  have HW := Lib.hid hW
  have HBX := Lib.hid hbx
  have HBL := Lib.hid hbl
  have HSZ := Lib.hid hs
  have hwvw : IntKind.u64.wrap m.vw = m.vw := by rw [IntKind.wrap_u64]; omega
  have hwsq : IntKind.u64.wrap m.sq = m.sq := by rw [IntKind.wrap_u64]; omega
  have hwrs : IntKind.u64.wrap m.rs = m.rs := by rw [IntKind.wrap_u64]; omega
  clear hm hok hvo hf ht hg hk hi hW hbx hbl hs
  obtain ⟨A, hA⟩ : ∃ A, A = m.cells.toArray := ⟨_, rfl⟩
  rw [← hA] at IS HW ⊢
  have HA := Lib.hid hA
  clear hA
  go_enter Tryz.func9, Tryz.ntmps9
  go_upto_region 1 with fail
  rw [← HW.out]
  refine wp_region_lit ?_
  refine wpList_load_row rfl 37 (.tmp 1) rfl w.heap.size rfl 37 A (0, 0) _ (by rw [HA.out]; exact HBX.out) Tryz.underlying37 rfl (by rw [HA.out]; exact size37) ?_
  dsimp only
  go_wp2_with fail
  refine IS.out.mono ?_
  rintro e w1 ⟨rfl, b1⟩
  have hb1 : w1.heap[w.heap.size]? = some (.cells m.cells.toArray 37 (0, 0)) := by rw [b1.block _ (by have := HSZ.out; omega)]; exact HBX.out
  have k0 : w1.cell? ⟨w.heap.size, 0, none⟩ = some (.int .u8 9) := by rw [mg_cell hb1 0, ← HK.out]; rfl
  have k1 : w1.cell? ⟨w.heap.size, 1, none⟩ = some (.int .u8 m.f) := by rw [mg_cell hb1 1]; rfl
  have k2 : w1.cell? ⟨w.heap.size, 2, none⟩ = some (.int .u8 m.t) := by rw [mg_cell hb1 2]; rfl
  have k3 : w1.cell? ⟨w.heap.size, 3, none⟩ = some (.int .u8 m.e) := by rw [mg_cell hb1 3]; rfl
  have HB1 := Lib.hid (And.intro b1 hb1)
  have B2 : Below w1.heap.size w1 (w1.alloc (.cells #[.int .u8 9, .int .u8 m.f, .int .u8 m.t, .int .u8 m.e] 5)) := (Below.refl _ _).alloc (Nat.le_refl _) _
  have O2 : (w1.alloc (.cells #[.int .u8 9, .int .u8 m.f, .int .u8 m.t, .int .u8 m.e] 5)).ownsRow 0 5 1 (.slice (some ⟨w1.heap.size, 0, none⟩) 4 4) 4 (vals [(9 : Int), m.f, m.t, m.e]) := own_lit w1 [(9 : Int), m.f, m.t, m.e] 4 rfl (by decide)
  have H2 := Lib.hid (And.intro B2 O2)
  clear b1 hb1 B2 O2 IS
  go_upto_region 4 with fail
  obtain ⟨w2, hw2⟩ : ∃ w2, w2 = w1.alloc (.cells #[.int .u8 9, .int .u8 m.f, .int .u8 m.t, .int .u8 m.e] 5) := ⟨_, rfl⟩
  rw [← hw2] at H2 ⊢
  have hs2 : w2.heap.size = w1.heap.size + 1 := by rw [hw2]; simp
  clear k0 k1 k2 k3 hw2
  have G0 := GR.start H2.out.2
  have BX := Lib.hid (fun wx a n' c' l' (g : GR w2 (.slice (some ⟨w1.heap.size, 0, none⟩) 4 4) wx a n' c' l') => show wx.heap[w.heap.size]? = some (.cells m.cells.toArray 37 (0, 0)) by
    have h1 := HB1.out.1.size
    have h2 := HSZ.out
    rw [g.block (by omega) (by simp [Value.ownBlock]; omega), H2.out.1.block _ (by omega)]
    exact HB1.out.2)
  have k0 : w2.cell? ⟨w.heap.size, 0, none⟩ = some (.int .u8 9) := by rw [mg_cell (BX.out _ _ _ _ _ G0) 0, ← HK.out]; rfl
  have HS2 := Lib.hid hs2
  have HG0 := Lib.hid G0
  clear hs2
  obtain ⟨g0, hg0⟩ : ∃ g0, g0 = w1.heap.size := ⟨_, rfl⟩
  rw [← hg0] at G0 BX HG0 H2 ⊢
  have HG0E := Lib.hid hg0
  clear hg0
  go_upto_region 23 with fail
  have q12 : w2.cell? ⟨w.heap.size, 12, none⟩ = some (.int .u8 m.ct) := (mg_cell (BX.out _ _ _ _ _ G0) 12).trans rfl
  have HO := Lib.hid (HG0.out.below ((Below.refl _ _).alloc (Nat.le_refl _) (.cells #[.int .u8 m.ct] 5)))
  clear G0 k0
  go_wp2_with (at_builtin
               refine wpList_app _ rfl (.tmp 89) (.tmp 92) rfl (.slice (some ⟨g0, 0, none⟩) 4 4) 4 _ rfl HO.out.own (some ⟨w2.heap.size, 0, none⟩) 1 1 [m.ct] rfl rfl (bytes_new w2 [m.ct] 5) (by intro h; cases h) (by decide) ?_
               intro a1 z1 v1 ho hk hg
               have MM := Lib.hid (HO.out.step ho hk (hg.elim .inl (fun e => .inr ⟨_, e, Nat.le_refl _⟩)))
               clear ho hk hg)
  have hE : encM m c = [(9 : Int), m.f, m.t, m.e] ++ [m.ct] := by
    unfold encM encUp
    rw [HK.out]
    simp [partsOf, partY, wordB]
  have q := MM.out
  obtain ⟨qn, qb⟩ := q.new (H := w.heap.size) (w := w) (by simp) (by have := HG0E.out; have := HB1.out.1.size; have := HSZ.out; omega) (by have := HS2.out; have := HB1.out.1.size; have := HSZ.out; omega) ((HBL.out.trans (HB1.out.1.mono HBL.out.size)).trans (H2.out.1.mono (by have := HG0E.out; have := HB1.out.1.size; have := HSZ.out; omega)))
  rw [hE]
  refine bodyPost_ret (v := .tuple #[.slice _ 5 _, .int .i64 0]) (by simp [results, Tryz.results9, go_sem]; exact ⟨rfl, rfl⟩) rfl ⟨_, _, by rw [show ([(9 : Int), m.f, m.t, m.e] ++ [m.ct]).length = 5 by simp], qn, qb⟩

set_option maxHeartbeats 8000000 in
theorem refEnc_k10 (w : World) (m : Mg) (c : Mc) (hm : MgAt w m c) (hok : ∀ x ∈ c.vs, (∀ y ∈ x.2.p, 0 ≤ y.s ∧ y.rq.ok) ∧ ∀ y ∈ x.2.q, 0 ≤ y.s ∧ y.rq.ok) (hvo : (∀ y ∈ c.vt.p, 0 ≤ y.s ∧ y.rq.ok) ∧ ∀ y ∈ c.vt.q, 0 ≤ y.s ∧ y.rq.ok)
    (hf : 0 ≤ m.f ∧ m.f ≤ 255) (ht : 0 ≤ m.t ∧ m.t ≤ 255) (hg : ((0 ≤ m.vw ∧ m.vw ≤ 4294967295) ∧ (0 ≤ m.sq ∧ m.sq ≤ 4294967295) ∧ (0 ≤ m.rs ∧ m.rs ≤ 4294967295) ∧ m.rq.ok ∧ VtR m.vt c.vt ∧ (∀ x ∈ c.vs, VtR x.1 x.2) ∧ (∀ x ∈ c.sm, 0 ≤ x ∧ x ≤ 18446744073709551615))) (hk : m.k = 10) (hi : isM m c = true) :
    Calls Tryz.prog 9 #[.agg m.cells.toArray] w fun e w' => ∃ ao z, e = .returned (.tuple #[.slice ao (encM m c).length z, .int .i64 0]) ∧ New w.heap.size w' ao z (encM m c) ∧ Below w.heap.size w w' := by
  obtain ⟨W, hW⟩ : ∃ W, W = w.alloc (.cells m.cells.toArray 37) := ⟨_, rfl⟩
  have hbx := bx1 hW
  have hbl := bl1 hW
  have hs : W.heap.size = w.heap.size + 1 := by rw [hW]; simp
  have IS := refIs_any W m c (hm.below hbl) hok hvo hf ht
  rw [hi] at IS
  have IS := Lib.hid IS
  have HM := Lib.hid hm
  have HI := Lib.hid hi
  have HG := Lib.hid hg
  have HK := Lib.hid hk
  have HW := Lib.hid hW
  have HBX := Lib.hid hbx
  have HBL := Lib.hid hbl
  have HSZ := Lib.hid hs
  have hwvw : IntKind.u64.wrap m.vw = m.vw := by rw [IntKind.wrap_u64]; omega
  have hwsq : IntKind.u64.wrap m.sq = m.sq := by rw [IntKind.wrap_u64]; omega
  have hwrs : IntKind.u64.wrap m.rs = m.rs := by rw [IntKind.wrap_u64]; omega
  clear hm hok hvo hf ht hg hk hi hW hbx hbl hs
  obtain ⟨A, hA⟩ : ∃ A, A = m.cells.toArray := ⟨_, rfl⟩
  rw [← hA] at IS HW ⊢
  have HA := Lib.hid hA
  clear hA
  go_enter Tryz.func9, Tryz.ntmps9
  go_upto_region 1 with fail
  rw [← HW.out]
  refine wp_region_lit ?_
  refine wpList_load_row rfl 37 (.tmp 1) rfl w.heap.size rfl 37 A (0, 0) _ (by rw [HA.out]; exact HBX.out) Tryz.underlying37 rfl (by rw [HA.out]; exact size37) ?_
  dsimp only
  go_wp2_with fail
  refine IS.out.mono ?_
  rintro e w1 ⟨rfl, b1⟩
  have hb1 : w1.heap[w.heap.size]? = some (.cells m.cells.toArray 37 (0, 0)) := by rw [b1.block _ (by have := HSZ.out; omega)]; exact HBX.out
  have k0 : w1.cell? ⟨w.heap.size, 0, none⟩ = some (.int .u8 10) := by rw [mg_cell hb1 0, ← HK.out]; rfl
  have k1 : w1.cell? ⟨w.heap.size, 1, none⟩ = some (.int .u8 m.f) := by rw [mg_cell hb1 1]; rfl
  have k2 : w1.cell? ⟨w.heap.size, 2, none⟩ = some (.int .u8 m.t) := by rw [mg_cell hb1 2]; rfl
  have k3 : w1.cell? ⟨w.heap.size, 3, none⟩ = some (.int .u8 m.e) := by rw [mg_cell hb1 3]; rfl
  have HB1 := Lib.hid (And.intro b1 hb1)
  have B2 : Below w1.heap.size w1 (w1.alloc (.cells #[.int .u8 10, .int .u8 m.f, .int .u8 m.t, .int .u8 m.e] 5)) := (Below.refl _ _).alloc (Nat.le_refl _) _
  have O2 : (w1.alloc (.cells #[.int .u8 10, .int .u8 m.f, .int .u8 m.t, .int .u8 m.e] 5)).ownsRow 0 5 1 (.slice (some ⟨w1.heap.size, 0, none⟩) 4 4) 4 (vals [(10 : Int), m.f, m.t, m.e]) := own_lit w1 [(10 : Int), m.f, m.t, m.e] 4 rfl (by decide)
  have H2 := Lib.hid (And.intro B2 O2)
  clear b1 hb1 B2 O2 IS
  go_upto_region 4 with fail
  obtain ⟨w2, hw2⟩ : ∃ w2, w2 = w1.alloc (.cells #[.int .u8 10, .int .u8 m.f, .int .u8 m.t, .int .u8 m.e] 5) := ⟨_, rfl⟩
  rw [← hw2] at H2 ⊢
  have hs2 : w2.heap.size = w1.heap.size + 1 := by rw [hw2]; simp
  clear k0 k1 k2 k3 hw2
  have G0 := GR.start H2.out.2
  have BX := Lib.hid (fun wx a n' c' l' (g : GR w2 (.slice (some ⟨w1.heap.size, 0, none⟩) 4 4) wx a n' c' l') => show wx.heap[w.heap.size]? = some (.cells m.cells.toArray 37 (0, 0)) by
    have h1 := HB1.out.1.size
    have h2 := HSZ.out
    rw [g.block (by omega) (by simp [Value.ownBlock]; omega), H2.out.1.block _ (by omega)]
    exact HB1.out.2)
  have k0 : w2.cell? ⟨w.heap.size, 0, none⟩ = some (.int .u8 10) := by rw [mg_cell (BX.out _ _ _ _ _ G0) 0, ← HK.out]; rfl
  have HS2 := Lib.hid hs2
  have HG0 := Lib.hid G0
  clear hs2
  obtain ⟨g0, hg0⟩ : ∃ g0, g0 = w1.heap.size := ⟨_, rfl⟩
  rw [← hg0] at G0 BX HG0 H2 ⊢
  have HG0E := Lib.hid hg0
  clear hg0
  go_upto_region 25 with fail
  clear k0 G0
  have G0 := HG0.out.below (Below.refl _ _).drew
  refine wp_region_held_drew (S := fun wx => wx.heap[w.heap.size]? = some (.cells m.cells.toArray 37 (0, 0))) (by kernel_rfl) ((BX.out _ _ _ _ _ G0)) (fun hS => ?_)
  refine tm 0 (.slice (some ⟨g0, 0, none⟩) 4 4) rfl hS ?_
  refine tg 1 (.pointer (some ⟨w.heap.size, 12, none⟩)) rfl hS ?_
  refine tk 2 (.int .u8 m.ct) rfl (yi_load 5 (.tmp 97) (.pointer (some ⟨w.heap.size, 12, none⟩)) rfl rfl rfl (fun wq hw => by have q : wq.cell? ⟨w.heap.size, 12, none⟩ = some (.int .u8 m.ct) := (mg_cell hw 12).trans rfl; go_simp)) hS ?_
  refine tg 5 (.pointer (some ⟨w.heap.size, 5, none⟩)) rfl hS ?_
  refine tk 6 (.int .u32 m.sq) rfl (yi_load 22 (.tmp 101) (.pointer (some ⟨w.heap.size, 5, none⟩)) rfl rfl rfl (fun wq hw => by have q : wq.cell? ⟨w.heap.size, 5, none⟩ = some (.int .u32 m.sq) := (mg_cell hw 5).trans rfl; go_simp)) hS ?_
  refine tk 7 (.int .u64 m.sq) rfl (.inl ⟨rfl, fun _ _ => by go_simp <;> first | exact hwvw | exact hwsq | exact hwrs⟩) hS ?_
  refine rdy1 3 rfl (fun K hK => ?_)
  rw [if_pos (by rfl)]
  go_simp
  refine hK.out _ _ ((BX.out _ _ _ _ _ (HG0.out.below (((Below.refl _ _).alloc (Nat.le_refl _) _).drew)))) (fun hS => ?_)
  clear hK K
  refine rdy1 4 rfl (fun K hK => ?_)
  rw [if_pos (by rfl)]
  refine app_e (HG0.out.below (((Below.refl _ _).alloc (Nat.le_refl _) _).drew)) (.tmp 96) (.tmp 99) rfl rfl (some ⟨w2.heap.size, 0, none⟩) 1 1 [m.ct] rfl rfl (by exact bytes_new _ [m.ct] 5) (by intro h; cases h) (by decide) ?_
  intro a1_25 c1_25 v1_25 M1_25
  refine hK.out _ _ ((BX.out _ _ _ _ _ M1_25)) (fun hS => ?_)
  clear hK K
  refine rdy1 8 rfl (fun K hK => ?_)
  rw [if_pos (by rfl)]
  go_simp
  refine Calls.mono ((put_e M1_25 m.sq 4 9 (by decide) (by decide) rfl)) ?_
  rintro e v2_25 ⟨a2_25, c2_25, rfl, M2_25⟩
  refine hK.out _ _ ((BX.out _ _ _ _ _ M2_25)) (fun hS => ?_)
  clear hK K
  refine tm 9 (.slice a2_25 9 c2_25) rfl hS ?_
  refine wpAnyH_done (by kernel_rfl) ?_ _
  have MM := Lib.hid M2_25
  clear hS
  go_wp2_with fail
  have hE : encM m c = [(10 : Int), m.f, m.t, m.e] ++ [m.ct] ++ be m.sq 4 := by
    unfold encM encUp
    rw [HK.out]
    simp [partsOf, partY, wordB, be_4]
  have q := MM.out
  obtain ⟨qn, qb⟩ := q.new (H := w.heap.size) (w := w) (by simp [be]) (by have := HG0E.out; have := HB1.out.1.size; have := HSZ.out; omega) (by have := HS2.out; have := HB1.out.1.size; have := HSZ.out; omega) ((HBL.out.trans (HB1.out.1.mono HBL.out.size)).trans (H2.out.1.mono (by have := HG0E.out; have := HB1.out.1.size; have := HSZ.out; omega)))
  rw [hE]
  refine bodyPost_ret (v := .tuple #[.slice _ 9 _, .int .i64 0]) (by simp [results, Tryz.results9, go_sem]; exact ⟨rfl, rfl⟩) rfl ⟨_, _, by rw [show ([(10 : Int), m.f, m.t, m.e] ++ [m.ct] ++ be m.sq 4).length = 9 by simp [be]], qn, qb⟩

set_option maxHeartbeats 8000000 in
theorem refEnc_k11 (w : World) (m : Mg) (c : Mc) (hm : MgAt w m c) (hok : ∀ x ∈ c.vs, (∀ y ∈ x.2.p, 0 ≤ y.s ∧ y.rq.ok) ∧ ∀ y ∈ x.2.q, 0 ≤ y.s ∧ y.rq.ok) (hvo : (∀ y ∈ c.vt.p, 0 ≤ y.s ∧ y.rq.ok) ∧ ∀ y ∈ c.vt.q, 0 ≤ y.s ∧ y.rq.ok)
    (hf : 0 ≤ m.f ∧ m.f ≤ 255) (ht : 0 ≤ m.t ∧ m.t ≤ 255) (hg : ((0 ≤ m.vw ∧ m.vw ≤ 4294967295) ∧ (0 ≤ m.sq ∧ m.sq ≤ 4294967295) ∧ (0 ≤ m.rs ∧ m.rs ≤ 4294967295) ∧ m.rq.ok ∧ VtR m.vt c.vt ∧ (∀ x ∈ c.vs, VtR x.1 x.2) ∧ (∀ x ∈ c.sm, 0 ≤ x ∧ x ≤ 18446744073709551615))) (hk : m.k = 11) (hi : isM m c = true) :
    Calls Tryz.prog 9 #[.agg m.cells.toArray] w fun e w' => ∃ ao z, e = .returned (.tuple #[.slice ao (encM m c).length z, .int .i64 0]) ∧ New w.heap.size w' ao z (encM m c) ∧ Below w.heap.size w w' := by
  obtain ⟨W, hW⟩ : ∃ W, W = w.alloc (.cells m.cells.toArray 37) := ⟨_, rfl⟩
  have hbx := bx1 hW
  have hbl := bl1 hW
  have hs : W.heap.size = w.heap.size + 1 := by rw [hW]; simp
  have IS := refIs_any W m c (hm.below hbl) hok hvo hf ht
  rw [hi] at IS
  have IS := Lib.hid IS
  have HM := Lib.hid hm
  have HI := Lib.hid hi
  have HG := Lib.hid hg
  have HK := Lib.hid hk
  have HW := Lib.hid hW
  have HBX := Lib.hid hbx
  have HBL := Lib.hid hbl
  have HSZ := Lib.hid hs
  have hwvw : IntKind.u64.wrap m.vw = m.vw := by rw [IntKind.wrap_u64]; omega
  have hwsq : IntKind.u64.wrap m.sq = m.sq := by rw [IntKind.wrap_u64]; omega
  have hwrs : IntKind.u64.wrap m.rs = m.rs := by rw [IntKind.wrap_u64]; omega
  clear hm hok hvo hf ht hg hk hi hW hbx hbl hs
  obtain ⟨A, hA⟩ : ∃ A, A = m.cells.toArray := ⟨_, rfl⟩
  rw [← hA] at IS HW ⊢
  have HA := Lib.hid hA
  clear hA
  go_enter Tryz.func9, Tryz.ntmps9
  go_upto_region 1 with fail
  rw [← HW.out]
  refine wp_region_lit ?_
  refine wpList_load_row rfl 37 (.tmp 1) rfl w.heap.size rfl 37 A (0, 0) _ (by rw [HA.out]; exact HBX.out) Tryz.underlying37 rfl (by rw [HA.out]; exact size37) ?_
  dsimp only
  go_wp2_with fail
  refine IS.out.mono ?_
  rintro e w1 ⟨rfl, b1⟩
  have hb1 : w1.heap[w.heap.size]? = some (.cells m.cells.toArray 37 (0, 0)) := by rw [b1.block _ (by have := HSZ.out; omega)]; exact HBX.out
  have k0 : w1.cell? ⟨w.heap.size, 0, none⟩ = some (.int .u8 11) := by rw [mg_cell hb1 0, ← HK.out]; rfl
  have k1 : w1.cell? ⟨w.heap.size, 1, none⟩ = some (.int .u8 m.f) := by rw [mg_cell hb1 1]; rfl
  have k2 : w1.cell? ⟨w.heap.size, 2, none⟩ = some (.int .u8 m.t) := by rw [mg_cell hb1 2]; rfl
  have k3 : w1.cell? ⟨w.heap.size, 3, none⟩ = some (.int .u8 m.e) := by rw [mg_cell hb1 3]; rfl
  have HB1 := Lib.hid (And.intro b1 hb1)
  have B2 : Below w1.heap.size w1 (w1.alloc (.cells #[.int .u8 11, .int .u8 m.f, .int .u8 m.t, .int .u8 m.e] 5)) := (Below.refl _ _).alloc (Nat.le_refl _) _
  have O2 : (w1.alloc (.cells #[.int .u8 11, .int .u8 m.f, .int .u8 m.t, .int .u8 m.e] 5)).ownsRow 0 5 1 (.slice (some ⟨w1.heap.size, 0, none⟩) 4 4) 4 (vals [(11 : Int), m.f, m.t, m.e]) := own_lit w1 [(11 : Int), m.f, m.t, m.e] 4 rfl (by decide)
  have H2 := Lib.hid (And.intro B2 O2)
  clear b1 hb1 B2 O2 IS
  go_upto_region 4 with fail
  obtain ⟨w2, hw2⟩ : ∃ w2, w2 = w1.alloc (.cells #[.int .u8 11, .int .u8 m.f, .int .u8 m.t, .int .u8 m.e] 5) := ⟨_, rfl⟩
  rw [← hw2] at H2 ⊢
  have hs2 : w2.heap.size = w1.heap.size + 1 := by rw [hw2]; simp
  clear k0 k1 k2 k3 hw2
  have G0 := GR.start H2.out.2
  have BX := Lib.hid (fun wx a n' c' l' (g : GR w2 (.slice (some ⟨w1.heap.size, 0, none⟩) 4 4) wx a n' c' l') => show wx.heap[w.heap.size]? = some (.cells m.cells.toArray 37 (0, 0)) by
    have h1 := HB1.out.1.size
    have h2 := HSZ.out
    rw [g.block (by omega) (by simp [Value.ownBlock]; omega), H2.out.1.block _ (by omega)]
    exact HB1.out.2)
  have k0 : w2.cell? ⟨w.heap.size, 0, none⟩ = some (.int .u8 11) := by rw [mg_cell (BX.out _ _ _ _ _ G0) 0, ← HK.out]; rfl
  have HS2 := Lib.hid hs2
  have HG0 := Lib.hid G0
  clear hs2
  obtain ⟨g0, hg0⟩ : ∃ g0, g0 = w1.heap.size := ⟨_, rfl⟩
  rw [← hg0] at G0 BX HG0 H2 ⊢
  have HG0E := Lib.hid hg0
  clear hg0
  go_upto_region 27 with fail
  clear k0 G0
  have G0 := HG0.out.below (Below.refl _ _).drew
  have HU := Lib.hid (show Below w2.heap.size w2 (w2.alloc (.cells #[.int .u8 m.pg] 5)).drew ∧ w2.heap.size < (w2.alloc (.cells #[.int .u8 m.pg] 5)).drew.heap.size ∧ (Value.slice (some ⟨g0, 0, none⟩) 4 4).ownBlock ≠ some w2.heap.size ∧ (w2.alloc (.cells #[.int .u8 m.pg] 5)).drew.heap[w2.heap.size]? = some (.cells (vals [m.pg]).toArray 5 (0, 0)) from
    ⟨(((Below.refl _ _).alloc (Nat.le_refl _) _).drew), by show _ < (w2.alloc _).heap.size; simp, by have := HS2.out; have := HG0E.out; simp [Value.ownBlock]; omega, heap_alloc_new _ _⟩)
  have Gu := GR.start (HG0.out.below HU.out.1).own
  refine wp_region_held_drew (S := fun wx => wx.heap[w.heap.size]? = some (.cells m.cells.toArray 37 (0, 0))) (by kernel_rfl) ((BX.out _ _ _ _ _ G0)) (fun hS => ?_)
  refine tm 0 (.slice (some ⟨g0, 0, none⟩) 4 4) rfl hS ?_
  refine tg 1 (.pointer (some ⟨w.heap.size, 5, none⟩)) rfl hS ?_
  refine tk 2 (.int .u32 m.sq) rfl (yi_load 22 (.tmp 108) (.pointer (some ⟨w.heap.size, 5, none⟩)) rfl rfl rfl (fun wq hw => by have q : wq.cell? ⟨w.heap.size, 5, none⟩ = some (.int .u32 m.sq) := (mg_cell hw 5).trans rfl; go_simp)) hS ?_
  refine tk 3 (.int .u64 m.sq) rfl (.inl ⟨rfl, fun _ _ => by go_simp <;> first | exact hwvw | exact hwsq | exact hwrs⟩) hS ?_
  refine tg 5 (.pointer (some ⟨w.heap.size, 13, none⟩)) rfl hS ?_
  refine tk 6 (.int .u8 m.pg) rfl (yi_load 5 (.tmp 112) (.pointer (some ⟨w.heap.size, 13, none⟩)) rfl rfl rfl (fun wq hw => by have q : wq.cell? ⟨w.heap.size, 13, none⟩ = some (.int .u8 m.pg) := (mg_cell hw 13).trans rfl; go_simp)) hS ?_
  refine wpAnyH_ready (rs := [4, 7]) (by kernel_rfl) (by simp) ?_
  refine AllReadyH.cons rfl (fun K hK => ?_) (AllReadyH.cons rfl (fun K hK => ?_) AllReadyH.nil)
  · rw [if_pos (by rfl)]
    go_simp
    refine Calls.mono ((put_e G0 m.sq 4 8 (by decide) (by decide) rfl)) ?_
    rintro e v1 ⟨a1, z1, rfl, M1⟩
    refine hK.out _ _ ((BX.out _ _ _ _ _ M1)) (fun hS => ?_)
    clear hK K
    refine rdy1 7 rfl (fun K hK => ?_)
    rw [if_pos (by rfl)]
    go_simp
    refine hK.out _ _ ((BX.out _ _ _ _ _ (M1.below ((Below.refl _ _).alloc (Nat.le_refl _) _)))) (fun hS => ?_)
    clear hK K
    refine rdy1 8 rfl (fun K hK => ?_)
    rw [if_pos (by rfl)]
    first | (refine app_e (M1.below ((Below.refl _ _).alloc (Nat.le_refl _) _)) (.tmp 111) (.tmp 114) rfl rfl (some ⟨v1.heap.size, 0, none⟩) 1 1 [m.pg] rfl rfl (by exact bytes_new _ [m.pg] 5) (by intro h; cases h) (by decide) ?_) | (refine app_e M1 (.tmp 111) (.tmp 114) rfl rfl (some ⟨w2.heap.size, 0, none⟩) 1 1 [m.pg] rfl rfl (bytes_block (by rw [Mu.block HU.out.2.1 HU.out.2.2.1]; exact HU.out.2.2.2)) (by intro h; cases h) (by decide) ?_)
    intro a2 z2 v2 M2
    refine hK.out _ _ ((BX.out _ _ _ _ _ M2)) (fun hS => ?_)
    clear hK K
    refine tm 9 (.slice a2 9 z2) rfl hS ?_
    refine wpAnyH_done (by kernel_rfl) ?_ _
    have MM := Lib.hid M2
    clear hS
    go_wp2_with fail
    have hE : encM m c = [(11 : Int), m.f, m.t, m.e] ++ be m.sq 4 ++ [m.pg] := by
      unfold encM encUp
      rw [HK.out]
      simp [partsOf, partY, wordB, be_4]
    have q := MM.out
    obtain ⟨qn, qb⟩ := q.new (H := w.heap.size) (w := w) (by simp [be_length]) (by have := HG0E.out; have := HB1.out.1.size; have := HSZ.out; omega) (by have := HS2.out; have := HB1.out.1.size; have := HSZ.out; omega) ((HBL.out.trans (HB1.out.1.mono HBL.out.size)).trans (H2.out.1.mono (by have := HG0E.out; have := HB1.out.1.size; have := HSZ.out; omega)))
    rw [hE]
    refine bodyPost_ret (v := .tuple #[.slice _ 9 _, .int .i64 0]) (by simp [results, Tryz.results9, go_sem]; exact ⟨rfl, rfl⟩) rfl ⟨_, _, by rw [show ([(11 : Int), m.f, m.t, m.e] ++ be m.sq 4 ++ [m.pg]).length = 9 by simp [be_length]], qn, qb⟩
  · rw [if_pos (by rfl)]
    go_simp
    refine hK.out _ _ ((BX.out _ _ _ _ _ (HG0.out.below HU.out.1))) (fun hS => ?_)
    clear hK K
    refine rdy1 4 rfl (fun K hK => ?_)
    rw [if_pos (by rfl)]
    go_simp
    refine Calls.mono ((put_e Gu m.sq 4 8 (by decide) (by decide) rfl)) ?_
    rintro e v1 ⟨a1, z1, rfl, Mu⟩
    have M1 := (HG0.out.below HU.out.1).trans Mu
    refine hK.out _ _ ((BX.out _ _ _ _ _ M1)) (fun hS => ?_)
    clear hK K
    refine rdy1 8 rfl (fun K hK => ?_)
    rw [if_pos (by rfl)]
    first | (refine app_e (M1.below ((Below.refl _ _).alloc (Nat.le_refl _) _)) (.tmp 111) (.tmp 114) rfl rfl (some ⟨v1.heap.size, 0, none⟩) 1 1 [m.pg] rfl rfl (by exact bytes_new _ [m.pg] 5) (by intro h; cases h) (by decide) ?_) | (refine app_e M1 (.tmp 111) (.tmp 114) rfl rfl (some ⟨w2.heap.size, 0, none⟩) 1 1 [m.pg] rfl rfl (bytes_block (by rw [Mu.block HU.out.2.1 HU.out.2.2.1]; exact HU.out.2.2.2)) (by intro h; cases h) (by decide) ?_)
    intro a2 z2 v2 M2
    refine hK.out _ _ ((BX.out _ _ _ _ _ M2)) (fun hS => ?_)
    clear hK K
    refine tm 9 (.slice a2 9 z2) rfl hS ?_
    refine wpAnyH_done (by kernel_rfl) ?_ _
    have MM := Lib.hid M2
    clear hS
    go_wp2_with fail
    have hE : encM m c = [(11 : Int), m.f, m.t, m.e] ++ be m.sq 4 ++ [m.pg] := by
      unfold encM encUp
      rw [HK.out]
      simp [partsOf, partY, wordB, be_4]
    have q := MM.out
    obtain ⟨qn, qb⟩ := q.new (H := w.heap.size) (w := w) (by simp [be_length]) (by have := HG0E.out; have := HB1.out.1.size; have := HSZ.out; omega) (by have := HS2.out; have := HB1.out.1.size; have := HSZ.out; omega) ((HBL.out.trans (HB1.out.1.mono HBL.out.size)).trans (H2.out.1.mono (by have := HG0E.out; have := HB1.out.1.size; have := HSZ.out; omega)))
    rw [hE]
    refine bodyPost_ret (v := .tuple #[.slice _ 9 _, .int .i64 0]) (by simp [results, Tryz.results9, go_sem]; exact ⟨rfl, rfl⟩) rfl ⟨_, _, by rw [show ([(11 : Int), m.f, m.t, m.e] ++ be m.sq 4 ++ [m.pg]).length = 9 by simp [be_length]], qn, qb⟩

set_option maxHeartbeats 8000000 in
theorem refEnc_k12 (w : World) (m : Mg) (c : Mc) (hm : MgAt w m c) (hok : ∀ x ∈ c.vs, (∀ y ∈ x.2.p, 0 ≤ y.s ∧ y.rq.ok) ∧ ∀ y ∈ x.2.q, 0 ≤ y.s ∧ y.rq.ok) (hvo : (∀ y ∈ c.vt.p, 0 ≤ y.s ∧ y.rq.ok) ∧ ∀ y ∈ c.vt.q, 0 ≤ y.s ∧ y.rq.ok)
    (hf : 0 ≤ m.f ∧ m.f ≤ 255) (ht : 0 ≤ m.t ∧ m.t ≤ 255) (hg : ((0 ≤ m.vw ∧ m.vw ≤ 4294967295) ∧ (0 ≤ m.sq ∧ m.sq ≤ 4294967295) ∧ (0 ≤ m.rs ∧ m.rs ≤ 4294967295) ∧ m.rq.ok ∧ VtR m.vt c.vt ∧ (∀ x ∈ c.vs, VtR x.1 x.2) ∧ (∀ x ∈ c.sm, 0 ≤ x ∧ x ≤ 18446744073709551615))) (hk : m.k = 12) (hi : isM m c = true) :
    Calls Tryz.prog 9 #[.agg m.cells.toArray] w fun e w' => ∃ ao z, e = .returned (.tuple #[.slice ao (encM m c).length z, .int .i64 0]) ∧ New w.heap.size w' ao z (encM m c) ∧ Below w.heap.size w w' := by
  obtain ⟨W, hW⟩ : ∃ W, W = w.alloc (.cells m.cells.toArray 37) := ⟨_, rfl⟩
  have hbx := bx1 hW
  have hbl := bl1 hW
  have hs : W.heap.size = w.heap.size + 1 := by rw [hW]; simp
  have IS := refIs_any W m c (hm.below hbl) hok hvo hf ht
  rw [hi] at IS
  have IS := Lib.hid IS
  have HM := Lib.hid hm
  have HI := Lib.hid hi
  have HG := Lib.hid hg
  have HK := Lib.hid hk
  have HW := Lib.hid hW
  have HBX := Lib.hid hbx
  have HBL := Lib.hid hbl
  have HSZ := Lib.hid hs
  have hwvw : IntKind.u64.wrap m.vw = m.vw := by rw [IntKind.wrap_u64]; omega
  have hwsq : IntKind.u64.wrap m.sq = m.sq := by rw [IntKind.wrap_u64]; omega
  have hwrs : IntKind.u64.wrap m.rs = m.rs := by rw [IntKind.wrap_u64]; omega
  clear hm hok hvo hf ht hg hk hi hW hbx hbl hs
  obtain ⟨A, hA⟩ : ∃ A, A = m.cells.toArray := ⟨_, rfl⟩
  rw [← hA] at IS HW ⊢
  have HA := Lib.hid hA
  clear hA
  go_enter Tryz.func9, Tryz.ntmps9
  go_upto_region 1 with fail
  rw [← HW.out]
  refine wp_region_lit ?_
  refine wpList_load_row rfl 37 (.tmp 1) rfl w.heap.size rfl 37 A (0, 0) _ (by rw [HA.out]; exact HBX.out) Tryz.underlying37 rfl (by rw [HA.out]; exact size37) ?_
  dsimp only
  go_wp2_with fail
  refine IS.out.mono ?_
  rintro e w1 ⟨rfl, b1⟩
  have hb1 : w1.heap[w.heap.size]? = some (.cells m.cells.toArray 37 (0, 0)) := by rw [b1.block _ (by have := HSZ.out; omega)]; exact HBX.out
  have k0 : w1.cell? ⟨w.heap.size, 0, none⟩ = some (.int .u8 12) := by rw [mg_cell hb1 0, ← HK.out]; rfl
  have k1 : w1.cell? ⟨w.heap.size, 1, none⟩ = some (.int .u8 m.f) := by rw [mg_cell hb1 1]; rfl
  have k2 : w1.cell? ⟨w.heap.size, 2, none⟩ = some (.int .u8 m.t) := by rw [mg_cell hb1 2]; rfl
  have k3 : w1.cell? ⟨w.heap.size, 3, none⟩ = some (.int .u8 m.e) := by rw [mg_cell hb1 3]; rfl
  have HB1 := Lib.hid (And.intro b1 hb1)
  have B2 : Below w1.heap.size w1 (w1.alloc (.cells #[.int .u8 12, .int .u8 m.f, .int .u8 m.t, .int .u8 m.e] 5)) := (Below.refl _ _).alloc (Nat.le_refl _) _
  have O2 : (w1.alloc (.cells #[.int .u8 12, .int .u8 m.f, .int .u8 m.t, .int .u8 m.e] 5)).ownsRow 0 5 1 (.slice (some ⟨w1.heap.size, 0, none⟩) 4 4) 4 (vals [(12 : Int), m.f, m.t, m.e]) := own_lit w1 [(12 : Int), m.f, m.t, m.e] 4 rfl (by decide)
  have H2 := Lib.hid (And.intro B2 O2)
  clear b1 hb1 B2 O2 IS
  go_upto_region 4 with fail
  obtain ⟨w2, hw2⟩ : ∃ w2, w2 = w1.alloc (.cells #[.int .u8 12, .int .u8 m.f, .int .u8 m.t, .int .u8 m.e] 5) := ⟨_, rfl⟩
  rw [← hw2] at H2 ⊢
  have hs2 : w2.heap.size = w1.heap.size + 1 := by rw [hw2]; simp
  clear k0 k1 k2 k3 hw2
  have G0 := GR.start H2.out.2
  have BX := Lib.hid (fun wx a n' c' l' (g : GR w2 (.slice (some ⟨w1.heap.size, 0, none⟩) 4 4) wx a n' c' l') => show wx.heap[w.heap.size]? = some (.cells m.cells.toArray 37 (0, 0)) by
    have h1 := HB1.out.1.size
    have h2 := HSZ.out
    rw [g.block (by omega) (by simp [Value.ownBlock]; omega), H2.out.1.block _ (by omega)]
    exact HB1.out.2)
  have k0 : w2.cell? ⟨w.heap.size, 0, none⟩ = some (.int .u8 12) := by rw [mg_cell (BX.out _ _ _ _ _ G0) 0, ← HK.out]; rfl
  have HS2 := Lib.hid hs2
  have HG0 := Lib.hid G0
  clear hs2
  obtain ⟨g0, hg0⟩ : ∃ g0, g0 = w1.heap.size := ⟨_, rfl⟩
  rw [← hg0] at G0 BX HG0 H2 ⊢
  have HG0E := Lib.hid hg0
  clear hg0
  go_upto_region 29 with fail
  have BEL := Lib.hid (fun wx a n' c' l' (g : GR w2 (.slice (some ⟨g0, 0, none⟩) 4 4) wx a n' c' l') => show Below w.heap.size w wx by
    have h0 := HG0E.out
    have h1 := HB1.out.1.size
    have h2 := HSZ.out
    have h3 := HS2.out
    exact ((HBL.out.trans (HB1.out.1.mono HBL.out.size)).trans (H2.out.1.mono (by omega))).trans (g.kept.below (by omega) (fun k e => by simp [Value.ownBlock] at e; omega)))
  have q5 : w2.cell? ⟨w.heap.size, 5, none⟩ = some (.int .u32 m.sq) := (mg_cell (BX.out _ _ _ _ _ G0) 5).trans rfl
  have hn8 : m.sm.n = 8 := by rw [(HM.out.sm : Row w 1 (fun x => [Value.int .u64 x]) m.sm.val c.sm).len]; exact isM_9 HM.out HI.out (by rw [HK.out]; decide)
  have hl8 : c.sm.length = 8 := isM_9 HM.out HI.out (by rw [HK.out]; decide)
  have HN8 := Lib.hid hn8
  have HL8 := Lib.hid hl8
  have P1 := Lib.hid (put_e HG0.out m.sq 4 8 (by decide) (by decide) rfl)
  clear G0 k0 hn8 hl8
  go_wp2_with fail
  refine P1.out.mono ?_
  rintro e v1 ⟨a1, z1, rfl, M1⟩
  have M1 := Lib.hid M1
  clear P1 q5
  go_wp2_with fail
  go_loopw [4, 6] (fun v4 v6 wr => ∃ (j : Nat) (a5 : Option Addr) (c5 : Nat), v4 = .slice a5 (8 + 8 * j) c5 ∧ v6 = .int .i64 j ∧ j ≤ 8 ∧ Hid (GR w2 (.slice (some ⟨g0, 0, none⟩) 4 4) wr a5 (8 + 8 * j) c5 ([(12 : Int), m.f, m.t, m.e] ++ be m.sq 4 ++ (c.sm.take j).flatMap be8))) (fun _ v6 _ => 8 - (intOf v6).toNat)
  case atStart => exact ⟨0, a1, z1, rfl, rfl, by omega, Lib.hid (by simpa using M1.out)⟩
  case round =>
    obtain ⟨j, a5, c5, rfl, rfl, hj, I⟩ := hrel
    have q23 : wr.cell? ⟨w.heap.size, 23, none⟩ = some (.slice m.sm.a 8 m.sm.c) := by rw [mg_cell (BX.out _ _ _ _ _ I.out) 23, ← HN8.out]; rfl
    by_cases hjm : j < 8
    · have hjm' : (j : Int) < 8 := by omega
      obtain ⟨x, hx⟩ : ∃ x, c.sm[j]? = some x := ⟨_, List.getElem?_eq_getElem (by rw [HL8.out]; exact hjm)⟩
      obtain ⟨b, o, ha, hc⟩ := (HM.out.sm.below (BEL.out _ _ _ _ _ I.out)).cells (by rw [HL8.out]; omega)
      have qx : wr.cell? ⟨b, o + j, none⟩ = some (.int .u64 x) := by
        have q := hc j x hx 0 _ rfl
        rwa [Nat.mul_one, Nat.add_zero] at q
      rw [ha] at q23
      have HX := Lib.hid hx
      clear hc hx ha
      obtain ⟨p, hp⟩ : ∃ p, p = 8 + 8 * j := ⟨_, rfl⟩
      rw [← hp] at I ⊢
      have hpb : p ≤ 100 := by omega
      have HP := Lib.hid hp
      have P2 := Lib.hid (put_e I.out x 8 (p + 8) (by decide) (by omega) rfl)
      clear hp
      go_wp2_with fail
      refine P2.out.mono ?_
      rintro e v2 ⟨a6, c6, rfl, M6⟩
      have M6 := Lib.hid M6
      clear P2 qx q23
      go_wp2_with fail
      have hp := HP.out
      refine ⟨⟨j + 1, a6, c6, by rw [show 8 + 8 * (j + 1) = p + 8 by omega], by go_num, by omega, Lib.hid ?_⟩, by simp [intOf]; omega⟩
      rw [show 8 + 8 * (j + 1) = p + 8 by omega, take_next HX.out]
      have q := M6.out
      rw [be_8, List.append_assoc] at q
      exact q
    · obtain rfl : j = 8 := by omega
      have MM := Lib.hid I.out
      rw [show List.take 8 c.sm = c.sm from List.take_of_length_le (by rw [HL8.out]; exact Nat.le_refl _)] at MM
      simp only [Nat.reduceMul, Nat.reduceAdd] at MM ⊢
      clear I
      go_wp2_with fail
      have hE : encM m c = [(12 : Int), m.f, m.t, m.e] ++ be m.sq 4 ++ c.sm.flatMap be8 := by
        unfold encM encUp
        rw [HK.out]
        simp [partsOf, partY, wordB, be_4]
      have q := MM.out
      obtain ⟨qn, qb⟩ := q.new (H := w.heap.size) (w := w) (by rw [List.length_append, flatMap_len be8_len, HL8.out]; simp [be_length]) (by have := HG0E.out; have := HB1.out.1.size; have := HSZ.out; omega) (by have := HS2.out; have := HB1.out.1.size; have := HSZ.out; omega) ((HBL.out.trans (HB1.out.1.mono HBL.out.size)).trans (H2.out.1.mono (by have := HG0E.out; have := HB1.out.1.size; have := HSZ.out; omega)))
      rw [hE]
      refine bodyPost_ret (v := .tuple #[.slice _ 72 _, .int .i64 0]) (by simp [results, Tryz.results9, go_sem]; exact ⟨rfl, rfl⟩) rfl ⟨_, _, by rw [show ([(12 : Int), m.f, m.t, m.e] ++ be m.sq 4 ++ c.sm.flatMap be8).length = 72 by rw [List.length_append, flatMap_len be8_len, HL8.out]; simp [be_length]], qn, qb⟩

set_option maxHeartbeats 8000000 in
theorem refEnc_k13 (w : World) (m : Mg) (c : Mc) (hm : MgAt w m c) (hok : ∀ x ∈ c.vs, (∀ y ∈ x.2.p, 0 ≤ y.s ∧ y.rq.ok) ∧ ∀ y ∈ x.2.q, 0 ≤ y.s ∧ y.rq.ok) (hvo : (∀ y ∈ c.vt.p, 0 ≤ y.s ∧ y.rq.ok) ∧ ∀ y ∈ c.vt.q, 0 ≤ y.s ∧ y.rq.ok)
    (hf : 0 ≤ m.f ∧ m.f ≤ 255) (ht : 0 ≤ m.t ∧ m.t ≤ 255) (hg : ((0 ≤ m.vw ∧ m.vw ≤ 4294967295) ∧ (0 ≤ m.sq ∧ m.sq ≤ 4294967295) ∧ (0 ≤ m.rs ∧ m.rs ≤ 4294967295) ∧ m.rq.ok ∧ VtR m.vt c.vt ∧ (∀ x ∈ c.vs, VtR x.1 x.2) ∧ (∀ x ∈ c.sm, 0 ≤ x ∧ x ≤ 18446744073709551615))) (hk : m.k = 13) (hi : isM m c = true) :
    Calls Tryz.prog 9 #[.agg m.cells.toArray] w fun e w' => ∃ ao z, e = .returned (.tuple #[.slice ao (encM m c).length z, .int .i64 0]) ∧ New w.heap.size w' ao z (encM m c) ∧ Below w.heap.size w w' := by
  obtain ⟨W, hW⟩ : ∃ W, W = w.alloc (.cells m.cells.toArray 37) := ⟨_, rfl⟩
  have hbx := bx1 hW
  have hbl := bl1 hW
  have hs : W.heap.size = w.heap.size + 1 := by rw [hW]; simp
  have IS := refIs_any W m c (hm.below hbl) hok hvo hf ht
  rw [hi] at IS
  have IS := Lib.hid IS
  have HM := Lib.hid hm
  have HI := Lib.hid hi
  have HG := Lib.hid hg
  have HK := Lib.hid hk
  have HW := Lib.hid hW
  have HBX := Lib.hid hbx
  have HBL := Lib.hid hbl
  have HSZ := Lib.hid hs
  have hwvw : IntKind.u64.wrap m.vw = m.vw := by rw [IntKind.wrap_u64]; omega
  have hwsq : IntKind.u64.wrap m.sq = m.sq := by rw [IntKind.wrap_u64]; omega
  have hwrs : IntKind.u64.wrap m.rs = m.rs := by rw [IntKind.wrap_u64]; omega
  clear hm hok hvo hf ht hg hk hi hW hbx hbl hs
  obtain ⟨A, hA⟩ : ∃ A, A = m.cells.toArray := ⟨_, rfl⟩
  rw [← hA] at IS HW ⊢
  have HA := Lib.hid hA
  clear hA
  go_enter Tryz.func9, Tryz.ntmps9
  go_upto_region 1 with fail
  rw [← HW.out]
  refine wp_region_lit ?_
  refine wpList_load_row rfl 37 (.tmp 1) rfl w.heap.size rfl 37 A (0, 0) _ (by rw [HA.out]; exact HBX.out) Tryz.underlying37 rfl (by rw [HA.out]; exact size37) ?_
  dsimp only
  go_wp2_with fail
  refine IS.out.mono ?_
  rintro e w1 ⟨rfl, b1⟩
  have hb1 : w1.heap[w.heap.size]? = some (.cells m.cells.toArray 37 (0, 0)) := by rw [b1.block _ (by have := HSZ.out; omega)]; exact HBX.out
  have k0 : w1.cell? ⟨w.heap.size, 0, none⟩ = some (.int .u8 13) := by rw [mg_cell hb1 0, ← HK.out]; rfl
  have k1 : w1.cell? ⟨w.heap.size, 1, none⟩ = some (.int .u8 m.f) := by rw [mg_cell hb1 1]; rfl
  have k2 : w1.cell? ⟨w.heap.size, 2, none⟩ = some (.int .u8 m.t) := by rw [mg_cell hb1 2]; rfl
  have k3 : w1.cell? ⟨w.heap.size, 3, none⟩ = some (.int .u8 m.e) := by rw [mg_cell hb1 3]; rfl
  have HB1 := Lib.hid (And.intro b1 hb1)
  have B2 : Below w1.heap.size w1 (w1.alloc (.cells #[.int .u8 13, .int .u8 m.f, .int .u8 m.t, .int .u8 m.e] 5)) := (Below.refl _ _).alloc (Nat.le_refl _) _
  have O2 : (w1.alloc (.cells #[.int .u8 13, .int .u8 m.f, .int .u8 m.t, .int .u8 m.e] 5)).ownsRow 0 5 1 (.slice (some ⟨w1.heap.size, 0, none⟩) 4 4) 4 (vals [(13 : Int), m.f, m.t, m.e]) := own_lit w1 [(13 : Int), m.f, m.t, m.e] 4 rfl (by decide)
  have H2 := Lib.hid (And.intro B2 O2)
  clear b1 hb1 B2 O2 IS
  go_upto_region 4 with fail
  obtain ⟨w2, hw2⟩ : ∃ w2, w2 = w1.alloc (.cells #[.int .u8 13, .int .u8 m.f, .int .u8 m.t, .int .u8 m.e] 5) := ⟨_, rfl⟩
  rw [← hw2] at H2 ⊢
  have hs2 : w2.heap.size = w1.heap.size + 1 := by rw [hw2]; simp
  clear k0 k1 k2 k3 hw2
  have G0 := GR.start H2.out.2
  have BX := Lib.hid (fun wx a n' c' l' (g : GR w2 (.slice (some ⟨w1.heap.size, 0, none⟩) 4 4) wx a n' c' l') => show wx.heap[w.heap.size]? = some (.cells m.cells.toArray 37 (0, 0)) by
    have h1 := HB1.out.1.size
    have h2 := HSZ.out
    rw [g.block (by omega) (by simp [Value.ownBlock]; omega), H2.out.1.block _ (by omega)]
    exact HB1.out.2)
  have k0 : w2.cell? ⟨w.heap.size, 0, none⟩ = some (.int .u8 13) := by rw [mg_cell (BX.out _ _ _ _ _ G0) 0, ← HK.out]; rfl
  have HS2 := Lib.hid hs2
  have HG0 := Lib.hid G0
  clear hs2
  obtain ⟨g0, hg0⟩ : ∃ g0, g0 = w1.heap.size := ⟨_, rfl⟩
  rw [← hg0] at G0 BX HG0 H2 ⊢
  have HG0E := Lib.hid hg0
  clear hg0
  go_upto_region 35 with fail
  have BEL := Lib.hid (fun wx a n' c' l' (g : GR w2 (.slice (some ⟨g0, 0, none⟩) 4 4) wx a n' c' l') => show Below w.heap.size w wx by
    have h0 := HG0E.out
    have h1 := HB1.out.1.size
    have h2 := HSZ.out
    have h3 := HS2.out
    exact ((HBL.out.trans (HB1.out.1.mono HBL.out.size)).trans (H2.out.1.mono (by omega))).trans (g.kept.below (by omega) (fun k e => by simp [Value.ownBlock] at e; omega)))
  have HDN := Lib.hid (show m.dt.a = none → m.dt.n = 0 ∧ m.dt.c = 0 from fun e => by
    have h1 := HM.out.dt.2.2.1 e
    have h2 := HM.out.dt.2.2.2.1
    have h3 := HM.out.dt.1
    omega)
  have HDB := Lib.hid (show m.dt.n ≤ 64 by
    have h1 := isM_10 HM.out HI.out (by rw [HK.out]; decide)
    have h3 := HM.out.dt.1
    omega)
  have hwn : IntKind.u64.wrap (m.dt.n : Int) = m.dt.n := by rw [IntKind.wrap_u64]; have := HDB.out; omega
  have hdn : (m.dt.n : Int) ≤ 64 := by have := HDB.out; omega
  clear k0 G0
  have G0 := HG0.out.below (Below.refl _ _).drew
  have HU := Lib.hid (show Below w2.heap.size w2 (w2.alloc (.cells #[.int .u8 m.pg] 5)).drew ∧ w2.heap.size < (w2.alloc (.cells #[.int .u8 m.pg] 5)).drew.heap.size ∧ (Value.slice (some ⟨g0, 0, none⟩) 4 4).ownBlock ≠ some w2.heap.size ∧ (w2.alloc (.cells #[.int .u8 m.pg] 5)).drew.heap[w2.heap.size]? = some (.cells (vals [m.pg]).toArray 5 (0, 0)) from
    ⟨(((Below.refl _ _).alloc (Nat.le_refl _) _).drew), by show _ < (w2.alloc _).heap.size; simp, by have := HS2.out; have := HG0E.out; simp [Value.ownBlock]; omega, heap_alloc_new _ _⟩)
  have Gu := GR.start (HG0.out.below HU.out.1).own
  refine wp_region_held_drew (S := fun wx => wx.heap[w.heap.size]? = some (.cells m.cells.toArray 37 (0, 0))) (by kernel_rfl) ((BX.out _ _ _ _ _ G0)) (fun hS => ?_)
  refine tm 0 (.slice (some ⟨g0, 0, none⟩) 4 4) rfl hS ?_
  refine tg 1 (.pointer (some ⟨w.heap.size, 5, none⟩)) rfl hS ?_
  refine tk 2 (.int .u32 m.sq) rfl (yi_load 22 (.tmp 140) (.pointer (some ⟨w.heap.size, 5, none⟩)) rfl rfl rfl (fun wq hw => by have q : wq.cell? ⟨w.heap.size, 5, none⟩ = some (.int .u32 m.sq) := (mg_cell hw 5).trans rfl; go_simp)) hS ?_
  refine tk 3 (.int .u64 m.sq) rfl (.inl ⟨rfl, fun _ _ => by go_simp <;> first | exact hwvw | exact hwsq | exact hwrs⟩) hS ?_
  refine tg 5 (.pointer (some ⟨w.heap.size, 13, none⟩)) rfl hS ?_
  refine tk 6 (.int .u8 m.pg) rfl (yi_load 5 (.tmp 144) (.pointer (some ⟨w.heap.size, 13, none⟩)) rfl rfl rfl (fun wq hw => by have q : wq.cell? ⟨w.heap.size, 13, none⟩ = some (.int .u8 m.pg) := (mg_cell hw 13).trans rfl; go_simp)) hS ?_
  refine wpAnyH_ready (rs := [4, 7]) (by kernel_rfl) (by simp) ?_
  refine AllReadyH.cons rfl (fun K hK => ?_) (AllReadyH.cons rfl (fun K hK => ?_) AllReadyH.nil)
  · rw [if_pos (by rfl)]
    go_simp
    refine Calls.mono ((put_e G0 m.sq 4 8 (by decide) (by decide) rfl)) ?_
    rintro e v1 ⟨a1, z1, rfl, M1⟩
    refine hK.out _ _ ((BX.out _ _ _ _ _ M1)) (fun hS => ?_)
    clear hK K
    refine rdy1 7 rfl (fun K hK => ?_)
    rw [if_pos (by rfl)]
    go_simp
    refine hK.out _ _ ((BX.out _ _ _ _ _ (M1.below ((Below.refl _ _).alloc (Nat.le_refl _) _)))) (fun hS => ?_)
    clear hK K
    refine rdy1 8 rfl (fun K hK => ?_)
    rw [if_pos (by rfl)]
    first | (refine app_e (M1.below ((Below.refl _ _).alloc (Nat.le_refl _) _)) (.tmp 143) (.tmp 146) rfl rfl (some ⟨v1.heap.size, 0, none⟩) 1 1 [m.pg] rfl rfl (by exact bytes_new _ [m.pg] 5) (by intro h; cases h) (by decide) ?_) | (refine app_e M1 (.tmp 143) (.tmp 146) rfl rfl (some ⟨w2.heap.size, 0, none⟩) 1 1 [m.pg] rfl rfl (bytes_block (by rw [Mu.block HU.out.2.1 HU.out.2.2.1]; exact HU.out.2.2.2)) (by intro h; cases h) (by decide) ?_)
    intro a2 z2 v2 M2
    refine hK.out _ _ ((BX.out _ _ _ _ _ M2)) (fun hS => ?_)
    clear hK K
    refine tm 9 (.slice a2 9 z2) rfl hS ?_
    refine wpAnyH_done (by kernel_rfl) ?_ _
    have MM := Lib.hid M2
    clear hS
    have G2 := MM.out.below (Below.refl _ _).drew
    go_upto_region 36 with fail
    refine wp_region_held_drew (S := fun wx => wx.heap[w.heap.size]? = some (.cells m.cells.toArray 37 (0, 0))) (by kernel_rfl) ((BX.out _ _ _ _ _ G2)) (fun hS => ?_)
    refine tm 0 (.slice a2 9 z2) rfl hS ?_
    refine tg 1 (.pointer (some ⟨w.heap.size, 24, none⟩)) rfl hS ?_
    refine tk 2 (.slice m.dt.a m.dt.n m.dt.c) rfl (yi_load 35 (.tmp 149) (.pointer (some ⟨w.heap.size, 24, none⟩)) rfl rfl rfl (fun wq hw => by have q : wq.cell? ⟨w.heap.size, 24, none⟩ = some (.slice m.dt.a m.dt.n m.dt.c) := (mg_cell hw 24).trans rfl; go_simp)) hS ?_
    refine tg 3 (.int .i64 (m.dt.n : Int)) rfl hS ?_
    refine tk 4 (.int .u64 (m.dt.n : Int)) rfl (.inl ⟨rfl, fun _ _ => by go_simp <;> exact hwn⟩) hS ?_
    refine tg 6 (.pointer (some ⟨w.heap.size, 24, none⟩)) rfl hS ?_
    refine tk 7 (.slice m.dt.a m.dt.n m.dt.c) rfl (yi_load 35 (.tmp 154) (.pointer (some ⟨w.heap.size, 24, none⟩)) rfl rfl rfl (fun wq hw => by have q : wq.cell? ⟨w.heap.size, 24, none⟩ = some (.slice m.dt.a m.dt.n m.dt.c) := (mg_cell hw 24).trans rfl; go_simp)) hS ?_
    refine rdy1 5 rfl (fun K hK => ?_)
    rw [if_pos (by rfl)]
    go_simp
    refine Calls.mono ((put_e G2 (m.dt.n : Int) 2 11 (by decide) (by decide) rfl)) ?_
    rintro e v3 ⟨a3, z3, rfl, M3⟩
    refine hK.out _ _ ((BX.out _ _ _ _ _ M3)) (fun hS => ?_)
    clear hK K
    refine rdy1 8 rfl (fun K hK => ?_)
    rw [if_pos (by rfl)]
    refine app_e M3 (.tmp 153) (.tmp 155) rfl rfl m.dt.a m.dt.n m.dt.c c.dt rfl HM.out.dt.1.symm (bytes_below HM.out.dt.2.1 (BEL.out _ _ _ _ _ M3) (Nat.le_refl _)) HDN.out (by have := HDB.out; omega) ?_
    intro a4 z4 v4 M4
    refine hK.out _ _ ((BX.out _ _ _ _ _ M4)) (fun hS => ?_)
    clear hK K
    refine tm 9 (.slice a4 (11 + m.dt.n) z4) rfl hS ?_
    refine wpAnyH_done (by kernel_rfl) ?_ _
    have MN := Lib.hid M4
    clear hS
    have hdb := HDB.out
    go_wp2_with fail
    have hE : encM m c = [(13 : Int), m.f, m.t, m.e] ++ be m.sq 4 ++ [m.pg] ++ be (m.dt.n : Int) 2 ++ c.dt := by
      unfold encM encUp
      rw [HK.out]
      simp [partsOf, partY, wordB, be_4, be_2, b2, lenBytes, HM.out.dt.1]
    have q := MN.out
    obtain ⟨qn, qb⟩ := q.new (H := w.heap.size) (w := w) (by simp [be_length, HM.out.dt.1]; omega) (by have := HG0E.out; have := HB1.out.1.size; have := HSZ.out; omega) (by have := HS2.out; have := HB1.out.1.size; have := HSZ.out; omega) ((HBL.out.trans (HB1.out.1.mono HBL.out.size)).trans (H2.out.1.mono (by have := HG0E.out; have := HB1.out.1.size; have := HSZ.out; omega)))
    rw [hE]
    refine bodyPost_ret (v := .tuple #[.slice _ (11 + m.dt.n) _, .int .i64 0]) (by simp [results, Tryz.results9, go_sem]; exact ⟨rfl, rfl⟩) rfl ⟨_, _, by rw [show ([(13 : Int), m.f, m.t, m.e] ++ be m.sq 4 ++ [m.pg] ++ be (m.dt.n : Int) 2 ++ c.dt).length = (11 + m.dt.n) by simp [be_length, HM.out.dt.1]; omega], qn, qb⟩
  · rw [if_pos (by rfl)]
    go_simp
    refine hK.out _ _ ((BX.out _ _ _ _ _ (HG0.out.below HU.out.1))) (fun hS => ?_)
    clear hK K
    refine rdy1 4 rfl (fun K hK => ?_)
    rw [if_pos (by rfl)]
    go_simp
    refine Calls.mono ((put_e Gu m.sq 4 8 (by decide) (by decide) rfl)) ?_
    rintro e v1 ⟨a1, z1, rfl, Mu⟩
    have M1 := (HG0.out.below HU.out.1).trans Mu
    refine hK.out _ _ ((BX.out _ _ _ _ _ M1)) (fun hS => ?_)
    clear hK K
    refine rdy1 8 rfl (fun K hK => ?_)
    rw [if_pos (by rfl)]
    first | (refine app_e (M1.below ((Below.refl _ _).alloc (Nat.le_refl _) _)) (.tmp 143) (.tmp 146) rfl rfl (some ⟨v1.heap.size, 0, none⟩) 1 1 [m.pg] rfl rfl (by exact bytes_new _ [m.pg] 5) (by intro h; cases h) (by decide) ?_) | (refine app_e M1 (.tmp 143) (.tmp 146) rfl rfl (some ⟨w2.heap.size, 0, none⟩) 1 1 [m.pg] rfl rfl (bytes_block (by rw [Mu.block HU.out.2.1 HU.out.2.2.1]; exact HU.out.2.2.2)) (by intro h; cases h) (by decide) ?_)
    intro a2 z2 v2 M2
    refine hK.out _ _ ((BX.out _ _ _ _ _ M2)) (fun hS => ?_)
    clear hK K
    refine tm 9 (.slice a2 9 z2) rfl hS ?_
    refine wpAnyH_done (by kernel_rfl) ?_ _
    have MM := Lib.hid M2
    clear hS
    have G2 := MM.out.below (Below.refl _ _).drew
    go_upto_region 36 with fail
    refine wp_region_held_drew (S := fun wx => wx.heap[w.heap.size]? = some (.cells m.cells.toArray 37 (0, 0))) (by kernel_rfl) ((BX.out _ _ _ _ _ G2)) (fun hS => ?_)
    refine tm 0 (.slice a2 9 z2) rfl hS ?_
    refine tg 1 (.pointer (some ⟨w.heap.size, 24, none⟩)) rfl hS ?_
    refine tk 2 (.slice m.dt.a m.dt.n m.dt.c) rfl (yi_load 35 (.tmp 149) (.pointer (some ⟨w.heap.size, 24, none⟩)) rfl rfl rfl (fun wq hw => by have q : wq.cell? ⟨w.heap.size, 24, none⟩ = some (.slice m.dt.a m.dt.n m.dt.c) := (mg_cell hw 24).trans rfl; go_simp)) hS ?_
    refine tg 3 (.int .i64 (m.dt.n : Int)) rfl hS ?_
    refine tk 4 (.int .u64 (m.dt.n : Int)) rfl (.inl ⟨rfl, fun _ _ => by go_simp <;> exact hwn⟩) hS ?_
    refine tg 6 (.pointer (some ⟨w.heap.size, 24, none⟩)) rfl hS ?_
    refine tk 7 (.slice m.dt.a m.dt.n m.dt.c) rfl (yi_load 35 (.tmp 154) (.pointer (some ⟨w.heap.size, 24, none⟩)) rfl rfl rfl (fun wq hw => by have q : wq.cell? ⟨w.heap.size, 24, none⟩ = some (.slice m.dt.a m.dt.n m.dt.c) := (mg_cell hw 24).trans rfl; go_simp)) hS ?_
    refine rdy1 5 rfl (fun K hK => ?_)
    rw [if_pos (by rfl)]
    go_simp
    refine Calls.mono ((put_e G2 (m.dt.n : Int) 2 11 (by decide) (by decide) rfl)) ?_
    rintro e v3 ⟨a3, z3, rfl, M3⟩
    refine hK.out _ _ ((BX.out _ _ _ _ _ M3)) (fun hS => ?_)
    clear hK K
    refine rdy1 8 rfl (fun K hK => ?_)
    rw [if_pos (by rfl)]
    refine app_e M3 (.tmp 153) (.tmp 155) rfl rfl m.dt.a m.dt.n m.dt.c c.dt rfl HM.out.dt.1.symm (bytes_below HM.out.dt.2.1 (BEL.out _ _ _ _ _ M3) (Nat.le_refl _)) HDN.out (by have := HDB.out; omega) ?_
    intro a4 z4 v4 M4
    refine hK.out _ _ ((BX.out _ _ _ _ _ M4)) (fun hS => ?_)
    clear hK K
    refine tm 9 (.slice a4 (11 + m.dt.n) z4) rfl hS ?_
    refine wpAnyH_done (by kernel_rfl) ?_ _
    have MN := Lib.hid M4
    clear hS
    have hdb := HDB.out
    go_wp2_with fail
    have hE : encM m c = [(13 : Int), m.f, m.t, m.e] ++ be m.sq 4 ++ [m.pg] ++ be (m.dt.n : Int) 2 ++ c.dt := by
      unfold encM encUp
      rw [HK.out]
      simp [partsOf, partY, wordB, be_4, be_2, b2, lenBytes, HM.out.dt.1]
    have q := MN.out
    obtain ⟨qn, qb⟩ := q.new (H := w.heap.size) (w := w) (by simp [be_length, HM.out.dt.1]; omega) (by have := HG0E.out; have := HB1.out.1.size; have := HSZ.out; omega) (by have := HS2.out; have := HB1.out.1.size; have := HSZ.out; omega) ((HBL.out.trans (HB1.out.1.mono HBL.out.size)).trans (H2.out.1.mono (by have := HG0E.out; have := HB1.out.1.size; have := HSZ.out; omega)))
    rw [hE]
    refine bodyPost_ret (v := .tuple #[.slice _ (11 + m.dt.n) _, .int .i64 0]) (by simp [results, Tryz.results9, go_sem]; exact ⟨rfl, rfl⟩) rfl ⟨_, _, by rw [show ([(13 : Int), m.f, m.t, m.e] ++ be m.sq 4 ++ [m.pg] ++ be (m.dt.n : Int) 2 ++ c.dt).length = (11 + m.dt.n) by simp [be_length, HM.out.dt.1]; omega], qn, qb⟩

set_option maxHeartbeats 8000000 in
theorem refEnc_k14 (w : World) (m : Mg) (c : Mc) (hm : MgAt w m c) (hok : ∀ x ∈ c.vs, (∀ y ∈ x.2.p, 0 ≤ y.s ∧ y.rq.ok) ∧ ∀ y ∈ x.2.q, 0 ≤ y.s ∧ y.rq.ok) (hvo : (∀ y ∈ c.vt.p, 0 ≤ y.s ∧ y.rq.ok) ∧ ∀ y ∈ c.vt.q, 0 ≤ y.s ∧ y.rq.ok)
    (hf : 0 ≤ m.f ∧ m.f ≤ 255) (ht : 0 ≤ m.t ∧ m.t ≤ 255) (hg : ((0 ≤ m.vw ∧ m.vw ≤ 4294967295) ∧ (0 ≤ m.sq ∧ m.sq ≤ 4294967295) ∧ (0 ≤ m.rs ∧ m.rs ≤ 4294967295) ∧ m.rq.ok ∧ VtR m.vt c.vt ∧ (∀ x ∈ c.vs, VtR x.1 x.2) ∧ (∀ x ∈ c.sm, 0 ≤ x ∧ x ≤ 18446744073709551615))) (hk : m.k = 14) (hi : isM m c = true) :
    Calls Tryz.prog 9 #[.agg m.cells.toArray] w fun e w' => ∃ ao z, e = .returned (.tuple #[.slice ao (encM m c).length z, .int .i64 0]) ∧ New w.heap.size w' ao z (encM m c) ∧ Below w.heap.size w w' := by
  obtain ⟨W, hW⟩ : ∃ W, W = w.alloc (.cells m.cells.toArray 37) := ⟨_, rfl⟩
  have hbx := bx1 hW
  have hbl := bl1 hW
  have hs : W.heap.size = w.heap.size + 1 := by rw [hW]; simp
  have IS := refIs_any W m c (hm.below hbl) hok hvo hf ht
  rw [hi] at IS
  have IS := Lib.hid IS
  have HM := Lib.hid hm
  have HI := Lib.hid hi
  have HG := Lib.hid hg
  have HK := Lib.hid hk
  have HW := Lib.hid hW
  have HBX := Lib.hid hbx
  have HBL := Lib.hid hbl
  have HSZ := Lib.hid hs
  have hwvw : IntKind.u64.wrap m.vw = m.vw := by rw [IntKind.wrap_u64]; omega
  have hwsq : IntKind.u64.wrap m.sq = m.sq := by rw [IntKind.wrap_u64]; omega
  have hwrs : IntKind.u64.wrap m.rs = m.rs := by rw [IntKind.wrap_u64]; omega
  clear hm hok hvo hf ht hg hk hi hW hbx hbl hs
  obtain ⟨A, hA⟩ : ∃ A, A = m.cells.toArray := ⟨_, rfl⟩
  rw [← hA] at IS HW ⊢
  have HA := Lib.hid hA
  clear hA
  go_enter Tryz.func9, Tryz.ntmps9
  go_upto_region 1 with fail
  rw [← HW.out]
  refine wp_region_lit ?_
  refine wpList_load_row rfl 37 (.tmp 1) rfl w.heap.size rfl 37 A (0, 0) _ (by rw [HA.out]; exact HBX.out) Tryz.underlying37 rfl (by rw [HA.out]; exact size37) ?_
  dsimp only
  go_wp2_with fail
  refine IS.out.mono ?_
  rintro e w1 ⟨rfl, b1⟩
  have hb1 : w1.heap[w.heap.size]? = some (.cells m.cells.toArray 37 (0, 0)) := by rw [b1.block _ (by have := HSZ.out; omega)]; exact HBX.out
  have k0 : w1.cell? ⟨w.heap.size, 0, none⟩ = some (.int .u8 14) := by rw [mg_cell hb1 0, ← HK.out]; rfl
  have k1 : w1.cell? ⟨w.heap.size, 1, none⟩ = some (.int .u8 m.f) := by rw [mg_cell hb1 1]; rfl
  have k2 : w1.cell? ⟨w.heap.size, 2, none⟩ = some (.int .u8 m.t) := by rw [mg_cell hb1 2]; rfl
  have k3 : w1.cell? ⟨w.heap.size, 3, none⟩ = some (.int .u8 m.e) := by rw [mg_cell hb1 3]; rfl
  have HB1 := Lib.hid (And.intro b1 hb1)
  have B2 : Below w1.heap.size w1 (w1.alloc (.cells #[.int .u8 14, .int .u8 m.f, .int .u8 m.t, .int .u8 m.e] 5)) := (Below.refl _ _).alloc (Nat.le_refl _) _
  have O2 : (w1.alloc (.cells #[.int .u8 14, .int .u8 m.f, .int .u8 m.t, .int .u8 m.e] 5)).ownsRow 0 5 1 (.slice (some ⟨w1.heap.size, 0, none⟩) 4 4) 4 (vals [(14 : Int), m.f, m.t, m.e]) := own_lit w1 [(14 : Int), m.f, m.t, m.e] 4 rfl (by decide)
  have H2 := Lib.hid (And.intro B2 O2)
  clear b1 hb1 B2 O2 IS
  go_upto_region 4 with fail
  obtain ⟨w2, hw2⟩ : ∃ w2, w2 = w1.alloc (.cells #[.int .u8 14, .int .u8 m.f, .int .u8 m.t, .int .u8 m.e] 5) := ⟨_, rfl⟩
  rw [← hw2] at H2 ⊢
  have hs2 : w2.heap.size = w1.heap.size + 1 := by rw [hw2]; simp
  clear k0 k1 k2 k3 hw2
  have G0 := GR.start H2.out.2
  have BX := Lib.hid (fun wx a n' c' l' (g : GR w2 (.slice (some ⟨w1.heap.size, 0, none⟩) 4 4) wx a n' c' l') => show wx.heap[w.heap.size]? = some (.cells m.cells.toArray 37 (0, 0)) by
    have h1 := HB1.out.1.size
    have h2 := HSZ.out
    rw [g.block (by omega) (by simp [Value.ownBlock]; omega), H2.out.1.block _ (by omega)]
    exact HB1.out.2)
  have k0 : w2.cell? ⟨w.heap.size, 0, none⟩ = some (.int .u8 14) := by rw [mg_cell (BX.out _ _ _ _ _ G0) 0, ← HK.out]; rfl
  have HS2 := Lib.hid hs2
  have HG0 := Lib.hid G0
  clear hs2
  obtain ⟨g0, hg0⟩ : ∃ g0, g0 = w1.heap.size := ⟨_, rfl⟩
  rw [← hg0] at G0 BX HG0 H2 ⊢
  have HG0E := Lib.hid hg0
  clear hg0
  go_upto_region 38 with fail
  clear k0 G0
  have G0 := HG0.out.below (Below.refl _ _).drew
  refine wp_region_held_drew (S := fun wx => wx.heap[w.heap.size]? = some (.cells m.cells.toArray 37 (0, 0))) (by kernel_rfl) ((BX.out _ _ _ _ _ G0)) (fun hS => ?_)
  refine tm 0 (.slice (some ⟨g0, 0, none⟩) 4 4) rfl hS ?_
  refine tg 1 (.pointer (some ⟨w.heap.size, 4, none⟩)) rfl hS ?_
  refine tk 2 (.int .u32 m.vw) rfl (yi_load 22 (.tmp 160) (.pointer (some ⟨w.heap.size, 4, none⟩)) rfl rfl rfl (fun wq hw => by have q : wq.cell? ⟨w.heap.size, 4, none⟩ = some (.int .u32 m.vw) := (mg_cell hw 4).trans rfl; go_simp)) hS ?_
  refine tk 3 (.int .u64 m.vw) rfl (.inl ⟨rfl, fun _ _ => by go_simp <;> first | exact hwvw | exact hwsq | exact hwrs⟩) hS ?_
  refine tg 5 (.pointer (some ⟨w.heap.size, 6, none⟩)) rfl hS ?_
  refine tk 6 (.agg m.rq.cells.toArray) rfl (yi_load 27 (.tmp 164) (.pointer (some ⟨w.heap.size, 6, none⟩)) rfl rfl rfl (fun wq hw => mg_rq hw)) hS ?_
  refine tg 8 (.pointer (some ⟨w.heap.size, 14, none⟩)) rfl hS ?_
  refine tk 9 (.int .u32 m.rs) rfl (yi_load 22 (.tmp 167) (.pointer (some ⟨w.heap.size, 14, none⟩)) rfl rfl rfl (fun wq hw => by have q : wq.cell? ⟨w.heap.size, 14, none⟩ = some (.int .u32 m.rs) := (mg_cell hw 14).trans rfl; go_simp)) hS ?_
  refine tk 10 (.int .u64 m.rs) rfl (.inl ⟨rfl, fun _ _ => by go_simp <;> first | exact hwvw | exact hwsq | exact hwrs⟩) hS ?_
  refine rdy1 4 rfl (fun K hK => ?_)
  rw [if_pos (by rfl)]
  go_simp
  refine Calls.mono ((put_e G0 m.vw 4 8 (by decide) (by decide) rfl)) ?_
  rintro e v1_38 ⟨a1_38, c1_38, rfl, M1_38⟩
  refine hK.out _ _ ((BX.out _ _ _ _ _ M1_38)) (fun hS => ?_)
  clear hK K
  refine rdy1 7 rfl (fun K hK => ?_)
  rw [if_pos (by rfl)]
  go_simp
  refine Calls.mono ((refReq_any M1_38.own m.rq HG.out.2.2.2.1 (by decide))) ?_
  rintro e v2_38 ⟨a2_38, c2_38, rfl, R2_38⟩
  have M2_38 := M1_38.trans R2_38
  refine hK.out _ _ ((BX.out _ _ _ _ _ M2_38)) (fun hS => ?_)
  clear hK K
  refine rdy1 11 rfl (fun K hK => ?_)
  rw [if_pos (by rfl)]
  go_simp
  refine Calls.mono ((put_e M2_38 m.rs 4 21 (by decide) (by decide) rfl)) ?_
  rintro e v3_38 ⟨a3_38, c3_38, rfl, M3_38⟩
  refine hK.out _ _ ((BX.out _ _ _ _ _ M3_38)) (fun hS => ?_)
  clear hK K
  refine tm 12 (.slice a3_38 21 c3_38) rfl hS ?_
  refine wpAnyH_done (by kernel_rfl) ?_ _
  have MM := Lib.hid M3_38
  clear hS
  go_wp2_with fail
  have hE : encM m c = [(14 : Int), m.f, m.t, m.e] ++ be m.vw 4 ++ m.rq.bytes ++ be m.rs 4 := by
    unfold encM encUp
    rw [HK.out]
    simp [partsOf, partY, wordB, Rq.bytes, be_4]
  have q := MM.out
  obtain ⟨qn, qb⟩ := q.new (H := w.heap.size) (w := w) (by simp [be, Rq.bytes, b4, b2]) (by have := HG0E.out; have := HB1.out.1.size; have := HSZ.out; omega) (by have := HS2.out; have := HB1.out.1.size; have := HSZ.out; omega) ((HBL.out.trans (HB1.out.1.mono HBL.out.size)).trans (H2.out.1.mono (by have := HG0E.out; have := HB1.out.1.size; have := HSZ.out; omega)))
  rw [hE]
  refine bodyPost_ret (v := .tuple #[.slice _ 21 _, .int .i64 0]) (by simp [results, Tryz.results9, go_sem]; exact ⟨rfl, rfl⟩) rfl ⟨_, _, by rw [show ([(14 : Int), m.f, m.t, m.e] ++ be m.vw 4 ++ m.rq.bytes ++ be m.rs 4).length = 21 by simp [be, Rq.bytes, b4, b2]], qn, qb⟩

set_option maxHeartbeats 8000000 in
theorem refEnc_no (w : World) (m : Mg) (c : Mc) (hm : MgAt w m c) (hok : ∀ x ∈ c.vs, (∀ y ∈ x.2.p, 0 ≤ y.s ∧ y.rq.ok) ∧ ∀ y ∈ x.2.q, 0 ≤ y.s ∧ y.rq.ok) (hvo : (∀ y ∈ c.vt.p, 0 ≤ y.s ∧ y.rq.ok) ∧ ∀ y ∈ c.vt.q, 0 ≤ y.s ∧ y.rq.ok)
    (hf : 0 ≤ m.f ∧ m.f ≤ 255) (ht : 0 ≤ m.t ∧ m.t ≤ 255) (hg : ((0 ≤ m.vw ∧ m.vw ≤ 4294967295) ∧ (0 ≤ m.sq ∧ m.sq ≤ 4294967295) ∧ (0 ≤ m.rs ∧ m.rs ≤ 4294967295) ∧ m.rq.ok ∧ VtR m.vt c.vt ∧ (∀ x ∈ c.vs, VtR x.1 x.2) ∧ (∀ x ∈ c.sm, 0 ≤ x ∧ x ≤ 18446744073709551615))) (hi : isM m c = false) :
    Calls Tryz.prog 9 #[.agg m.cells.toArray] w fun e w' => e = .returned (.tuple #[.slice none 0 0, .int .i64 30]) ∧ Below w.heap.size w w' := by
  obtain ⟨W, hW⟩ : ∃ W, W = w.alloc (.cells m.cells.toArray 37) := ⟨_, rfl⟩
  have hbx := bx1 hW
  have hbl := bl1 hW
  have hs : W.heap.size = w.heap.size + 1 := by rw [hW]; simp
  have IS := refIs_any W m c (hm.below hbl) hok hvo hf ht
  rw [hi] at IS
  have IS := Lib.hid IS
  have HM := Lib.hid hm
  have HI := Lib.hid hi
  have HG := Lib.hid hg
  have HW := Lib.hid hW
  have HBX := Lib.hid hbx
  have HBL := Lib.hid hbl
  have HSZ := Lib.hid hs
  have hwvw : IntKind.u64.wrap m.vw = m.vw := by rw [IntKind.wrap_u64]; omega
  have hwsq : IntKind.u64.wrap m.sq = m.sq := by rw [IntKind.wrap_u64]; omega
  have hwrs : IntKind.u64.wrap m.rs = m.rs := by rw [IntKind.wrap_u64]; omega
  clear hm hok hvo hf ht hg hi hW hbx hbl hs
  obtain ⟨A, hA⟩ : ∃ A, A = m.cells.toArray := ⟨_, rfl⟩
  rw [← hA] at IS HW ⊢
  have HA := Lib.hid hA
  clear hA
  go_enter Tryz.func9, Tryz.ntmps9
  go_upto_region 1 with fail
  rw [← HW.out]
  refine wp_region_lit ?_
  refine wpList_load_row rfl 37 (.tmp 1) rfl w.heap.size rfl 37 A (0, 0) _ (by rw [HA.out]; exact HBX.out) Tryz.underlying37 rfl (by rw [HA.out]; exact size37) ?_
  dsimp only
  go_wp2_with fail
  refine IS.out.mono ?_
  rintro e w1 ⟨rfl, b1⟩
  have HB1 := Lib.hid (HBL.out.trans (b1.mono HBL.out.size))
  clear b1 IS
  go_wp2_with fail
  exact bodyPost_ret (v := .tuple #[.slice none 0 0, .int .i64 30]) (by simp [results, Tryz.results9, go_sem]) rfl ⟨rfl, HB1.out⟩

theorem refEncode_any (w : World) (m : Mg) (c : Mc) (hm : MgAt w m c) (hok : ∀ x ∈ c.vs, (∀ y ∈ x.2.p, 0 ≤ y.s ∧ y.rq.ok) ∧ ∀ y ∈ x.2.q, 0 ≤ y.s ∧ y.rq.ok) (hvo : (∀ y ∈ c.vt.p, 0 ≤ y.s ∧ y.rq.ok) ∧ ∀ y ∈ c.vt.q, 0 ≤ y.s ∧ y.rq.ok)
    (hf : 0 ≤ m.f ∧ m.f ≤ 255) (ht : 0 ≤ m.t ∧ m.t ≤ 255) (hg : ((0 ≤ m.vw ∧ m.vw ≤ 4294967295) ∧ (0 ≤ m.sq ∧ m.sq ≤ 4294967295) ∧ (0 ≤ m.rs ∧ m.rs ≤ 4294967295) ∧ m.rq.ok ∧ VtR m.vt c.vt ∧ (∀ x ∈ c.vs, VtR x.1 x.2) ∧ (∀ x ∈ c.sm, 0 ≤ x ∧ x ≤ 18446744073709551615))) :
    Calls Tryz.prog 9 #[.agg m.cells.toArray] w fun e w' => ((isM m c = false ∧ e = .returned (.tuple #[.slice none 0 0, .int .i64 30])) ∨ (isM m c = true ∧ ∃ ao z, e = .returned (.tuple #[.slice ao (encM m c).length z, .int .i64 0]) ∧ New w.heap.size w' ao z (encM m c))) ∧ Below w.heap.size w w' := by
  cases hi : isM m c with
  | false =>
    refine (refEnc_no w m c hm hok hvo hf ht hg hi).mono ?_
    rintro e w' ⟨h1, h2⟩
    exact ⟨.inl ⟨rfl, h1⟩, h2⟩
  | true =>
    have k : Calls Tryz.prog 9 #[.agg m.cells.toArray] w fun e w' => ∃ ao z, e = .returned (.tuple #[.slice ao (encM m c).length z, .int .i64 0]) ∧ New w.heap.size w' ao z (encM m c) ∧ Below w.heap.size w w' := by
      have hr := isM_range hi
      rcases (by omega : m.k = 1 ∨ m.k = 2 ∨ m.k = 3 ∨ m.k = 4 ∨ m.k = 5 ∨ m.k = 6 ∨ m.k = 7 ∨ m.k = 8 ∨ m.k = 9 ∨ m.k = 10 ∨ m.k = 11 ∨ m.k = 12 ∨ m.k = 13 ∨ m.k = 14) with h | h | h | h | h | h | h | h | h | h | h | h | h | h
      · exact refEnc_k1 w m c hm hok hvo hf ht hg h hi
      · exact refEnc_k2 w m c hm hok hvo hf ht hg h hi
      · exact refEnc_k3 w m c hm hok hvo hf ht hg h hi
      · exact refEnc_k4 w m c hm hok hvo hf ht hg h hi
      · exact refEnc_k5 w m c hm hok hvo hf ht hg h hi
      · exact refEnc_k6 w m c hm hok hvo hf ht hg h hi
      · exact refEnc_k7 w m c hm hok hvo hf ht hg h hi
      · exact refEnc_k8 w m c hm hok hvo hf ht hg h hi
      · exact refEnc_k9 w m c hm hok hvo hf ht hg h hi
      · exact refEnc_k10 w m c hm hok hvo hf ht hg h hi
      · exact refEnc_k11 w m c hm hok hvo hf ht hg h hi
      · exact refEnc_k12 w m c hm hok hvo hf ht hg h hi
      · exact refEnc_k13 w m c hm hok hvo hf ht hg h hi
      · exact refEnc_k14 w m c hm hok hvo hf ht hg h hi
    refine k.mono ?_
    rintro e w' ⟨ao, z, h1, h2, h3⟩
    exact ⟨.inr ⟨rfl, ao, z, h1, h2⟩, h3⟩
end Go.Proofs.YtbpfkeeikhhlnaaGreatDoor
namespace Go.Proofs.YtbpfkeeikhhlnaaGreatDoor
open Go.ChangeShapes Go.WideShapes Go.ChangeAt Go.RowKit

/-- a row of elements of k cells each, of whatever length -/
def RowU {α : Type} (w : World) (k : Nat) (enc : α → List Value) (v : Value) (xs : List α) : Prop :=
  ∃ ao cap, v = .slice ao xs.length cap ∧ (ao = none → cap = 0) ∧ xs.length ≤ cap ∧ cap ≤ maxLen ∧
    ∀ (j : Nat) (x : α), xs[j]? = some x → ∃ b off, ao = some ⟨b, off, none⟩ ∧ ∀ i u, (enc x)[i]? = some u → w.cell? ⟨b, off + j * k + i, none⟩ = some u
end Go.Proofs.YtbpfkeeikhhlnaaGreatDoor
namespace Go.Proofs.YtbpfkeeikhhlnaaGreatDoor
open Go.RowKit
set_option maxRecDepth 100000

/-- its lists are no longer than forty -/
def Vt.few (v : Vt) : Prop := v.ms.n ≤ 40 ∧ v.p.n ≤ 40 ∧ v.q.n ≤ 40
end Go.Proofs.YtbpfkeeikhhlnaaGreatDoor
