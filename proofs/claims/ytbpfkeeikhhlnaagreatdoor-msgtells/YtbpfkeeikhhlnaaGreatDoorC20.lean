/- The document's Encode, kind 2. The document's Encode, kind 3. The document's Encode, kind 4. The document's Encode, kind 5. The document's Encode, kind 6. The document's Encode, kind 7. The document's Encode, kind 8. -/
import Derived.Test.YtbpfkeeikhhlnaaGreatDoorC19
import Derived.Test.YtbpfkeeikhhlnaaGreatDoorC03
namespace Go.Proofs.YtbpfkeeikhhlnaaGreatDoor
open Go.RowKit
set_option maxRecDepth 100000

set_option maxHeartbeats 8000000 in
theorem refEnc_k2 (w : World) (m : Mg) (c : Mc) (hm : MgAt w m c) (hok : ∀ x ∈ c.vs, (∀ y ∈ x.2.p, 0 ≤ y.s ∧ y.rq.ok) ∧ ∀ y ∈ x.2.q, 0 ≤ y.s ∧ y.rq.ok) (hvo : (∀ y ∈ c.vt.p, 0 ≤ y.s ∧ y.rq.ok) ∧ ∀ y ∈ c.vt.q, 0 ≤ y.s ∧ y.rq.ok)
    (hf : 0 ≤ m.f ∧ m.f ≤ 255) (ht : 0 ≤ m.t ∧ m.t ≤ 255) (hg : ((0 ≤ m.vw ∧ m.vw ≤ 4294967295) ∧ (0 ≤ m.sq ∧ m.sq ≤ 4294967295) ∧ (0 ≤ m.rs ∧ m.rs ≤ 4294967295) ∧ m.rq.ok ∧ VtR m.vt c.vt ∧ (∀ x ∈ c.vs, VtR x.1 x.2) ∧ (∀ x ∈ c.sm, 0 ≤ x ∧ x ≤ 18446744073709551615))) (hk : m.k = 2) (hi : isM m c = true) :
    Calls Tryz.prog 9 #[.agg m.cells.toArray] w fun e w' => ∃ ao z, e = .returned (.tuple #[.slice ao (encM m c).length z, .int .i64 0]) ∧ New w.heap.size w' ao z (encM m c) ∧ Below w.heap.size w w' := by
  obtain ⟨W, hW⟩ : ∃ W, W = w.alloc (.cells m.cells.toArray 37) := ⟨_, rfl⟩
  have hbx := bx1 hW
  have hbl := bl1 hW
  have hs : W.heap.size = w.heap.size + 1 := by rw [hW]; simp
  have IS := refIs_any W m c (hm.below hbl) hok hvo hf ht
  rw [hi] at IS
  have IS := Lib.hid IS
  have HM := Lib.hid hm
  have HI := Lib.hid hi
  have HG := Lib.hid hg
  have HK := Lib.hid hk
  have HW := Lib.hid hW
  have HBX := Lib.hid hbx
  have HBL := Lib.hid hbl
  have HSZ := Lib.hid hs
  have hwvw : IntKind.u64.wrap m.vw = m.vw := by rw [IntKind.wrap_u64]; omega
  have hwsq : IntKind.u64.wrap m.sq = m.sq := by rw [IntKind.wrap_u64]; omega
  have hwrs : IntKind.u64.wrap m.rs = m.rs := by rw [IntKind.wrap_u64]; omega
  clear hm hok hvo hf ht hg hk hi hW hbx hbl hs
  obtain ⟨A, hA⟩ : ∃ A, A = m.cells.toArray := ⟨_, rfl⟩
  rw [← hA] at IS HW ⊢
  have HA := Lib.hid hA
  clear hA
  go_enter Tryz.func9, Tryz.ntmps9
  go_upto_region 1 with fail
  rw [← HW.out]
  refine wp_region_lit ?_
  refine wpList_load_row rfl 37 (.tmp 1) rfl w.heap.size rfl 37 A (0, 0) _ (by rw [HA.out]; exact HBX.out) Tryz.underlying37 rfl (by rw [HA.out]; exact size37) ?_
  dsimp only
  go_wp2_with fail
  refine IS.out.mono ?_
  rintro e w1 ⟨rfl, b1⟩
  have hb1 : w1.heap[w.heap.size]? = some (.cells m.cells.toArray 37 (0, 0)) := by rw [b1.block _ (by have := HSZ.out; omega)]; exact HBX.out
  have k0 : w1.cell? ⟨w.heap.size, 0, none⟩ = some (.int .u8 2) := by rw [mg_cell hb1 0, ← HK.out]; rfl
  have k1 : w1.cell? ⟨w.heap.size, 1, none⟩ = some (.int .u8 m.f) := by rw [mg_cell hb1 1]; rfl
  have k2 : w1.cell? ⟨w.heap.size, 2, none⟩ = some (.int .u8 m.t) := by rw [mg_cell hb1 2]; rfl
  have k3 : w1.cell? ⟨w.heap.size, 3, none⟩ = some (.int .u8 m.e) := by rw [mg_cell hb1 3]; rfl
  have HB1 := Lib.hid (And.intro b1 hb1)
  have B2 : Below w1.heap.size w1 (w1.alloc (.cells #[.int .u8 2, .int .u8 m.f, .int .u8 m.t, .int .u8 m.e] 5)) := (Below.refl _ _).alloc (Nat.le_refl _) _
  have O2 : (w1.alloc (.cells #[.int .u8 2, .int .u8 m.f, .int .u8 m.t, .int .u8 m.e] 5)).ownsRow 0 5 1 (.slice (some ⟨w1.heap.size, 0, none⟩) 4 4) 4 (vals [(2 : Int), m.f, m.t, m.e]) := own_lit w1 [(2 : Int), m.f, m.t, m.e] 4 rfl (by decide)
  have H2 := Lib.hid (And.intro B2 O2)
  clear b1 hb1 B2 O2 IS
  go_upto_region 4 with fail
  obtain ⟨w2, hw2⟩ : ∃ w2, w2 = w1.alloc (.cells #[.int .u8 2, .int .u8 m.f, .int .u8 m.t, .int .u8 m.e] 5) := ⟨_, rfl⟩
  rw [← hw2] at H2 ⊢
  have hs2 : w2.heap.size = w1.heap.size + 1 := by rw [hw2]; simp
  clear k0 k1 k2 k3 hw2
  have G0 := GR.start H2.out.2
  have BX := Lib.hid (fun wx a n' c' l' (g : GR w2 (.slice (some ⟨w1.heap.size, 0, none⟩) 4 4) wx a n' c' l') => show wx.heap[w.heap.size]? = some (.cells m.cells.toArray 37 (0, 0)) by
    have h1 := HB1.out.1.size
    have h2 := HSZ.out
    rw [g.block (by omega) (by simp [Value.ownBlock]; omega), H2.out.1.block _ (by omega)]
    exact HB1.out.2)
  have k0 : w2.cell? ⟨w.heap.size, 0, none⟩ = some (.int .u8 2) := by rw [mg_cell (BX.out _ _ _ _ _ G0) 0, ← HK.out]; rfl
  have HS2 := Lib.hid hs2
  have HG0 := Lib.hid G0
  clear hs2
  obtain ⟨g0, hg0⟩ : ∃ g0, g0 = w1.heap.size := ⟨_, rfl⟩
  rw [← hg0] at G0 BX HG0 H2 ⊢
  have HG0E := Lib.hid hg0
  clear hg0
  go_upto_region 10 with fail
  clear k0 G0
  have G0 := HG0.out.below (Below.refl _ _).drew
  refine wp_region_held_drew (S := fun wx => wx.heap[w.heap.size]? = some (.cells m.cells.toArray 37 (0, 0))) (by kernel_rfl) ((BX.out _ _ _ _ _ G0)) (fun hS => ?_)
  refine tm 0 (.slice (some ⟨g0, 0, none⟩) 4 4) rfl hS ?_
  refine tg 1 (.pointer (some ⟨w.heap.size, 4, none⟩)) rfl hS ?_
  refine tk 2 (.int .u32 m.vw) rfl (yi_load 22 (.tmp 32) (.pointer (some ⟨w.heap.size, 4, none⟩)) rfl rfl rfl (fun wq hw => by have q : wq.cell? ⟨w.heap.size, 4, none⟩ = some (.int .u32 m.vw) := (mg_cell hw 4).trans rfl; go_simp)) hS ?_
  refine tk 3 (.int .u64 m.vw) rfl (.inl ⟨rfl, fun _ _ => by go_simp <;> first | exact hwvw | exact hwsq | exact hwrs⟩) hS ?_
  refine tg 5 (.pointer (some ⟨w.heap.size, 5, none⟩)) rfl hS ?_
  refine tk 6 (.int .u32 m.sq) rfl (yi_load 22 (.tmp 36) (.pointer (some ⟨w.heap.size, 5, none⟩)) rfl rfl rfl (fun wq hw => by have q : wq.cell? ⟨w.heap.size, 5, none⟩ = some (.int .u32 m.sq) := (mg_cell hw 5).trans rfl; go_simp)) hS ?_
  refine tk 7 (.int .u64 m.sq) rfl (.inl ⟨rfl, fun _ _ => by go_simp <;> first | exact hwvw | exact hwsq | exact hwrs⟩) hS ?_
  refine tg 9 (.pointer (some ⟨w.heap.size, 6, none⟩)) rfl hS ?_
  refine tk 10 (.agg m.rq.cells.toArray) rfl (yi_load 27 (.tmp 40) (.pointer (some ⟨w.heap.size, 6, none⟩)) rfl rfl rfl (fun wq hw => mg_rq hw)) hS ?_
  refine rdy1 4 rfl (fun K hK => ?_)
  rw [if_pos (by rfl)]
  go_simp
  refine Calls.mono ((put_e G0 m.vw 4 8 (by decide) (by decide) rfl)) ?_
  rintro e v1_10 ⟨a1_10, c1_10, rfl, M1_10⟩
  refine hK.out _ _ ((BX.out _ _ _ _ _ M1_10)) (fun hS => ?_)
  clear hK K
  refine rdy1 8 rfl (fun K hK => ?_)
  rw [if_pos (by rfl)]
  go_simp
  refine Calls.mono ((put_e M1_10 m.sq 4 12 (by decide) (by decide) rfl)) ?_
  rintro e v2_10 ⟨a2_10, c2_10, rfl, M2_10⟩
  refine hK.out _ _ ((BX.out _ _ _ _ _ M2_10)) (fun hS => ?_)
  clear hK K
  refine rdy1 11 rfl (fun K hK => ?_)
  rw [if_pos (by rfl)]
  go_simp
  refine Calls.mono ((refReq_any M2_10.own m.rq HG.out.2.2.2.1 (by decide))) ?_
  rintro e v3_10 ⟨a3_10, c3_10, rfl, R3_10⟩
  have M3_10 := M2_10.trans R3_10
  refine hK.out _ _ ((BX.out _ _ _ _ _ M3_10)) (fun hS => ?_)
  clear hK K
  refine tm 12 (.slice a3_10 21 c3_10) rfl hS ?_
  refine wpAnyH_done (by kernel_rfl) ?_ _
  have MM := Lib.hid M3_10
  clear hS
  go_wp2_with fail
  have hE : encM m c = [(2 : Int), m.f, m.t, m.e] ++ be m.vw 4 ++ be m.sq 4 ++ m.rq.bytes := by
    unfold encM encUp
    rw [HK.out]
    simp [partsOf, partY, wordB, Rq.bytes, be_4]
  have q := MM.out
  obtain ⟨qn, qb⟩ := q.new (H := w.heap.size) (w := w) (by simp [be, Rq.bytes, b4, b2]) (by have := HG0E.out; have := HB1.out.1.size; have := HSZ.out; omega) (by have := HS2.out; have := HB1.out.1.size; have := HSZ.out; omega) ((HBL.out.trans (HB1.out.1.mono HBL.out.size)).trans (H2.out.1.mono (by have := HG0E.out; have := HB1.out.1.size; have := HSZ.out; omega)))
  rw [hE]
  refine bodyPost_ret (v := .tuple #[.slice _ 21 _, .int .i64 0]) (by simp [results, Tryz.results9, go_sem]; exact ⟨rfl, rfl⟩) rfl ⟨_, _, by rw [show ([(2 : Int), m.f, m.t, m.e] ++ be m.vw 4 ++ be m.sq 4 ++ m.rq.bytes).length = 21 by simp [be, Rq.bytes, b4, b2]], qn, qb⟩

set_option maxHeartbeats 8000000 in
theorem refEnc_k3 (w : World) (m : Mg) (c : Mc) (hm : MgAt w m c) (hok : ∀ x ∈ c.vs, (∀ y ∈ x.2.p, 0 ≤ y.s ∧ y.rq.ok) ∧ ∀ y ∈ x.2.q, 0 ≤ y.s ∧ y.rq.ok) (hvo : (∀ y ∈ c.vt.p, 0 ≤ y.s ∧ y.rq.ok) ∧ ∀ y ∈ c.vt.q, 0 ≤ y.s ∧ y.rq.ok)
    (hf : 0 ≤ m.f ∧ m.f ≤ 255) (ht : 0 ≤ m.t ∧ m.t ≤ 255) (hg : ((0 ≤ m.vw ∧ m.vw ≤ 4294967295) ∧ (0 ≤ m.sq ∧ m.sq ≤ 4294967295) ∧ (0 ≤ m.rs ∧ m.rs ≤ 4294967295) ∧ m.rq.ok ∧ VtR m.vt c.vt ∧ (∀ x ∈ c.vs, VtR x.1 x.2) ∧ (∀ x ∈ c.sm, 0 ≤ x ∧ x ≤ 18446744073709551615))) (hk : m.k = 3) (hi : isM m c = true) :
    Calls Tryz.prog 9 #[.agg m.cells.toArray] w fun e w' => ∃ ao z, e = .returned (.tuple #[.slice ao (encM m c).length z, .int .i64 0]) ∧ New w.heap.size w' ao z (encM m c) ∧ Below w.heap.size w w' := by
  obtain ⟨W, hW⟩ : ∃ W, W = w.alloc (.cells m.cells.toArray 37) := ⟨_, rfl⟩
  have hbx := bx1 hW
  have hbl := bl1 hW
  have hs : W.heap.size = w.heap.size + 1 := by rw [hW]; simp
  have IS := refIs_any W m c (hm.below hbl) hok hvo hf ht
  rw [hi] at IS
  have IS := Lib.hid IS
  have HM := Lib.hid hm
  have HI := Lib.hid hi
  have HG := Lib.hid hg
  have HK := Lib.hid hk
  have HW := Lib.hid hW
  have HBX := Lib.hid hbx
  have HBL := Lib.hid hbl
  have HSZ := Lib.hid hs
  have hwvw : IntKind.u64.wrap m.vw = m.vw := by rw [IntKind.wrap_u64]; omega
  have hwsq : IntKind.u64.wrap m.sq = m.sq := by rw [IntKind.wrap_u64]; omega
  have hwrs : IntKind.u64.wrap m.rs = m.rs := by rw [IntKind.wrap_u64]; omega
  clear hm hok hvo hf ht hg hk hi hW hbx hbl hs
  obtain ⟨A, hA⟩ : ∃ A, A = m.cells.toArray := ⟨_, rfl⟩
  rw [← hA] at IS HW ⊢
  have HA := Lib.hid hA
  clear hA
  go_enter Tryz.func9, Tryz.ntmps9
  go_upto_region 1 with fail
  rw [← HW.out]
  refine wp_region_lit ?_
  refine wpList_load_row rfl 37 (.tmp 1) rfl w.heap.size rfl 37 A (0, 0) _ (by rw [HA.out]; exact HBX.out) Tryz.underlying37 rfl (by rw [HA.out]; exact size37) ?_
  dsimp only
  go_wp2_with fail
  refine IS.out.mono ?_
  rintro e w1 ⟨rfl, b1⟩
  have hb1 : w1.heap[w.heap.size]? = some (.cells m.cells.toArray 37 (0, 0)) := by rw [b1.block _ (by have := HSZ.out; omega)]; exact HBX.out
  have k0 : w1.cell? ⟨w.heap.size, 0, none⟩ = some (.int .u8 3) := by rw [mg_cell hb1 0, ← HK.out]; rfl
  have k1 : w1.cell? ⟨w.heap.size, 1, none⟩ = some (.int .u8 m.f) := by rw [mg_cell hb1 1]; rfl
  have k2 : w1.cell? ⟨w.heap.size, 2, none⟩ = some (.int .u8 m.t) := by rw [mg_cell hb1 2]; rfl
  have k3 : w1.cell? ⟨w.heap.size, 3, none⟩ = some (.int .u8 m.e) := by rw [mg_cell hb1 3]; rfl
  have HB1 := Lib.hid (And.intro b1 hb1)
  have B2 : Below w1.heap.size w1 (w1.alloc (.cells #[.int .u8 3, .int .u8 m.f, .int .u8 m.t, .int .u8 m.e] 5)) := (Below.refl _ _).alloc (Nat.le_refl _) _
  have O2 : (w1.alloc (.cells #[.int .u8 3, .int .u8 m.f, .int .u8 m.t, .int .u8 m.e] 5)).ownsRow 0 5 1 (.slice (some ⟨w1.heap.size, 0, none⟩) 4 4) 4 (vals [(3 : Int), m.f, m.t, m.e]) := own_lit w1 [(3 : Int), m.f, m.t, m.e] 4 rfl (by decide)
  have H2 := Lib.hid (And.intro B2 O2)
  clear b1 hb1 B2 O2 IS
  go_upto_region 4 with fail
  obtain ⟨w2, hw2⟩ : ∃ w2, w2 = w1.alloc (.cells #[.int .u8 3, .int .u8 m.f, .int .u8 m.t, .int .u8 m.e] 5) := ⟨_, rfl⟩
  rw [← hw2] at H2 ⊢
  have hs2 : w2.heap.size = w1.heap.size + 1 := by rw [hw2]; simp
  clear k0 k1 k2 k3 hw2
  have G0 := GR.start H2.out.2
  have BX := Lib.hid (fun wx a n' c' l' (g : GR w2 (.slice (some ⟨w1.heap.size, 0, none⟩) 4 4) wx a n' c' l') => show wx.heap[w.heap.size]? = some (.cells m.cells.toArray 37 (0, 0)) by
    have h1 := HB1.out.1.size
    have h2 := HSZ.out
    rw [g.block (by omega) (by simp [Value.ownBlock]; omega), H2.out.1.block _ (by omega)]
    exact HB1.out.2)
  have k0 : w2.cell? ⟨w.heap.size, 0, none⟩ = some (.int .u8 3) := by rw [mg_cell (BX.out _ _ _ _ _ G0) 0, ← HK.out]; rfl
  have HS2 := Lib.hid hs2
  have HG0 := Lib.hid G0
  clear hs2
  obtain ⟨g0, hg0⟩ : ∃ g0, g0 = w1.heap.size := ⟨_, rfl⟩
  rw [← hg0] at G0 BX HG0 H2 ⊢
  have HG0E := Lib.hid hg0
  clear hg0
  go_upto_region 10 with fail
  clear k0 G0
  have G0 := HG0.out.below (Below.refl _ _).drew
  refine wp_region_held_drew (S := fun wx => wx.heap[w.heap.size]? = some (.cells m.cells.toArray 37 (0, 0))) (by kernel_rfl) ((BX.out _ _ _ _ _ G0)) (fun hS => ?_)
  refine tm 0 (.slice (some ⟨g0, 0, none⟩) 4 4) rfl hS ?_
  refine tg 1 (.pointer (some ⟨w.heap.size, 4, none⟩)) rfl hS ?_
  refine tk 2 (.int .u32 m.vw) rfl (yi_load 22 (.tmp 32) (.pointer (some ⟨w.heap.size, 4, none⟩)) rfl rfl rfl (fun wq hw => by have q : wq.cell? ⟨w.heap.size, 4, none⟩ = some (.int .u32 m.vw) := (mg_cell hw 4).trans rfl; go_simp)) hS ?_
  refine tk 3 (.int .u64 m.vw) rfl (.inl ⟨rfl, fun _ _ => by go_simp <;> first | exact hwvw | exact hwsq | exact hwrs⟩) hS ?_
  refine tg 5 (.pointer (some ⟨w.heap.size, 5, none⟩)) rfl hS ?_
  refine tk 6 (.int .u32 m.sq) rfl (yi_load 22 (.tmp 36) (.pointer (some ⟨w.heap.size, 5, none⟩)) rfl rfl rfl (fun wq hw => by have q : wq.cell? ⟨w.heap.size, 5, none⟩ = some (.int .u32 m.sq) := (mg_cell hw 5).trans rfl; go_simp)) hS ?_
  refine tk 7 (.int .u64 m.sq) rfl (.inl ⟨rfl, fun _ _ => by go_simp <;> first | exact hwvw | exact hwsq | exact hwrs⟩) hS ?_
  refine tg 9 (.pointer (some ⟨w.heap.size, 6, none⟩)) rfl hS ?_
  refine tk 10 (.agg m.rq.cells.toArray) rfl (yi_load 27 (.tmp 40) (.pointer (some ⟨w.heap.size, 6, none⟩)) rfl rfl rfl (fun wq hw => mg_rq hw)) hS ?_
  refine rdy1 4 rfl (fun K hK => ?_)
  rw [if_pos (by rfl)]
  go_simp
  refine Calls.mono ((put_e G0 m.vw 4 8 (by decide) (by decide) rfl)) ?_
  rintro e v1_10 ⟨a1_10, c1_10, rfl, M1_10⟩
  refine hK.out _ _ ((BX.out _ _ _ _ _ M1_10)) (fun hS => ?_)
  clear hK K
  refine rdy1 8 rfl (fun K hK => ?_)
  rw [if_pos (by rfl)]
  go_simp
  refine Calls.mono ((put_e M1_10 m.sq 4 12 (by decide) (by decide) rfl)) ?_
  rintro e v2_10 ⟨a2_10, c2_10, rfl, M2_10⟩
  refine hK.out _ _ ((BX.out _ _ _ _ _ M2_10)) (fun hS => ?_)
  clear hK K
  refine rdy1 11 rfl (fun K hK => ?_)
  rw [if_pos (by rfl)]
  go_simp
  refine Calls.mono ((refReq_any M2_10.own m.rq HG.out.2.2.2.1 (by decide))) ?_
  rintro e v3_10 ⟨a3_10, c3_10, rfl, R3_10⟩
  have M3_10 := M2_10.trans R3_10
  refine hK.out _ _ ((BX.out _ _ _ _ _ M3_10)) (fun hS => ?_)
  clear hK K
  refine tm 12 (.slice a3_10 21 c3_10) rfl hS ?_
  refine wpAnyH_done (by kernel_rfl) ?_ _
  have MM := Lib.hid M3_10
  clear hS
  go_wp2_with fail
  have hE : encM m c = [(3 : Int), m.f, m.t, m.e] ++ be m.vw 4 ++ be m.sq 4 ++ m.rq.bytes := by
    unfold encM encUp
    rw [HK.out]
    simp [partsOf, partY, wordB, Rq.bytes, be_4]
  have q := MM.out
  obtain ⟨qn, qb⟩ := q.new (H := w.heap.size) (w := w) (by simp [be, Rq.bytes, b4, b2]) (by have := HG0E.out; have := HB1.out.1.size; have := HSZ.out; omega) (by have := HS2.out; have := HB1.out.1.size; have := HSZ.out; omega) ((HBL.out.trans (HB1.out.1.mono HBL.out.size)).trans (H2.out.1.mono (by have := HG0E.out; have := HB1.out.1.size; have := HSZ.out; omega)))
  rw [hE]
  refine bodyPost_ret (v := .tuple #[.slice _ 21 _, .int .i64 0]) (by simp [results, Tryz.results9, go_sem]; exact ⟨rfl, rfl⟩) rfl ⟨_, _, by rw [show ([(3 : Int), m.f, m.t, m.e] ++ be m.vw 4 ++ be m.sq 4 ++ m.rq.bytes).length = 21 by simp [be, Rq.bytes, b4, b2]], qn, qb⟩

set_option maxHeartbeats 8000000 in
theorem refEnc_k4 (w : World) (m : Mg) (c : Mc) (hm : MgAt w m c) (hok : ∀ x ∈ c.vs, (∀ y ∈ x.2.p, 0 ≤ y.s ∧ y.rq.ok) ∧ ∀ y ∈ x.2.q, 0 ≤ y.s ∧ y.rq.ok) (hvo : (∀ y ∈ c.vt.p, 0 ≤ y.s ∧ y.rq.ok) ∧ ∀ y ∈ c.vt.q, 0 ≤ y.s ∧ y.rq.ok)
    (hf : 0 ≤ m.f ∧ m.f ≤ 255) (ht : 0 ≤ m.t ∧ m.t ≤ 255) (hg : ((0 ≤ m.vw ∧ m.vw ≤ 4294967295) ∧ (0 ≤ m.sq ∧ m.sq ≤ 4294967295) ∧ (0 ≤ m.rs ∧ m.rs ≤ 4294967295) ∧ m.rq.ok ∧ VtR m.vt c.vt ∧ (∀ x ∈ c.vs, VtR x.1 x.2) ∧ (∀ x ∈ c.sm, 0 ≤ x ∧ x ≤ 18446744073709551615))) (hk : m.k = 4) (hi : isM m c = true) :
    Calls Tryz.prog 9 #[.agg m.cells.toArray] w fun e w' => ∃ ao z, e = .returned (.tuple #[.slice ao (encM m c).length z, .int .i64 0]) ∧ New w.heap.size w' ao z (encM m c) ∧ Below w.heap.size w w' := by
  obtain ⟨W, hW⟩ : ∃ W, W = w.alloc (.cells m.cells.toArray 37) := ⟨_, rfl⟩
  have hbx := bx1 hW
  have hbl := bl1 hW
  have hs : W.heap.size = w.heap.size + 1 := by rw [hW]; simp
  have IS := refIs_any W m c (hm.below hbl) hok hvo hf ht
  rw [hi] at IS
  have IS := Lib.hid IS
  have HM := Lib.hid hm
  have HI := Lib.hid hi
  have HG := Lib.hid hg
  have HK := Lib.hid hk
  have HW := Lib.hid hW
  have HBX := Lib.hid hbx
  have HBL := Lib.hid hbl
  have HSZ := Lib.hid hs
  have hwvw : IntKind.u64.wrap m.vw = m.vw := by rw [IntKind.wrap_u64]; omega
  have hwsq : IntKind.u64.wrap m.sq = m.sq := by rw [IntKind.wrap_u64]; omega
  have hwrs : IntKind.u64.wrap m.rs = m.rs := by rw [IntKind.wrap_u64]; omega
  clear hm hok hvo hf ht hg hk hi hW hbx hbl hs
  obtain ⟨A, hA⟩ : ∃ A, A = m.cells.toArray := ⟨_, rfl⟩
  rw [← hA] at IS HW ⊢
  have HA := Lib.hid hA
  clear hA
  go_enter Tryz.func9, Tryz.ntmps9
  go_upto_region 1 with fail
  rw [← HW.out]
  refine wp_region_lit ?_
  refine wpList_load_row rfl 37 (.tmp 1) rfl w.heap.size rfl 37 A (0, 0) _ (by rw [HA.out]; exact HBX.out) Tryz.underlying37 rfl (by rw [HA.out]; exact size37) ?_
  dsimp only
  go_wp2_with fail
  refine IS.out.mono ?_
  rintro e w1 ⟨rfl, b1⟩
  have hb1 : w1.heap[w.heap.size]? = some (.cells m.cells.toArray 37 (0, 0)) := by rw [b1.block _ (by have := HSZ.out; omega)]; exact HBX.out
  have k0 : w1.cell? ⟨w.heap.size, 0, none⟩ = some (.int .u8 4) := by rw [mg_cell hb1 0, ← HK.out]; rfl
  have k1 : w1.cell? ⟨w.heap.size, 1, none⟩ = some (.int .u8 m.f) := by rw [mg_cell hb1 1]; rfl
  have k2 : w1.cell? ⟨w.heap.size, 2, none⟩ = some (.int .u8 m.t) := by rw [mg_cell hb1 2]; rfl
  have k3 : w1.cell? ⟨w.heap.size, 3, none⟩ = some (.int .u8 m.e) := by rw [mg_cell hb1 3]; rfl
  have HB1 := Lib.hid (And.intro b1 hb1)
  have B2 : Below w1.heap.size w1 (w1.alloc (.cells #[.int .u8 4, .int .u8 m.f, .int .u8 m.t, .int .u8 m.e] 5)) := (Below.refl _ _).alloc (Nat.le_refl _) _
  have O2 : (w1.alloc (.cells #[.int .u8 4, .int .u8 m.f, .int .u8 m.t, .int .u8 m.e] 5)).ownsRow 0 5 1 (.slice (some ⟨w1.heap.size, 0, none⟩) 4 4) 4 (vals [(4 : Int), m.f, m.t, m.e]) := own_lit w1 [(4 : Int), m.f, m.t, m.e] 4 rfl (by decide)
  have H2 := Lib.hid (And.intro B2 O2)
  clear b1 hb1 B2 O2 IS
  go_upto_region 4 with fail
  obtain ⟨w2, hw2⟩ : ∃ w2, w2 = w1.alloc (.cells #[.int .u8 4, .int .u8 m.f, .int .u8 m.t, .int .u8 m.e] 5) := ⟨_, rfl⟩
  rw [← hw2] at H2 ⊢
  have hs2 : w2.heap.size = w1.heap.size + 1 := by rw [hw2]; simp
  clear k0 k1 k2 k3 hw2
  have G0 := GR.start H2.out.2
  have BX := Lib.hid (fun wx a n' c' l' (g : GR w2 (.slice (some ⟨w1.heap.size, 0, none⟩) 4 4) wx a n' c' l') => show wx.heap[w.heap.size]? = some (.cells m.cells.toArray 37 (0, 0)) by
    have h1 := HB1.out.1.size
    have h2 := HSZ.out
    rw [g.block (by omega) (by simp [Value.ownBlock]; omega), H2.out.1.block _ (by omega)]
    exact HB1.out.2)
  have k0 : w2.cell? ⟨w.heap.size, 0, none⟩ = some (.int .u8 4) := by rw [mg_cell (BX.out _ _ _ _ _ G0) 0, ← HK.out]; rfl
  have HS2 := Lib.hid hs2
  have HG0 := Lib.hid G0
  clear hs2
  obtain ⟨g0, hg0⟩ : ∃ g0, g0 = w1.heap.size := ⟨_, rfl⟩
  rw [← hg0] at G0 BX HG0 H2 ⊢
  have HG0E := Lib.hid hg0
  clear hg0
  go_upto_region 10 with fail
  clear k0 G0
  have G0 := HG0.out.below (Below.refl _ _).drew
  refine wp_region_held_drew (S := fun wx => wx.heap[w.heap.size]? = some (.cells m.cells.toArray 37 (0, 0))) (by kernel_rfl) ((BX.out _ _ _ _ _ G0)) (fun hS => ?_)
  refine tm 0 (.slice (some ⟨g0, 0, none⟩) 4 4) rfl hS ?_
  refine tg 1 (.pointer (some ⟨w.heap.size, 4, none⟩)) rfl hS ?_
  refine tk 2 (.int .u32 m.vw) rfl (yi_load 22 (.tmp 32) (.pointer (some ⟨w.heap.size, 4, none⟩)) rfl rfl rfl (fun wq hw => by have q : wq.cell? ⟨w.heap.size, 4, none⟩ = some (.int .u32 m.vw) := (mg_cell hw 4).trans rfl; go_simp)) hS ?_
  refine tk 3 (.int .u64 m.vw) rfl (.inl ⟨rfl, fun _ _ => by go_simp <;> first | exact hwvw | exact hwsq | exact hwrs⟩) hS ?_
  refine tg 5 (.pointer (some ⟨w.heap.size, 5, none⟩)) rfl hS ?_
  refine tk 6 (.int .u32 m.sq) rfl (yi_load 22 (.tmp 36) (.pointer (some ⟨w.heap.size, 5, none⟩)) rfl rfl rfl (fun wq hw => by have q : wq.cell? ⟨w.heap.size, 5, none⟩ = some (.int .u32 m.sq) := (mg_cell hw 5).trans rfl; go_simp)) hS ?_
  refine tk 7 (.int .u64 m.sq) rfl (.inl ⟨rfl, fun _ _ => by go_simp <;> first | exact hwvw | exact hwsq | exact hwrs⟩) hS ?_
  refine tg 9 (.pointer (some ⟨w.heap.size, 6, none⟩)) rfl hS ?_
  refine tk 10 (.agg m.rq.cells.toArray) rfl (yi_load 27 (.tmp 40) (.pointer (some ⟨w.heap.size, 6, none⟩)) rfl rfl rfl (fun wq hw => mg_rq hw)) hS ?_
  refine rdy1 4 rfl (fun K hK => ?_)
  rw [if_pos (by rfl)]
  go_simp
  refine Calls.mono ((put_e G0 m.vw 4 8 (by decide) (by decide) rfl)) ?_
  rintro e v1_10 ⟨a1_10, c1_10, rfl, M1_10⟩
  refine hK.out _ _ ((BX.out _ _ _ _ _ M1_10)) (fun hS => ?_)
  clear hK K
  refine rdy1 8 rfl (fun K hK => ?_)
  rw [if_pos (by rfl)]
  go_simp
  refine Calls.mono ((put_e M1_10 m.sq 4 12 (by decide) (by decide) rfl)) ?_
  rintro e v2_10 ⟨a2_10, c2_10, rfl, M2_10⟩
  refine hK.out _ _ ((BX.out _ _ _ _ _ M2_10)) (fun hS => ?_)
  clear hK K
  refine rdy1 11 rfl (fun K hK => ?_)
  rw [if_pos (by rfl)]
  go_simp
  refine Calls.mono ((refReq_any M2_10.own m.rq HG.out.2.2.2.1 (by decide))) ?_
  rintro e v3_10 ⟨a3_10, c3_10, rfl, R3_10⟩
  have M3_10 := M2_10.trans R3_10
  refine hK.out _ _ ((BX.out _ _ _ _ _ M3_10)) (fun hS => ?_)
  clear hK K
  refine tm 12 (.slice a3_10 21 c3_10) rfl hS ?_
  refine wpAnyH_done (by kernel_rfl) ?_ _
  have MM := Lib.hid M3_10
  clear hS
  go_wp2_with fail
  have hE : encM m c = [(4 : Int), m.f, m.t, m.e] ++ be m.vw 4 ++ be m.sq 4 ++ m.rq.bytes := by
    unfold encM encUp
    rw [HK.out]
    simp [partsOf, partY, wordB, Rq.bytes, be_4]
  have q := MM.out
  obtain ⟨qn, qb⟩ := q.new (H := w.heap.size) (w := w) (by simp [be, Rq.bytes, b4, b2]) (by have := HG0E.out; have := HB1.out.1.size; have := HSZ.out; omega) (by have := HS2.out; have := HB1.out.1.size; have := HSZ.out; omega) ((HBL.out.trans (HB1.out.1.mono HBL.out.size)).trans (H2.out.1.mono (by have := HG0E.out; have := HB1.out.1.size; have := HSZ.out; omega)))
  rw [hE]
  refine bodyPost_ret (v := .tuple #[.slice _ 21 _, .int .i64 0]) (by simp [results, Tryz.results9, go_sem]; exact ⟨rfl, rfl⟩) rfl ⟨_, _, by rw [show ([(4 : Int), m.f, m.t, m.e] ++ be m.vw 4 ++ be m.sq 4 ++ m.rq.bytes).length = 21 by simp [be, Rq.bytes, b4, b2]], qn, qb⟩

set_option maxHeartbeats 8000000 in
theorem refEnc_k5 (w : World) (m : Mg) (c : Mc) (hm : MgAt w m c) (hok : ∀ x ∈ c.vs, (∀ y ∈ x.2.p, 0 ≤ y.s ∧ y.rq.ok) ∧ ∀ y ∈ x.2.q, 0 ≤ y.s ∧ y.rq.ok) (hvo : (∀ y ∈ c.vt.p, 0 ≤ y.s ∧ y.rq.ok) ∧ ∀ y ∈ c.vt.q, 0 ≤ y.s ∧ y.rq.ok)
    (hf : 0 ≤ m.f ∧ m.f ≤ 255) (ht : 0 ≤ m.t ∧ m.t ≤ 255) (hg : ((0 ≤ m.vw ∧ m.vw ≤ 4294967295) ∧ (0 ≤ m.sq ∧ m.sq ≤ 4294967295) ∧ (0 ≤ m.rs ∧ m.rs ≤ 4294967295) ∧ m.rq.ok ∧ VtR m.vt c.vt ∧ (∀ x ∈ c.vs, VtR x.1 x.2) ∧ (∀ x ∈ c.sm, 0 ≤ x ∧ x ≤ 18446744073709551615))) (hk : m.k = 5) (hi : isM m c = true) :
    Calls Tryz.prog 9 #[.agg m.cells.toArray] w fun e w' => ∃ ao z, e = .returned (.tuple #[.slice ao (encM m c).length z, .int .i64 0]) ∧ New w.heap.size w' ao z (encM m c) ∧ Below w.heap.size w w' := by
  obtain ⟨W, hW⟩ : ∃ W, W = w.alloc (.cells m.cells.toArray 37) := ⟨_, rfl⟩
  have hbx := bx1 hW
  have hbl := bl1 hW
  have hs : W.heap.size = w.heap.size + 1 := by rw [hW]; simp
  have IS := refIs_any W m c (hm.below hbl) hok hvo hf ht
  rw [hi] at IS
  have IS := Lib.hid IS
  have HM := Lib.hid hm
  have HI := Lib.hid hi
  have HG := Lib.hid hg
  have HK := Lib.hid hk
  have HW := Lib.hid hW
  have HBX := Lib.hid hbx
  have HBL := Lib.hid hbl
  have HSZ := Lib.hid hs
  have hwvw : IntKind.u64.wrap m.vw = m.vw := by rw [IntKind.wrap_u64]; omega
  have hwsq : IntKind.u64.wrap m.sq = m.sq := by rw [IntKind.wrap_u64]; omega
  have hwrs : IntKind.u64.wrap m.rs = m.rs := by rw [IntKind.wrap_u64]; omega
  clear hm hok hvo hf ht hg hk hi hW hbx hbl hs
  obtain ⟨A, hA⟩ : ∃ A, A = m.cells.toArray := ⟨_, rfl⟩
  rw [← hA] at IS HW ⊢
  have HA := Lib.hid hA
  clear hA
  go_enter Tryz.func9, Tryz.ntmps9
  go_upto_region 1 with fail
  rw [← HW.out]
  refine wp_region_lit ?_
  refine wpList_load_row rfl 37 (.tmp 1) rfl w.heap.size rfl 37 A (0, 0) _ (by rw [HA.out]; exact HBX.out) Tryz.underlying37 rfl (by rw [HA.out]; exact size37) ?_
  dsimp only
  go_wp2_with fail
  refine IS.out.mono ?_
  rintro e w1 ⟨rfl, b1⟩
  have hb1 : w1.heap[w.heap.size]? = some (.cells m.cells.toArray 37 (0, 0)) := by rw [b1.block _ (by have := HSZ.out; omega)]; exact HBX.out
  have k0 : w1.cell? ⟨w.heap.size, 0, none⟩ = some (.int .u8 5) := by rw [mg_cell hb1 0, ← HK.out]; rfl
  have k1 : w1.cell? ⟨w.heap.size, 1, none⟩ = some (.int .u8 m.f) := by rw [mg_cell hb1 1]; rfl
  have k2 : w1.cell? ⟨w.heap.size, 2, none⟩ = some (.int .u8 m.t) := by rw [mg_cell hb1 2]; rfl
  have k3 : w1.cell? ⟨w.heap.size, 3, none⟩ = some (.int .u8 m.e) := by rw [mg_cell hb1 3]; rfl
  have HB1 := Lib.hid (And.intro b1 hb1)
  have B2 : Below w1.heap.size w1 (w1.alloc (.cells #[.int .u8 5, .int .u8 m.f, .int .u8 m.t, .int .u8 m.e] 5)) := (Below.refl _ _).alloc (Nat.le_refl _) _
  have O2 : (w1.alloc (.cells #[.int .u8 5, .int .u8 m.f, .int .u8 m.t, .int .u8 m.e] 5)).ownsRow 0 5 1 (.slice (some ⟨w1.heap.size, 0, none⟩) 4 4) 4 (vals [(5 : Int), m.f, m.t, m.e]) := own_lit w1 [(5 : Int), m.f, m.t, m.e] 4 rfl (by decide)
  have H2 := Lib.hid (And.intro B2 O2)
  clear b1 hb1 B2 O2 IS
  go_upto_region 4 with fail
  obtain ⟨w2, hw2⟩ : ∃ w2, w2 = w1.alloc (.cells #[.int .u8 5, .int .u8 m.f, .int .u8 m.t, .int .u8 m.e] 5) := ⟨_, rfl⟩
  rw [← hw2] at H2 ⊢
  have hs2 : w2.heap.size = w1.heap.size + 1 := by rw [hw2]; simp
  clear k0 k1 k2 k3 hw2
  have G0 := GR.start H2.out.2
  have BX := Lib.hid (fun wx a n' c' l' (g : GR w2 (.slice (some ⟨w1.heap.size, 0, none⟩) 4 4) wx a n' c' l') => show wx.heap[w.heap.size]? = some (.cells m.cells.toArray 37 (0, 0)) by
    have h1 := HB1.out.1.size
    have h2 := HSZ.out
    rw [g.block (by omega) (by simp [Value.ownBlock]; omega), H2.out.1.block _ (by omega)]
    exact HB1.out.2)
  have k0 : w2.cell? ⟨w.heap.size, 0, none⟩ = some (.int .u8 5) := by rw [mg_cell (BX.out _ _ _ _ _ G0) 0, ← HK.out]; rfl
  have HS2 := Lib.hid hs2
  have HG0 := Lib.hid G0
  clear hs2
  obtain ⟨g0, hg0⟩ : ∃ g0, g0 = w1.heap.size := ⟨_, rfl⟩
  rw [← hg0] at G0 BX HG0 H2 ⊢
  have HG0E := Lib.hid hg0
  clear hg0
  go_upto_region 12 with fail
  clear k0 G0
  have G0 := HG0.out.below (Below.refl _ _).drew
  refine wp_region_held_drew (S := fun wx => wx.heap[w.heap.size]? = some (.cells m.cells.toArray 37 (0, 0))) (by kernel_rfl) ((BX.out _ _ _ _ _ G0)) (fun hS => ?_)
  refine tm 0 (.slice (some ⟨g0, 0, none⟩) 4 4) rfl hS ?_
  refine tg 1 (.pointer (some ⟨w.heap.size, 5, none⟩)) rfl hS ?_
  refine tk 2 (.int .u32 m.sq) rfl (yi_load 22 (.tmp 46) (.pointer (some ⟨w.heap.size, 5, none⟩)) rfl rfl rfl (fun wq hw => by have q : wq.cell? ⟨w.heap.size, 5, none⟩ = some (.int .u32 m.sq) := (mg_cell hw 5).trans rfl; go_simp)) hS ?_
  refine tk 3 (.int .u64 m.sq) rfl (.inl ⟨rfl, fun _ _ => by go_simp <;> first | exact hwvw | exact hwsq | exact hwrs⟩) hS ?_
  refine tg 5 (.pointer (some ⟨w.heap.size, 11, none⟩)) rfl hS ?_
  refine tk 6 (.int .u64 m.ro) rfl (yi_load 28 (.tmp 50) (.pointer (some ⟨w.heap.size, 11, none⟩)) rfl rfl rfl (fun wq hw => by have q : wq.cell? ⟨w.heap.size, 11, none⟩ = some (.int .u64 m.ro) := (mg_cell hw 11).trans rfl; go_simp)) hS ?_
  refine rdy1 4 rfl (fun K hK => ?_)
  rw [if_pos (by rfl)]
  go_simp
  refine Calls.mono ((put_e G0 m.sq 4 8 (by decide) (by decide) rfl)) ?_
  rintro e v1_12 ⟨a1_12, c1_12, rfl, M1_12⟩
  refine hK.out _ _ ((BX.out _ _ _ _ _ M1_12)) (fun hS => ?_)
  clear hK K
  refine rdy1 7 rfl (fun K hK => ?_)
  rw [if_pos (by rfl)]
  go_simp
  refine Calls.mono ((put_e M1_12 m.ro 8 16 (by decide) (by decide) rfl)) ?_
  rintro e v2_12 ⟨a2_12, c2_12, rfl, M2_12⟩
  refine hK.out _ _ ((BX.out _ _ _ _ _ M2_12)) (fun hS => ?_)
  clear hK K
  refine tm 8 (.slice a2_12 16 c2_12) rfl hS ?_
  refine wpAnyH_done (by kernel_rfl) ?_ _
  have MM := Lib.hid M2_12
  clear hS
  go_wp2_with fail
  have hE : encM m c = [(5 : Int), m.f, m.t, m.e] ++ be m.sq 4 ++ be m.ro 8 := by
    unfold encM encUp
    rw [HK.out]
    simp [partsOf, partY, wordB, be_4, be_8]
  have q := MM.out
  obtain ⟨qn, qb⟩ := q.new (H := w.heap.size) (w := w) (by simp [be]) (by have := HG0E.out; have := HB1.out.1.size; have := HSZ.out; omega) (by have := HS2.out; have := HB1.out.1.size; have := HSZ.out; omega) ((HBL.out.trans (HB1.out.1.mono HBL.out.size)).trans (H2.out.1.mono (by have := HG0E.out; have := HB1.out.1.size; have := HSZ.out; omega)))
  rw [hE]
  refine bodyPost_ret (v := .tuple #[.slice _ 16 _, .int .i64 0]) (by simp [results, Tryz.results9, go_sem]; exact ⟨rfl, rfl⟩) rfl ⟨_, _, by rw [show ([(5 : Int), m.f, m.t, m.e] ++ be m.sq 4 ++ be m.ro 8).length = 16 by simp [be]], qn, qb⟩

set_option maxHeartbeats 8000000 in
theorem refEnc_k6 (w : World) (m : Mg) (c : Mc) (hm : MgAt w m c) (hok : ∀ x ∈ c.vs, (∀ y ∈ x.2.p, 0 ≤ y.s ∧ y.rq.ok) ∧ ∀ y ∈ x.2.q, 0 ≤ y.s ∧ y.rq.ok) (hvo : (∀ y ∈ c.vt.p, 0 ≤ y.s ∧ y.rq.ok) ∧ ∀ y ∈ c.vt.q, 0 ≤ y.s ∧ y.rq.ok)
    (hf : 0 ≤ m.f ∧ m.f ≤ 255) (ht : 0 ≤ m.t ∧ m.t ≤ 255) (hg : ((0 ≤ m.vw ∧ m.vw ≤ 4294967295) ∧ (0 ≤ m.sq ∧ m.sq ≤ 4294967295) ∧ (0 ≤ m.rs ∧ m.rs ≤ 4294967295) ∧ m.rq.ok ∧ VtR m.vt c.vt ∧ (∀ x ∈ c.vs, VtR x.1 x.2) ∧ (∀ x ∈ c.sm, 0 ≤ x ∧ x ≤ 18446744073709551615))) (hk : m.k = 6) (hi : isM m c = true) :
    Calls Tryz.prog 9 #[.agg m.cells.toArray] w fun e w' => ∃ ao z, e = .returned (.tuple #[.slice ao (encM m c).length z, .int .i64 0]) ∧ New w.heap.size w' ao z (encM m c) ∧ Below w.heap.size w w' := by
  obtain ⟨W, hW⟩ : ∃ W, W = w.alloc (.cells m.cells.toArray 37) := ⟨_, rfl⟩
  have hbx := bx1 hW
  have hbl := bl1 hW
  have hs : W.heap.size = w.heap.size + 1 := by rw [hW]; simp
  have IS := refIs_any W m c (hm.below hbl) hok hvo hf ht
  rw [hi] at IS
  have IS := Lib.hid IS
  have HM := Lib.hid hm
  have HI := Lib.hid hi
  have HG := Lib.hid hg
  have HK := Lib.hid hk
  have HW := Lib.hid hW
  have HBX := Lib.hid hbx
  have HBL := Lib.hid hbl
  have HSZ := Lib.hid hs
  have hwvw : IntKind.u64.wrap m.vw = m.vw := by rw [IntKind.wrap_u64]; omega
  have hwsq : IntKind.u64.wrap m.sq = m.sq := by rw [IntKind.wrap_u64]; omega
  have hwrs : IntKind.u64.wrap m.rs = m.rs := by rw [IntKind.wrap_u64]; omega
  clear hm hok hvo hf ht hg hk hi hW hbx hbl hs
  obtain ⟨A, hA⟩ : ∃ A, A = m.cells.toArray := ⟨_, rfl⟩
  rw [← hA] at IS HW ⊢
  have HA := Lib.hid hA
  clear hA
  go_enter Tryz.func9, Tryz.ntmps9
  go_upto_region 1 with fail
  rw [← HW.out]
  refine wp_region_lit ?_
  refine wpList_load_row rfl 37 (.tmp 1) rfl w.heap.size rfl 37 A (0, 0) _ (by rw [HA.out]; exact HBX.out) Tryz.underlying37 rfl (by rw [HA.out]; exact size37) ?_
  dsimp only
  go_wp2_with fail
  refine IS.out.mono ?_
  rintro e w1 ⟨rfl, b1⟩
  have hb1 : w1.heap[w.heap.size]? = some (.cells m.cells.toArray 37 (0, 0)) := by rw [b1.block _ (by have := HSZ.out; omega)]; exact HBX.out
  have k0 : w1.cell? ⟨w.heap.size, 0, none⟩ = some (.int .u8 6) := by rw [mg_cell hb1 0, ← HK.out]; rfl
  have k1 : w1.cell? ⟨w.heap.size, 1, none⟩ = some (.int .u8 m.f) := by rw [mg_cell hb1 1]; rfl
  have k2 : w1.cell? ⟨w.heap.size, 2, none⟩ = some (.int .u8 m.t) := by rw [mg_cell hb1 2]; rfl
  have k3 : w1.cell? ⟨w.heap.size, 3, none⟩ = some (.int .u8 m.e) := by rw [mg_cell hb1 3]; rfl
  have HB1 := Lib.hid (And.intro b1 hb1)
  have B2 : Below w1.heap.size w1 (w1.alloc (.cells #[.int .u8 6, .int .u8 m.f, .int .u8 m.t, .int .u8 m.e] 5)) := (Below.refl _ _).alloc (Nat.le_refl _) _
  have O2 : (w1.alloc (.cells #[.int .u8 6, .int .u8 m.f, .int .u8 m.t, .int .u8 m.e] 5)).ownsRow 0 5 1 (.slice (some ⟨w1.heap.size, 0, none⟩) 4 4) 4 (vals [(6 : Int), m.f, m.t, m.e]) := own_lit w1 [(6 : Int), m.f, m.t, m.e] 4 rfl (by decide)
  have H2 := Lib.hid (And.intro B2 O2)
  clear b1 hb1 B2 O2 IS
  go_upto_region 4 with fail
  obtain ⟨w2, hw2⟩ : ∃ w2, w2 = w1.alloc (.cells #[.int .u8 6, .int .u8 m.f, .int .u8 m.t, .int .u8 m.e] 5) := ⟨_, rfl⟩
  rw [← hw2] at H2 ⊢
  have hs2 : w2.heap.size = w1.heap.size + 1 := by rw [hw2]; simp
  clear k0 k1 k2 k3 hw2
  have G0 := GR.start H2.out.2
  have BX := Lib.hid (fun wx a n' c' l' (g : GR w2 (.slice (some ⟨w1.heap.size, 0, none⟩) 4 4) wx a n' c' l') => show wx.heap[w.heap.size]? = some (.cells m.cells.toArray 37 (0, 0)) by
    have h1 := HB1.out.1.size
    have h2 := HSZ.out
    rw [g.block (by omega) (by simp [Value.ownBlock]; omega), H2.out.1.block _ (by omega)]
    exact HB1.out.2)
  have k0 : w2.cell? ⟨w.heap.size, 0, none⟩ = some (.int .u8 6) := by rw [mg_cell (BX.out _ _ _ _ _ G0) 0, ← HK.out]; rfl
  have HS2 := Lib.hid hs2
  have HG0 := Lib.hid G0
  clear hs2
  obtain ⟨g0, hg0⟩ : ∃ g0, g0 = w1.heap.size := ⟨_, rfl⟩
  rw [← hg0] at G0 BX HG0 H2 ⊢
  have HG0E := Lib.hid hg0
  clear hg0
  go_upto_region 14 with fail
  have BEL := Lib.hid (fun wx a n' c' l' (g : GR w2 (.slice (some ⟨g0, 0, none⟩) 4 4) wx a n' c' l') => show Below w.heap.size w wx by
    have h0 := HG0E.out
    have h1 := HB1.out.1.size
    have h2 := HSZ.out
    have h3 := HS2.out
    exact ((HBL.out.trans (HB1.out.1.mono HBL.out.size)).trans (H2.out.1.mono (by omega))).trans (g.kept.below (by omega) (fun k e => by simp [Value.ownBlock] at e; omega)))
  have q15 : w2.cell? ⟨w.heap.size, 15, none⟩ = some (.int .u8 m.vt.f) := (mg_cell (BX.out _ _ _ _ _ G0) 15).trans rfl
  have q16 : w2.cell? ⟨w.heap.size, 16, none⟩ = some (.int .u8 m.vt.e) := (mg_cell (BX.out _ _ _ _ _ G0) 16).trans rfl
  have q17 : w2.cell? ⟨w.heap.size, 17, none⟩ = some (.int .u32 m.vt.vw) := (mg_cell (BX.out _ _ _ _ _ G0) 17).trans rfl
  have q18 : w2.cell? ⟨w.heap.size, 18, none⟩ = some (.int .u32 m.vt.lo) := (mg_cell (BX.out _ _ _ _ _ G0) 18).trans rfl
  have q19 : w2.cell? ⟨w.heap.size, 19, none⟩ = some (.slice m.vt.ms.a m.vt.ms.n m.vt.ms.c) := (mg_cell (BX.out _ _ _ _ _ G0) 19).trans rfl
  have q20 : w2.cell? ⟨w.heap.size, 20, none⟩ = some (.slice m.vt.p.a m.vt.p.n m.vt.p.c) := (mg_cell (BX.out _ _ _ _ _ G0) 20).trans rfl
  have q21 : w2.cell? ⟨w.heap.size, 21, none⟩ = some (.slice m.vt.q.a m.vt.q.n m.vt.q.c) := (mg_cell (BX.out _ _ _ _ _ G0) 21).trans rfl
  have hfew := isM_7 HI.out (by rw [HK.out]; decide)
  have RC := refVote_any HG0.out.own m.vt c.vt (fun wx a n' c' l' g => HM.out.vt.below (BEL.out _ _ _ _ _ (HG0.out.trans g))) HG.out.2.2.2.2.1 hfew (by decide)
  simp only [Vt.cells] at RC
  have RC := Lib.hid RC
  have HLV := Lib.hid (voteY_len (v := m.vt) hfew)
  clear G0 k0 hfew
  go_wp2_with fail
  refine RC.out.mono ?_
  rintro e v1 ⟨z, a1, z1, rfl, R1, hz⟩
  have MM := Lib.hid (HG0.out.trans R1)
  have hzb : z ≤ 8000 := by have := HLV.out; omega
  have HZ := Lib.hid hz
  clear R1 RC hz
  go_wp2_with fail
  have hE : encM m c = [(6 : Int), m.f, m.t, m.e] ++ voteY m.vt c.vt := by
    unfold encM encUp
    rw [HK.out]
    simp [partsOf, partY]
  have q := MM.out
  obtain ⟨qn, qb⟩ := q.new (H := w.heap.size) (w := w) (by rw [HZ.out, List.length_append]; rfl) (by have := HG0E.out; have := HB1.out.1.size; have := HSZ.out; omega) (by have := HS2.out; have := HB1.out.1.size; have := HSZ.out; omega) ((HBL.out.trans (HB1.out.1.mono HBL.out.size)).trans (H2.out.1.mono (by have := HG0E.out; have := HB1.out.1.size; have := HSZ.out; omega)))
  rw [hE]
  refine bodyPost_ret (v := .tuple #[.slice _ z _, .int .i64 0]) (by simp [results, Tryz.results9, go_sem]; exact ⟨rfl, rfl⟩) rfl ⟨_, _, by rw [show ([(6 : Int), m.f, m.t, m.e] ++ voteY m.vt c.vt).length = z by rw [HZ.out, List.length_append]; rfl], qn, qb⟩

set_option maxHeartbeats 8000000 in
theorem refEnc_k7 (w : World) (m : Mg) (c : Mc) (hm : MgAt w m c) (hok : ∀ x ∈ c.vs, (∀ y ∈ x.2.p, 0 ≤ y.s ∧ y.rq.ok) ∧ ∀ y ∈ x.2.q, 0 ≤ y.s ∧ y.rq.ok) (hvo : (∀ y ∈ c.vt.p, 0 ≤ y.s ∧ y.rq.ok) ∧ ∀ y ∈ c.vt.q, 0 ≤ y.s ∧ y.rq.ok)
    (hf : 0 ≤ m.f ∧ m.f ≤ 255) (ht : 0 ≤ m.t ∧ m.t ≤ 255) (hg : ((0 ≤ m.vw ∧ m.vw ≤ 4294967295) ∧ (0 ≤ m.sq ∧ m.sq ≤ 4294967295) ∧ (0 ≤ m.rs ∧ m.rs ≤ 4294967295) ∧ m.rq.ok ∧ VtR m.vt c.vt ∧ (∀ x ∈ c.vs, VtR x.1 x.2) ∧ (∀ x ∈ c.sm, 0 ≤ x ∧ x ≤ 18446744073709551615))) (hk : m.k = 7) (hi : isM m c = true) :
    Calls Tryz.prog 9 #[.agg m.cells.toArray] w fun e w' => ∃ ao z, e = .returned (.tuple #[.slice ao (encM m c).length z, .int .i64 0]) ∧ New w.heap.size w' ao z (encM m c) ∧ Below w.heap.size w w' := by
  obtain ⟨W, hW⟩ : ∃ W, W = w.alloc (.cells m.cells.toArray 37) := ⟨_, rfl⟩
  have hbx := bx1 hW
  have hbl := bl1 hW
  have hs : W.heap.size = w.heap.size + 1 := by rw [hW]; simp
  have IS := refIs_any W m c (hm.below hbl) hok hvo hf ht
  rw [hi] at IS
  have IS := Lib.hid IS
  have HM := Lib.hid hm
  have HI := Lib.hid hi
  have HG := Lib.hid hg
  have HK := Lib.hid hk
  have HW := Lib.hid hW
  have HBX := Lib.hid hbx
  have HBL := Lib.hid hbl
  have HSZ := Lib.hid hs
  have hwvw : IntKind.u64.wrap m.vw = m.vw := by rw [IntKind.wrap_u64]; omega
  have hwsq : IntKind.u64.wrap m.sq = m.sq := by rw [IntKind.wrap_u64]; omega
  have hwrs : IntKind.u64.wrap m.rs = m.rs := by rw [IntKind.wrap_u64]; omega
  clear hm hok hvo hf ht hg hk hi hW hbx hbl hs
  obtain ⟨A, hA⟩ : ∃ A, A = m.cells.toArray := ⟨_, rfl⟩
  rw [← hA] at IS HW ⊢
  have HA := Lib.hid hA
  clear hA
  go_enter Tryz.func9, Tryz.ntmps9
  go_upto_region 1 with fail
  rw [← HW.out]
  refine wp_region_lit ?_
  refine wpList_load_row rfl 37 (.tmp 1) rfl w.heap.size rfl 37 A (0, 0) _ (by rw [HA.out]; exact HBX.out) Tryz.underlying37 rfl (by rw [HA.out]; exact size37) ?_
  dsimp only
  go_wp2_with fail
  refine IS.out.mono ?_
  rintro e w1 ⟨rfl, b1⟩
  have hb1 : w1.heap[w.heap.size]? = some (.cells m.cells.toArray 37 (0, 0)) := by rw [b1.block _ (by have := HSZ.out; omega)]; exact HBX.out
  have k0 : w1.cell? ⟨w.heap.size, 0, none⟩ = some (.int .u8 7) := by rw [mg_cell hb1 0, ← HK.out]; rfl
  have k1 : w1.cell? ⟨w.heap.size, 1, none⟩ = some (.int .u8 m.f) := by rw [mg_cell hb1 1]; rfl
  have k2 : w1.cell? ⟨w.heap.size, 2, none⟩ = some (.int .u8 m.t) := by rw [mg_cell hb1 2]; rfl
  have k3 : w1.cell? ⟨w.heap.size, 3, none⟩ = some (.int .u8 m.e) := by rw [mg_cell hb1 3]; rfl
  have HB1 := Lib.hid (And.intro b1 hb1)
  have B2 : Below w1.heap.size w1 (w1.alloc (.cells #[.int .u8 7, .int .u8 m.f, .int .u8 m.t, .int .u8 m.e] 5)) := (Below.refl _ _).alloc (Nat.le_refl _) _
  have O2 : (w1.alloc (.cells #[.int .u8 7, .int .u8 m.f, .int .u8 m.t, .int .u8 m.e] 5)).ownsRow 0 5 1 (.slice (some ⟨w1.heap.size, 0, none⟩) 4 4) 4 (vals [(7 : Int), m.f, m.t, m.e]) := own_lit w1 [(7 : Int), m.f, m.t, m.e] 4 rfl (by decide)
  have H2 := Lib.hid (And.intro B2 O2)
  clear b1 hb1 B2 O2 IS
  go_upto_region 4 with fail
  obtain ⟨w2, hw2⟩ : ∃ w2, w2 = w1.alloc (.cells #[.int .u8 7, .int .u8 m.f, .int .u8 m.t, .int .u8 m.e] 5) := ⟨_, rfl⟩
  rw [← hw2] at H2 ⊢
  have hs2 : w2.heap.size = w1.heap.size + 1 := by rw [hw2]; simp
  clear k0 k1 k2 k3 hw2
  have G0 := GR.start H2.out.2
  have BX := Lib.hid (fun wx a n' c' l' (g : GR w2 (.slice (some ⟨w1.heap.size, 0, none⟩) 4 4) wx a n' c' l') => show wx.heap[w.heap.size]? = some (.cells m.cells.toArray 37 (0, 0)) by
    have h1 := HB1.out.1.size
    have h2 := HSZ.out
    rw [g.block (by omega) (by simp [Value.ownBlock]; omega), H2.out.1.block _ (by omega)]
    exact HB1.out.2)
  have k0 : w2.cell? ⟨w.heap.size, 0, none⟩ = some (.int .u8 7) := by rw [mg_cell (BX.out _ _ _ _ _ G0) 0, ← HK.out]; rfl
  have HS2 := Lib.hid hs2
  have HG0 := Lib.hid G0
  clear hs2
  obtain ⟨g0, hg0⟩ : ∃ g0, g0 = w1.heap.size := ⟨_, rfl⟩
  rw [← hg0] at G0 BX HG0 H2 ⊢
  have HG0E := Lib.hid hg0
  clear hg0
  go_upto_region 16 with fail
  have BEL := Lib.hid (fun wx a n' c' l' (g : GR w2 (.slice (some ⟨g0, 0, none⟩) 4 4) wx a n' c' l') => show Below w.heap.size w wx by
    have h0 := HG0E.out
    have h1 := HB1.out.1.size
    have h2 := HSZ.out
    have h3 := HS2.out
    exact ((HBL.out.trans (HB1.out.1.mono HBL.out.size)).trans (H2.out.1.mono (by omega))).trans (g.kept.below (by omega) (fun k e => by simp [Value.ownBlock] at e; omega)))
  have HV4 := Lib.hid (isM_8 HI.out (by rw [HK.out]; decide))
  have HVN := Lib.hid (show m.vs.n = c.vs.length from HM.out.vs.1.len)
  have hvn : (m.vs.n : Int) ≤ 4 := by have h1 := HV4.out.1; have h2 := HVN.out; omega
  have hw8 : IntKind.u8.wrap (m.vs.n : Int) = m.vs.n := by
    have : IntKind.u8.wrap (m.vs.n : Int) = (m.vs.n : Int) % 256 := rfl
    omega
  clear k0 G0
  have G0 := HG0.out.below (Below.refl _ _).drew
  have HU := Lib.hid (show Below w2.heap.size w2 (w2.alloc (.cells #[.int .u8 (m.vs.n : Int)] 5)).drew ∧ w2.heap.size < (w2.alloc (.cells #[.int .u8 (m.vs.n : Int)] 5)).drew.heap.size ∧ (Value.slice (some ⟨g0, 0, none⟩) 4 4).ownBlock ≠ some w2.heap.size ∧ (w2.alloc (.cells #[.int .u8 (m.vs.n : Int)] 5)).drew.heap[w2.heap.size]? = some (.cells (vals [(m.vs.n : Int)]).toArray 5 (0, 0)) from
    ⟨(((Below.refl _ _).alloc (Nat.le_refl _) _).drew), by show _ < (w2.alloc _).heap.size; simp, by have := HS2.out; have := HG0E.out; simp [Value.ownBlock]; omega, heap_alloc_new _ _⟩)
  have Gu := GR.start (HG0.out.below HU.out.1).own
  refine wp_region_held_drew (S := fun wx => wx.heap[w.heap.size]? = some (.cells m.cells.toArray 37 (0, 0))) (by kernel_rfl) ((BX.out _ _ _ _ _ G0)) (fun hS => ?_)
  refine tm 0 (.slice (some ⟨g0, 0, none⟩) 4 4) rfl hS ?_
  refine tg 1 (.pointer (some ⟨w.heap.size, 4, none⟩)) rfl hS ?_
  refine tk 2 (.int .u32 m.vw) rfl (yi_load 22 (.tmp 62) (.pointer (some ⟨w.heap.size, 4, none⟩)) rfl rfl rfl (fun wq hw => by have q : wq.cell? ⟨w.heap.size, 4, none⟩ = some (.int .u32 m.vw) := (mg_cell hw 4).trans rfl; go_simp)) hS ?_
  refine tk 3 (.int .u64 m.vw) rfl (.inl ⟨rfl, fun _ _ => by go_simp <;> first | exact hwvw | exact hwsq | exact hwrs⟩) hS ?_
  refine tg 5 (.pointer (some ⟨w.heap.size, 22, none⟩)) rfl hS ?_
  refine tk 6 (.slice m.vs.a m.vs.n m.vs.c) rfl (yi_load 33 (.tmp 66) (.pointer (some ⟨w.heap.size, 22, none⟩)) rfl rfl rfl (fun wq hw => by have q : wq.cell? ⟨w.heap.size, 22, none⟩ = some (.slice m.vs.a m.vs.n m.vs.c) := (mg_cell hw 22).trans rfl; go_simp)) hS ?_
  refine tg 7 (.int .i64 (m.vs.n : Int)) rfl hS ?_
  refine tk 8 (.int .u8 (m.vs.n : Int)) rfl (.inl ⟨rfl, fun _ _ => by go_simp <;> exact hw8⟩) hS ?_
  refine wpAnyH_ready (rs := [4, 9]) (by kernel_rfl) (by simp) ?_
  refine AllReadyH.cons rfl (fun K hK => ?_) (AllReadyH.cons rfl (fun K hK => ?_) AllReadyH.nil)
  · rw [if_pos (by rfl)]
    go_simp
    refine Calls.mono ((put_e G0 m.vw 4 8 (by decide) (by decide) rfl)) ?_
    rintro e v1 ⟨a1, z1, rfl, M1⟩
    refine hK.out _ _ ((BX.out _ _ _ _ _ M1)) (fun hS => ?_)
    clear hK K
    refine rdy1 9 rfl (fun K hK => ?_)
    rw [if_pos (by rfl)]
    go_simp
    refine hK.out _ _ ((BX.out _ _ _ _ _ (M1.below ((Below.refl _ _).alloc (Nat.le_refl _) _)))) (fun hS => ?_)
    clear hK K
    refine rdy1 10 rfl (fun K hK => ?_)
    rw [if_pos (by rfl)]
    first | (refine app_e (M1.below ((Below.refl _ _).alloc (Nat.le_refl _) _)) (.tmp 65) (.tmp 70) rfl rfl (some ⟨v1.heap.size, 0, none⟩) 1 1 [(m.vs.n : Int)] rfl rfl (by exact bytes_new _ [(m.vs.n : Int)] 5) (by intro h; cases h) (by decide) ?_) | (refine app_e M1 (.tmp 65) (.tmp 70) rfl rfl (some ⟨w2.heap.size, 0, none⟩) 1 1 [(m.vs.n : Int)] rfl rfl (bytes_block (by rw [Mu.block HU.out.2.1 HU.out.2.2.1]; exact HU.out.2.2.2)) (by intro h; cases h) (by decide) ?_)
    intro a2 z2 v2 M2
    refine hK.out _ _ ((BX.out _ _ _ _ _ M2)) (fun hS => ?_)
    clear hK K
    refine tm 11 (.slice a2 9 z2) rfl hS ?_
    refine wpAnyH_done (by kernel_rfl) ?_ _
    have MM := Lib.hid M2
    clear hS
    go_wp2_with fail
    (try simp only [Nat.reduceAdd])
    go_loopw [4, 5] (fun v4 v5 wr => ∃ (j p : Nat) (a5 : Option Addr) (c5 : Nat), v4 = .slice a5 p c5 ∧ v5 = .int .i64 j ∧ j ≤ m.vs.n ∧ p ≤ 9 + 1853 * j ∧ Hid (GR w2 (.slice (some ⟨g0, 0, none⟩) 4 4) wr a5 p c5 ([(7 : Int), m.f, m.t, m.e] ++ be m.vw 4 ++ [(m.vs.n : Int)] ++ (c.vs.take j).flatMap fun x => voteY x.1 x.2)))  (fun _ v5 _ => m.vs.n - (intOf v5).toNat)
    case atStart => exact ⟨0, 9, _, _, rfl, rfl, by omega, by omega, Lib.hid (by simpa using MM.out)⟩
    case round =>
      obtain ⟨j, p, a5, c5, rfl, rfl, hj, hpb, I⟩ := hrel
      have q22 : wr.cell? ⟨w.heap.size, 22, none⟩ = some (.slice m.vs.a m.vs.n m.vs.c) := (mg_cell (BX.out _ _ _ _ _ I.out) 22).trans rfl
      have hj4 : j ≤ 4 := by omega
      by_cases hjm : j < m.vs.n
      · have hjm' : (j : Int) < m.vs.n := by omega
        obtain ⟨x, hx⟩ : ∃ x, c.vs[j]? = some x := ⟨_, List.getElem?_eq_getElem (by rw [← HVN.out]; exact hjm)⟩
        obtain ⟨b, o, ha, hc⟩ := (HM.out.vs.1.below (BEL.out _ _ _ _ _ I.out)).cells (by rw [← HVN.out]; omega)
        have HC := Lib.hid hc
        have x0 : wr.cell? ⟨b, o + j * 7, none⟩ = some (.int .u8 x.1.f) := HC.out j x hx 0 _ rfl
        have x1 : wr.cell? ⟨b, o + j * 7 + 1, none⟩ = some (.int .u8 x.1.e) := HC.out j x hx 1 _ rfl
        have x2 : wr.cell? ⟨b, o + j * 7 + 2, none⟩ = some (.int .u32 x.1.vw) := HC.out j x hx 2 _ rfl
        have x3 : wr.cell? ⟨b, o + j * 7 + 3, none⟩ = some (.int .u32 x.1.lo) := HC.out j x hx 3 _ rfl
        have x4 : wr.cell? ⟨b, o + j * 7 + 4, none⟩ = some (.slice x.1.ms.a x.1.ms.n x.1.ms.c) := HC.out j x hx 4 _ rfl
        have x5 : wr.cell? ⟨b, o + j * 7 + 5, none⟩ = some (.slice x.1.p.a x.1.p.n x.1.p.c) := HC.out j x hx 5 _ rfl
        have x6 : wr.cell? ⟨b, o + j * 7 + 6, none⟩ = some (.slice x.1.q.a x.1.q.n x.1.q.c) := HC.out j x hx 6 _ rfl
        have hxm := List.mem_of_getElem? hx
        have RC := refVote_any I.out.own x.1 x.2 (fun wx a n' c' l' g => (HM.out.vs.2 x hxm).below (BEL.out _ _ _ _ _ (I.out.trans g))) (HG.out.2.2.2.2.2.1 x hxm) (HV4.out.2 x hxm) (by omega)
        simp only [Vt.cells] at RC
        have RC := Lib.hid RC
        have HLV := Lib.hid (voteY_len (v := x.1) (HV4.out.2 x hxm))
        have HX := Lib.hid hx
        rw [ha] at q22
        clear hc ha hx hxm
        go_wp2_with fail
        refine RC.out.mono ?_
        rintro e v5 ⟨z, a6, c6, rfl, R6, hz⟩
        have M6 := Lib.hid (I.out.trans R6)
        have hzb : z ≤ 9 + 1853 * (j + 1) := by have := HLV.out; omega
        clear R6 RC hz x0 x1 x2 x3 x4 x5 x6 q22
        go_wp2_with fail
        refine ⟨⟨j + 1, z, a6, c6, rfl, by go_num, by omega, hzb, Lib.hid ?_⟩, by simp [intOf]; omega⟩
        rw [take_next HX.out]
        have q := M6.out
        rw [List.append_assoc] at q
        exact q
      · obtain rfl : j = m.vs.n := by omega
        have MN := Lib.hid I.out
        rw [show List.take m.vs.n c.vs = c.vs from List.take_of_length_le (by rw [← HVN.out]; exact Nat.le_refl _)] at MN
        have hlp : p = ([(7 : Int), m.f, m.t, m.e] ++ be m.vw 4 ++ [(m.vs.n : Int)] ++ c.vs.flatMap fun x => voteY x.1 x.2).length := by
          have q := MN.out.own.1
          simp only [vals, List.length_map, Nat.mul_one] at q
          exact q.symm
        have HLP := Lib.hid hlp
        have hpb2 : p ≤ 8000 := by omega
        clear I hlp
        go_wp2_with fail
        have hE : encM m c = [(7 : Int), m.f, m.t, m.e] ++ be m.vw 4 ++ [(m.vs.n : Int)] ++ (c.vs.flatMap fun x => voteY x.1 x.2) := by
          unfold encM encUp
          rw [HK.out]
          simp [partsOf, partY, wordB, be_4, votesY, HVN.out]
        have q := MN.out
        obtain ⟨qn, qb⟩ := q.new (H := w.heap.size) (w := w) HLP.out (by have := HG0E.out; have := HB1.out.1.size; have := HSZ.out; omega) (by have := HS2.out; have := HB1.out.1.size; have := HSZ.out; omega) ((HBL.out.trans (HB1.out.1.mono HBL.out.size)).trans (H2.out.1.mono (by have := HG0E.out; have := HB1.out.1.size; have := HSZ.out; omega)))
        rw [hE]
        refine bodyPost_ret (v := .tuple #[.slice _ p _, .int .i64 0]) (by simp [results, Tryz.results9, go_sem]; exact ⟨rfl, rfl⟩) rfl ⟨_, _, by rw [show ([(7 : Int), m.f, m.t, m.e] ++ be m.vw 4 ++ [(m.vs.n : Int)] ++ (c.vs.flatMap fun x => voteY x.1 x.2)).length = p from HLP.out.symm], qn, qb⟩
  · rw [if_pos (by rfl)]
    go_simp
    refine hK.out _ _ ((BX.out _ _ _ _ _ (HG0.out.below HU.out.1))) (fun hS => ?_)
    clear hK K
    refine rdy1 4 rfl (fun K hK => ?_)
    rw [if_pos (by rfl)]
    go_simp
    refine Calls.mono ((put_e Gu m.vw 4 8 (by decide) (by decide) rfl)) ?_
    rintro e v1 ⟨a1, z1, rfl, Mu⟩
    have M1 := (HG0.out.below HU.out.1).trans Mu
    refine hK.out _ _ ((BX.out _ _ _ _ _ M1)) (fun hS => ?_)
    clear hK K
    refine rdy1 10 rfl (fun K hK => ?_)
    rw [if_pos (by rfl)]
    first | (refine app_e (M1.below ((Below.refl _ _).alloc (Nat.le_refl _) _)) (.tmp 65) (.tmp 70) rfl rfl (some ⟨v1.heap.size, 0, none⟩) 1 1 [(m.vs.n : Int)] rfl rfl (by exact bytes_new _ [(m.vs.n : Int)] 5) (by intro h; cases h) (by decide) ?_) | (refine app_e M1 (.tmp 65) (.tmp 70) rfl rfl (some ⟨w2.heap.size, 0, none⟩) 1 1 [(m.vs.n : Int)] rfl rfl (bytes_block (by rw [Mu.block HU.out.2.1 HU.out.2.2.1]; exact HU.out.2.2.2)) (by intro h; cases h) (by decide) ?_)
    intro a2 z2 v2 M2
    refine hK.out _ _ ((BX.out _ _ _ _ _ M2)) (fun hS => ?_)
    clear hK K
    refine tm 11 (.slice a2 9 z2) rfl hS ?_
    refine wpAnyH_done (by kernel_rfl) ?_ _
    have MM := Lib.hid M2
    clear hS
    go_wp2_with fail
    (try simp only [Nat.reduceAdd])
    go_loopw [4, 5] (fun v4 v5 wr => ∃ (j p : Nat) (a5 : Option Addr) (c5 : Nat), v4 = .slice a5 p c5 ∧ v5 = .int .i64 j ∧ j ≤ m.vs.n ∧ p ≤ 9 + 1853 * j ∧ Hid (GR w2 (.slice (some ⟨g0, 0, none⟩) 4 4) wr a5 p c5 ([(7 : Int), m.f, m.t, m.e] ++ be m.vw 4 ++ [(m.vs.n : Int)] ++ (c.vs.take j).flatMap fun x => voteY x.1 x.2)))  (fun _ v5 _ => m.vs.n - (intOf v5).toNat)
    case atStart => exact ⟨0, 9, _, _, rfl, rfl, by omega, by omega, Lib.hid (by simpa using MM.out)⟩
    case round =>
      obtain ⟨j, p, a5, c5, rfl, rfl, hj, hpb, I⟩ := hrel
      have q22 : wr.cell? ⟨w.heap.size, 22, none⟩ = some (.slice m.vs.a m.vs.n m.vs.c) := (mg_cell (BX.out _ _ _ _ _ I.out) 22).trans rfl
      have hj4 : j ≤ 4 := by omega
      by_cases hjm : j < m.vs.n
      · have hjm' : (j : Int) < m.vs.n := by omega
        obtain ⟨x, hx⟩ : ∃ x, c.vs[j]? = some x := ⟨_, List.getElem?_eq_getElem (by rw [← HVN.out]; exact hjm)⟩
        obtain ⟨b, o, ha, hc⟩ := (HM.out.vs.1.below (BEL.out _ _ _ _ _ I.out)).cells (by rw [← HVN.out]; omega)
        have HC := Lib.hid hc
        have x0 : wr.cell? ⟨b, o + j * 7, none⟩ = some (.int .u8 x.1.f) := HC.out j x hx 0 _ rfl
        have x1 : wr.cell? ⟨b, o + j * 7 + 1, none⟩ = some (.int .u8 x.1.e) := HC.out j x hx 1 _ rfl
        have x2 : wr.cell? ⟨b, o + j * 7 + 2, none⟩ = some (.int .u32 x.1.vw) := HC.out j x hx 2 _ rfl
        have x3 : wr.cell? ⟨b, o + j * 7 + 3, none⟩ = some (.int .u32 x.1.lo) := HC.out j x hx 3 _ rfl
        have x4 : wr.cell? ⟨b, o + j * 7 + 4, none⟩ = some (.slice x.1.ms.a x.1.ms.n x.1.ms.c) := HC.out j x hx 4 _ rfl
        have x5 : wr.cell? ⟨b, o + j * 7 + 5, none⟩ = some (.slice x.1.p.a x.1.p.n x.1.p.c) := HC.out j x hx 5 _ rfl
        have x6 : wr.cell? ⟨b, o + j * 7 + 6, none⟩ = some (.slice x.1.q.a x.1.q.n x.1.q.c) := HC.out j x hx 6 _ rfl
        have hxm := List.mem_of_getElem? hx
        have RC := refVote_any I.out.own x.1 x.2 (fun wx a n' c' l' g => (HM.out.vs.2 x hxm).below (BEL.out _ _ _ _ _ (I.out.trans g))) (HG.out.2.2.2.2.2.1 x hxm) (HV4.out.2 x hxm) (by omega)
        simp only [Vt.cells] at RC
        have RC := Lib.hid RC
        have HLV := Lib.hid (voteY_len (v := x.1) (HV4.out.2 x hxm))
        have HX := Lib.hid hx
        rw [ha] at q22
        clear hc ha hx hxm
        go_wp2_with fail
        refine RC.out.mono ?_
        rintro e v5 ⟨z, a6, c6, rfl, R6, hz⟩
        have M6 := Lib.hid (I.out.trans R6)
        have hzb : z ≤ 9 + 1853 * (j + 1) := by have := HLV.out; omega
        clear R6 RC hz x0 x1 x2 x3 x4 x5 x6 q22
        go_wp2_with fail
        refine ⟨⟨j + 1, z, a6, c6, rfl, by go_num, by omega, hzb, Lib.hid ?_⟩, by simp [intOf]; omega⟩
        rw [take_next HX.out]
        have q := M6.out
        rw [List.append_assoc] at q
        exact q
      · obtain rfl : j = m.vs.n := by omega
        have MN := Lib.hid I.out
        rw [show List.take m.vs.n c.vs = c.vs from List.take_of_length_le (by rw [← HVN.out]; exact Nat.le_refl _)] at MN
        have hlp : p = ([(7 : Int), m.f, m.t, m.e] ++ be m.vw 4 ++ [(m.vs.n : Int)] ++ c.vs.flatMap fun x => voteY x.1 x.2).length := by
          have q := MN.out.own.1
          simp only [vals, List.length_map, Nat.mul_one] at q
          exact q.symm
        have HLP := Lib.hid hlp
        have hpb2 : p ≤ 8000 := by omega
        clear I hlp
        go_wp2_with fail
        have hE : encM m c = [(7 : Int), m.f, m.t, m.e] ++ be m.vw 4 ++ [(m.vs.n : Int)] ++ (c.vs.flatMap fun x => voteY x.1 x.2) := by
          unfold encM encUp
          rw [HK.out]
          simp [partsOf, partY, wordB, be_4, votesY, HVN.out]
        have q := MN.out
        obtain ⟨qn, qb⟩ := q.new (H := w.heap.size) (w := w) HLP.out (by have := HG0E.out; have := HB1.out.1.size; have := HSZ.out; omega) (by have := HS2.out; have := HB1.out.1.size; have := HSZ.out; omega) ((HBL.out.trans (HB1.out.1.mono HBL.out.size)).trans (H2.out.1.mono (by have := HG0E.out; have := HB1.out.1.size; have := HSZ.out; omega)))
        rw [hE]
        refine bodyPost_ret (v := .tuple #[.slice _ p _, .int .i64 0]) (by simp [results, Tryz.results9, go_sem]; exact ⟨rfl, rfl⟩) rfl ⟨_, _, by rw [show ([(7 : Int), m.f, m.t, m.e] ++ be m.vw 4 ++ [(m.vs.n : Int)] ++ (c.vs.flatMap fun x => voteY x.1 x.2)).length = p from HLP.out.symm], qn, qb⟩

set_option maxHeartbeats 8000000 in
theorem refEnc_k8 (w : World) (m : Mg) (c : Mc) (hm : MgAt w m c) (hok : ∀ x ∈ c.vs, (∀ y ∈ x.2.p, 0 ≤ y.s ∧ y.rq.ok) ∧ ∀ y ∈ x.2.q, 0 ≤ y.s ∧ y.rq.ok) (hvo : (∀ y ∈ c.vt.p, 0 ≤ y.s ∧ y.rq.ok) ∧ ∀ y ∈ c.vt.q, 0 ≤ y.s ∧ y.rq.ok)
    (hf : 0 ≤ m.f ∧ m.f ≤ 255) (ht : 0 ≤ m.t ∧ m.t ≤ 255) (hg : ((0 ≤ m.vw ∧ m.vw ≤ 4294967295) ∧ (0 ≤ m.sq ∧ m.sq ≤ 4294967295) ∧ (0 ≤ m.rs ∧ m.rs ≤ 4294967295) ∧ m.rq.ok ∧ VtR m.vt c.vt ∧ (∀ x ∈ c.vs, VtR x.1 x.2) ∧ (∀ x ∈ c.sm, 0 ≤ x ∧ x ≤ 18446744073709551615))) (hk : m.k = 8) (hi : isM m c = true) :
    Calls Tryz.prog 9 #[.agg m.cells.toArray] w fun e w' => ∃ ao z, e = .returned (.tuple #[.slice ao (encM m c).length z, .int .i64 0]) ∧ New w.heap.size w' ao z (encM m c) ∧ Below w.heap.size w w' := by
  obtain ⟨W, hW⟩ : ∃ W, W = w.alloc (.cells m.cells.toArray 37) := ⟨_, rfl⟩
  have hbx := bx1 hW
  have hbl := bl1 hW
  have hs : W.heap.size = w.heap.size + 1 := by rw [hW]; simp
  have IS := refIs_any W m c (hm.below hbl) hok hvo hf ht
  rw [hi] at IS
  have IS := Lib.hid IS
  have HM := Lib.hid hm
  have HI := Lib.hid hi
  have HG := Lib.hid hg
  have HK := Lib.hid hk
  have HW := Lib.hid hW
  have HBX := Lib.hid hbx
  have HBL := Lib.hid hbl
  have HSZ := Lib.hid hs
  have hwvw : IntKind.u64.wrap m.vw = m.vw := by rw [IntKind.wrap_u64]; omega
  have hwsq : IntKind.u64.wrap m.sq = m.sq := by rw [IntKind.wrap_u64]; omega
  have hwrs : IntKind.u64.wrap m.rs = m.rs := by rw [IntKind.wrap_u64]; omega
  clear hm hok hvo hf ht hg hk hi hW hbx hbl hs
  obtain ⟨A, hA⟩ : ∃ A, A = m.cells.toArray := ⟨_, rfl⟩
  rw [← hA] at IS HW ⊢
  have HA := Lib.hid hA
  clear hA
  go_enter Tryz.func9, Tryz.ntmps9
  go_upto_region 1 with fail
  rw [← HW.out]
  refine wp_region_lit ?_
  refine wpList_load_row rfl 37 (.tmp 1) rfl w.heap.size rfl 37 A (0, 0) _ (by rw [HA.out]; exact HBX.out) Tryz.underlying37 rfl (by rw [HA.out]; exact size37) ?_
  dsimp only
  go_wp2_with fail
  refine IS.out.mono ?_
  rintro e w1 ⟨rfl, b1⟩
  have hb1 : w1.heap[w.heap.size]? = some (.cells m.cells.toArray 37 (0, 0)) := by rw [b1.block _ (by have := HSZ.out; omega)]; exact HBX.out
  have k0 : w1.cell? ⟨w.heap.size, 0, none⟩ = some (.int .u8 8) := by rw [mg_cell hb1 0, ← HK.out]; rfl
  have k1 : w1.cell? ⟨w.heap.size, 1, none⟩ = some (.int .u8 m.f) := by rw [mg_cell hb1 1]; rfl
  have k2 : w1.cell? ⟨w.heap.size, 2, none⟩ = some (.int .u8 m.t) := by rw [mg_cell hb1 2]; rfl
  have k3 : w1.cell? ⟨w.heap.size, 3, none⟩ = some (.int .u8 m.e) := by rw [mg_cell hb1 3]; rfl
  have HB1 := Lib.hid (And.intro b1 hb1)
  have B2 : Below w1.heap.size w1 (w1.alloc (.cells #[.int .u8 8, .int .u8 m.f, .int .u8 m.t, .int .u8 m.e] 5)) := (Below.refl _ _).alloc (Nat.le_refl _) _
  have O2 : (w1.alloc (.cells #[.int .u8 8, .int .u8 m.f, .int .u8 m.t, .int .u8 m.e] 5)).ownsRow 0 5 1 (.slice (some ⟨w1.heap.size, 0, none⟩) 4 4) 4 (vals [(8 : Int), m.f, m.t, m.e]) := own_lit w1 [(8 : Int), m.f, m.t, m.e] 4 rfl (by decide)
  have H2 := Lib.hid (And.intro B2 O2)
  clear b1 hb1 B2 O2 IS
  go_upto_region 4 with fail
  obtain ⟨w2, hw2⟩ : ∃ w2, w2 = w1.alloc (.cells #[.int .u8 8, .int .u8 m.f, .int .u8 m.t, .int .u8 m.e] 5) := ⟨_, rfl⟩
  rw [← hw2] at H2 ⊢
  have hs2 : w2.heap.size = w1.heap.size + 1 := by rw [hw2]; simp
  clear k0 k1 k2 k3 hw2
  have G0 := GR.start H2.out.2
  have BX := Lib.hid (fun wx a n' c' l' (g : GR w2 (.slice (some ⟨w1.heap.size, 0, none⟩) 4 4) wx a n' c' l') => show wx.heap[w.heap.size]? = some (.cells m.cells.toArray 37 (0, 0)) by
    have h1 := HB1.out.1.size
    have h2 := HSZ.out
    rw [g.block (by omega) (by simp [Value.ownBlock]; omega), H2.out.1.block _ (by omega)]
    exact HB1.out.2)
  have k0 : w2.cell? ⟨w.heap.size, 0, none⟩ = some (.int .u8 8) := by rw [mg_cell (BX.out _ _ _ _ _ G0) 0, ← HK.out]; rfl
  have HS2 := Lib.hid hs2
  have HG0 := Lib.hid G0
  clear hs2
  obtain ⟨g0, hg0⟩ : ∃ g0, g0 = w1.heap.size := ⟨_, rfl⟩
  rw [← hg0] at G0 BX HG0 H2 ⊢
  have HG0E := Lib.hid hg0
  clear hg0
  go_upto_region 23 with fail
  have q12 : w2.cell? ⟨w.heap.size, 12, none⟩ = some (.int .u8 m.ct) := (mg_cell (BX.out _ _ _ _ _ G0) 12).trans rfl
  have HO := Lib.hid (HG0.out.below ((Below.refl _ _).alloc (Nat.le_refl _) (.cells #[.int .u8 m.ct] 5)))
  clear G0 k0
  go_wp2_with (at_builtin
               refine wpList_app _ rfl (.tmp 89) (.tmp 92) rfl (.slice (some ⟨g0, 0, none⟩) 4 4) 4 _ rfl HO.out.own (some ⟨w2.heap.size, 0, none⟩) 1 1 [m.ct] rfl rfl (bytes_new w2 [m.ct] 5) (by intro h; cases h) (by decide) ?_
               intro a1 z1 v1 ho hk hg
               have MM := Lib.hid (HO.out.step ho hk (hg.elim .inl (fun e => .inr ⟨_, e, Nat.le_refl _⟩)))
               clear ho hk hg)
  have hE : encM m c = [(8 : Int), m.f, m.t, m.e] ++ [m.ct] := by
    unfold encM encUp
    rw [HK.out]
    simp [partsOf, partY, wordB]
  have q := MM.out
  obtain ⟨qn, qb⟩ := q.new (H := w.heap.size) (w := w) (by simp) (by have := HG0E.out; have := HB1.out.1.size; have := HSZ.out; omega) (by have := HS2.out; have := HB1.out.1.size; have := HSZ.out; omega) ((HBL.out.trans (HB1.out.1.mono HBL.out.size)).trans (H2.out.1.mono (by have := HG0E.out; have := HB1.out.1.size; have := HSZ.out; omega)))
  rw [hE]
  refine bodyPost_ret (v := .tuple #[.slice _ 5 _, .int .i64 0]) (by simp [results, Tryz.results9, go_sem]; exact ⟨rfl, rfl⟩) rfl ⟨_, _, by rw [show ([(8 : Int), m.f, m.t, m.e] ++ [m.ct]).length = 5 by simp], qn, qb⟩
end Go.Proofs.YtbpfkeeikhhlnaaGreatDoor
