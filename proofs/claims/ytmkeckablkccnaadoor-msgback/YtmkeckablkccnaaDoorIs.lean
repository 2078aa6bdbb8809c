/- Whether it is a message. -/
import Derived.Test.YtmkeckablkccnaaDoorBare
import Derived.Test.YtmkeckablkccnaaDoorHead
namespace Go.Proofs.YtmkeckablkccnaaDoor
open Go.RowKit
set_option maxRecDepth 100000

def Mc.nil : Mc := ⟨⟨[], [], []⟩, [], [], []⟩
def Mc.step (c x : Mc) (p : Int) : Mc := if p = 7 then { x with vt := c.vt } else if p = 8 then { x with vs := c.vs } else if p = 9 then { x with sm := c.sm } else if p = 10 then { x with dt := c.dt } else x
def Mc.bare (c : Mc) (ps : List Int) : Mc := ps.foldl c.step Mc.nil

theorem MgAt.head (w : World) (m : Mg) : MgAt w m.head Mc.nil :=
  ⟨⟨Row.nil _ _ _, Row.nil _ _ _, Row.nil _ _ _⟩, ⟨Row.nil _ _ _, fun x hx => by cases hx⟩, Row.nil _ _ _, ⟨rfl, (fun i hi => by simp [Mc.nil] at hi), fun _ => rfl, Nat.le_refl _, by simp [Mc.nil], fun x hx => by simp [Mc.nil] at hx⟩⟩

theorem MgAt.step {w : World} {m x : Mg} {c d : Mc} (h : MgAt w m c) (hx : MgAt w x d) (p : Int) (h0 : 0 ≤ p) (h1 : p ≤ 10) : MgAt w (m.step x p) (c.step d p) := by
  have hcase : p = 0 ∨ p = 1 ∨ p = 2 ∨ p = 3 ∨ p = 4 ∨ p = 5 ∨ p = 6 ∨ p = 7 ∨ p = 8 ∨ p = 9 ∨ p = 10 := by omega
  obtain ⟨a1, a2, a3, a4⟩ := h
  obtain ⟨b1, b2, b3, b4⟩ := hx
  rcases hcase with rfl | rfl | rfl | rfl | rfl | rfl | rfl | rfl | rfl | rfl | rfl
  all_goals first | exact ⟨b1, b2, b3, b4⟩ | exact ⟨a1, b2, b3, b4⟩ | exact ⟨b1, a2, b3, b4⟩ | exact ⟨b1, b2, a3, b4⟩ | exact ⟨b1, b2, b3, a4⟩

theorem MgAt.bare {w : World} {m : Mg} {c : Mc} (h : MgAt w m c) : ∀ (ps : List Int), (∀ p ∈ ps, 0 ≤ p ∧ p ≤ 10) → MgAt w (m.bare ps) (c.bare ps) := by
  have key : ∀ (ps : List Int) (x : Mg) (d : Mc), MgAt w x d → (∀ p ∈ ps, 0 ≤ p ∧ p ≤ 10) → MgAt w (ps.foldl m.step x) (ps.foldl c.step d) := by
    intro ps
    induction ps with
    | nil => intro x d hx _; exact hx
    | cons p r ih => intro x d hx hp; exact ih _ _ (h.step hx p (hp p (by simp)).1 (hp p (by simp)).2) (fun q hq => hp q (by simp [hq]))
  intro ps hp
  exact key ps _ _ (MgAt.head w m) hp

def isB (m : Mg) (c : Mc) (vb vsb : Bool) : Bool := !decide (partsOf m.k = []) && (headB m && (sameM m c (m.bare (partsOf m.k)) (c.bare (partsOf m.k)) && (partsOf m.k).all (fitB m vb vsb)))

theorem partsOf_len (k : Int) : (partsOf k).length ≤ 3 := by
  by_cases h1 : k = 1
  · subst h1; decide
  by_cases h2 : k = 2
  · subst h2; decide
  by_cases h3 : k = 3
  · subst h3; decide
  by_cases h4 : k = 4
  · subst h4; decide
  by_cases h5 : k = 5
  · subst h5; decide
  by_cases h6 : k = 6
  · subst h6; decide
  by_cases h7 : k = 7
  · subst h7; decide
  by_cases h8 : k = 8
  · subst h8; decide
  by_cases h9 : k = 9
  · subst h9; decide
  by_cases h10 : k = 10
  · subst h10; decide
  by_cases h11 : k = 11
  · subst h11; decide
  by_cases h12 : k = 12
  · subst h12; decide
  by_cases h13 : k = 13
  · subst h13; decide
  by_cases h14 : k = 14
  · subst h14; decide
  · simp [partsOf, h1, h2, h3, h4, h5, h6, h7, h8, h9, h10, h11, h12, h13, h14]

set_option maxHeartbeats 8000000 in
theorem is_any (w : World) (m : Mg) (c : Mc) (hm : MgAt w m c) (vb vsb : Bool) (hv : 7 ∈ partsOf m.k → ∀ w1, Below w.heap.size w w1 → Calls Tryd.prog 86 #[.agg m.vt.cells.toArray] w1 fun e w2 => e = .returned (.bool vb) ∧ Below w1.heap.size w1 w2) (hvs : 8 ∈ partsOf m.k → ∀ w1, Below w.heap.size w w1 → Calls Tryd.prog 87 #[.slice m.vs.a m.vs.n m.vs.c, .int .u32 m.vw] w1 fun e w2 => e = .returned (.bool vsb) ∧ Below w1.heap.size w1 w2) :
    Calls Tryd.prog 13 #[.agg m.cells.toArray] w fun e w' => e = .returned (.bool (isB m c vb vsb)) ∧ Below w.heap.size w w' := by
  obtain ⟨b, hb⟩ : ∃ b, b = isB m c vb vsb := ⟨_, rfl⟩
  rw [← hb]
  unfold isB at hb
  have hps := partsOf_le m.k
  have hpl := partsOf_len m.k
  have CP := Lib.hid (parts_any m.k)
  have CH := Lib.hid (fun w' => isHead_any w' m)
  have CB := Lib.hid (fun w' ao cap h1 => bare_any w' m ao (partsOf m.k) cap h1 (by omega) hps)
  have CS := Lib.hid (fun w' (h : Below w.heap.size w w') => same_any w' m (m.bare (partsOf m.k)) _ _ (hm.below h) ((hm.below h).bare (partsOf m.k) hps))
  have CF := Lib.hid (fun w' (h : Below w.heap.size w w') p (hp : p ∈ partsOf m.k) => fits_any w' m vb vsb p (hps p hp).1 (hps p hp).2 (fun e w1 h1 => hv (e ▸ hp) w1 (Below.up h h1)) (fun e w1 h1 => hvs (e ▸ hp) w1 (Below.up h h1)))
  generalize hPS : partsOf m.k = ps at *
  generalize headB m = hd at CH hb
  generalize sameM m c (m.bare ps) (c.bare ps) = sb at CS hb
  generalize hbr : m.bare ps = br at CB CS
  have HB := Lib.hid hb
  have HPL := Lib.hid hpl
  obtain ⟨W, hW⟩ : ∃ W, W = w.alloc (.cells m.cells.toArray 37) := ⟨_, rfl⟩
  have hbx : W.heap[w.heap.size]? = some (.cells m.cells.toArray 37 (0, 0)) := by rw [hW]; exact heap_alloc_new _ _
  have hbl : Below w.heap.size w W := by rw [hW]; exact (Below.refl _ _).alloc (Nat.le_refl _) _
  have q0 : W.cell? ⟨w.heap.size, 0, none⟩ = some (.int .u8 m.k) := cell_box hbx 0
  have HBX := Lib.hid hbx
  have HBL := Lib.hid hbl
  have HW := Lib.hid hW
  clear hW hbx hbl hb hv hvs hps hm hbr hPS
  simp only [Mg.cells] at HW ⊢
  go_enter Tryd.func13, Tryd.ntmps13
  go_upto_region 1 with fail
  rw [← HW.out]
  have eA : (#[.int .u8 m.k, .int .u8 m.f, .int .u8 m.t, .int .u8 m.e, .int .u32 m.vw, .int .u32 m.sq, .int .u8 m.rq.c, .int .u32 m.rq.t, .int .u8 m.rq.k, .int .u8 m.rq.y, .int .u16 m.rq.v, .int .u64 m.ro, .int .u8 m.ct, .int .u8 m.pg, .int .u32 m.rs, .int .u8 m.vt.f, .int .u8 m.vt.e, .int .u32 m.vt.vw, .int .u32 m.vt.lo, .slice m.vt.ms.a m.vt.ms.n m.vt.ms.c, .slice m.vt.p.a m.vt.p.n m.vt.p.c, .slice m.vt.q.a m.vt.q.n m.vt.q.c, .slice m.vs.a m.vs.n m.vs.c, .slice m.sm.a m.sm.n m.sm.c, .slice m.dt.a m.dt.n m.dt.c] : Array Value) = m.cells.toArray := rfl
  rw [eA]
  clear eA HW
  have hsz : m.cells.toArray.size = 25 := rfl
  generalize hA : m.cells.toArray = A at *
  generalize hBA : br.cells.toArray = BA at CB CS
  have HSZ := Lib.hid hsz
  clear hA hsz hBA
  generalize hln : ps.length = n at *
  have HLN := Lib.hid hln
  clear hln
  go_wp2_with fail
  refine Calls.mono (CP.out _) ?_
  rintro e w1 ⟨ao, rfl, hby, hno, hb1⟩
  have B1 := Lib.hid (HBL.out.trans (hb1.mono HBL.out.size))
  have HBY := Lib.hid hby
  have HNO := Lib.hid hno
  have X1 := Lib.hid ((hb1.block w.heap.size (lt_of_block HBX.out)).trans HBX.out)
  clear hb1 hby hno q0 CP
  go_wp2_with fail
  have hS0 := Below.refl w1.heap.size w1
  generalize hg : w.heap.size = g at *
  have XL := Lib.hid (fun w' (h : Below w1.heap.size w1 w') => (h.block g (lt_of_block X1.out)).trans X1.out)
  have LD := Lib.hid (fun w' h => by
    have := run_loadVar_row (P := Tryd.prog) w' g 37 37 A (0, 0) _ (XL.out w' h) Tryd.underlying37 rfl (by rw [HSZ.out]; exact size37)
    show (Instr.loadAt 37 (.pointer (some ⟨g, 0, none⟩))).run Tryd.prog w' = .ok (.agg A) w'
    simp only [Instr.loadAt, Instr.sureAddr, Sem.run_bind, Sem.run_pure, Result.andThen_ok, this])
  refine wp_region_held_drew (S := fun w' => Below w1.heap.size w1 w') (by kernel_rfl) hS0.drew (fun hS => ?_)
  by_cases hn0 : n = 0
  · have hnI : (n : Int) = 0 := by omega
    refine takeA (i := 0) (v := .slice ao n n) ({ tmps := #[.agg A, .pointer (some ⟨g, 0, none⟩), .bool false, .slice ao n n, undef, undef, .pointer (some ⟨g, 0, none⟩), .int .u8 m.k, .slice ao n n, .slice ao n n, undef, undef, undef, undef, undef, undef, undef, undef, undef, undef, undef, undef, undef, undef, undef, undef, undef, undef, undef, undef, undef, undef, undef, undef, undef, undef], defers := [] }) rfl (by kernel_rfl) (by kernel_rfl) (by kernel_rfl) (fun _ _ _ h => h) (.inl ⟨rfl, fun _ _ => rfl⟩) hS rfl ?_
    refine takeA (i := 1) (v := .int .i64 (n : Int)) ({ tmps := #[.agg A, .pointer (some ⟨g, 0, none⟩), .bool false, .slice ao n n, undef, undef, .pointer (some ⟨g, 0, none⟩), .int .u8 m.k, .slice ao n n, .slice ao n n, .int .i64 (n : Int), undef, undef, undef, undef, undef, undef, undef, undef, undef, undef, undef, undef, undef, undef, undef, undef, undef, undef, undef, undef, undef, undef, undef, undef, undef], defers := [] }) rfl (by kernel_rfl) (by kernel_rfl) (by kernel_rfl) (fun _ _ _ h => h) (.inl ⟨rfl, fun w' _ => by go_simp⟩) hS rfl ?_
    refine takeA (i := 2) (v := .bool true) ({ tmps := #[.agg A, .pointer (some ⟨g, 0, none⟩), .bool false, .slice ao n n, undef, undef, .pointer (some ⟨g, 0, none⟩), .int .u8 m.k, .slice ao n n, .slice ao n n, .int .i64 (n : Int), .bool true, undef, undef, undef, undef, undef, undef, undef, undef, undef, undef, undef, undef, undef, undef, undef, undef, undef, undef, undef, undef, undef, undef, undef, undef], defers := [] }) rfl (by kernel_rfl) (by kernel_rfl) (by kernel_rfl) (fun _ _ _ h => h) (.inl ⟨rfl, fun w' _ => by go_simp⟩) hS rfl ?_
    refine takeA (i := 3) (v := .bool true) ({ tmps := #[.agg A, .pointer (some ⟨g, 0, none⟩), .bool false, .slice ao n n, undef, undef, .pointer (some ⟨g, 0, none⟩), .int .u8 m.k, .slice ao n n, .slice ao n n, .int .i64 (n : Int), .bool true, .bool true, undef, undef, undef, undef, undef, undef, undef, undef, undef, undef, undef, undef, undef, undef, undef, undef, undef, undef, undef, undef, undef, undef, undef], defers := [] }) rfl (by kernel_rfl) (by kernel_rfl) (by kernel_rfl) (fun _ _ _ h => h) (.inl ⟨rfl, fun _ _ => rfl⟩) hS rfl ?_
    refine takeA (i := 4) (v := undef) ({ tmps := #[.agg A, .pointer (some ⟨g, 0, none⟩), .bool false, .slice ao n n, undef, undef, .pointer (some ⟨g, 0, none⟩), .int .u8 m.k, .slice ao n n, .slice ao n n, .int .i64 (n : Int), .bool true, .bool true, undef, undef, undef, undef, undef, undef, undef, undef, undef, undef, undef, undef, undef, undef, undef, undef, undef, undef, undef, undef, undef, undef, undef], defers := [] }) rfl (by kernel_rfl) (by kernel_rfl) (by kernel_rfl) (fun _ _ _ h => h) (.inr ⟨rfl, rfl⟩) hS rfl ?_
    refine takeA (i := 5) (v := undef) ({ tmps := #[.agg A, .pointer (some ⟨g, 0, none⟩), .bool false, .slice ao n n, undef, undef, .pointer (some ⟨g, 0, none⟩), .int .u8 m.k, .slice ao n n, .slice ao n n, .int .i64 (n : Int), .bool true, .bool true, undef, undef, undef, undef, undef, undef, undef, undef, undef, undef, undef, undef, undef, undef, undef, undef, undef, undef, undef, undef, undef, undef, undef], defers := [] }) rfl (by kernel_rfl) (by kernel_rfl) (by kernel_rfl) (fun _ _ _ h => h) (.inr ⟨rfl, rfl⟩) hS rfl ?_
    refine takeA (i := 6) (v := undef) ({ tmps := #[.agg A, .pointer (some ⟨g, 0, none⟩), .bool false, .slice ao n n, undef, undef, .pointer (some ⟨g, 0, none⟩), .int .u8 m.k, .slice ao n n, .slice ao n n, .int .i64 (n : Int), .bool true, .bool true, undef, undef, undef, undef, undef, undef, undef, undef, undef, undef, undef, undef, undef, undef, undef, undef, undef, undef, undef, undef, undef, undef, undef], defers := [] }) rfl (by kernel_rfl) (by kernel_rfl) (by kernel_rfl) (fun _ _ _ h => h) (.inr ⟨rfl, rfl⟩) hS rfl ?_
    refine takeA (i := 7) (v := .bool true) ({ tmps := #[.agg A, .pointer (some ⟨g, 0, none⟩), .bool false, .slice ao n n, undef, undef, .pointer (some ⟨g, 0, none⟩), .int .u8 m.k, .slice ao n n, .slice ao n n, .int .i64 (n : Int), .bool true, .bool true, undef, undef, undef, .bool true, undef, undef, undef, undef, undef, undef, undef, undef, undef, undef, undef, undef, undef, undef, undef, undef, undef, undef, undef], defers := [] }) rfl (by kernel_rfl) (by kernel_rfl) (by kernel_rfl) (fun _ _ _ h => h) (.inl ⟨rfl, fun _ _ => rfl⟩) hS rfl ?_
    refine takeA (i := 8) (v := .bool true) ({ tmps := #[.agg A, .pointer (some ⟨g, 0, none⟩), .bool false, .slice ao n n, undef, undef, .pointer (some ⟨g, 0, none⟩), .int .u8 m.k, .slice ao n n, .slice ao n n, .int .i64 (n : Int), .bool true, .bool true, undef, undef, undef, .bool true, .bool true, undef, undef, undef, undef, undef, undef, undef, undef, undef, undef, undef, undef, undef, undef, undef, undef, undef, undef], defers := [] }) rfl (by kernel_rfl) (by kernel_rfl) (by kernel_rfl) (fun _ _ _ h => h) (.inl ⟨rfl, fun _ _ => rfl⟩) hS rfl ?_
    refine takeA (i := 9) (v := undef) ({ tmps := #[.agg A, .pointer (some ⟨g, 0, none⟩), .bool false, .slice ao n n, undef, undef, .pointer (some ⟨g, 0, none⟩), .int .u8 m.k, .slice ao n n, .slice ao n n, .int .i64 (n : Int), .bool true, .bool true, undef, undef, undef, .bool true, .bool true, undef, undef, undef, undef, undef, undef, undef, undef, undef, undef, undef, undef, undef, undef, undef, undef, undef, undef], defers := [] }) rfl (by kernel_rfl) (by kernel_rfl) (by kernel_rfl) (fun _ _ _ h => h) (.inr ⟨rfl, rfl⟩) hS rfl ?_
    refine takeA (i := 10) (v := undef) ({ tmps := #[.agg A, .pointer (some ⟨g, 0, none⟩), .bool false, .slice ao n n, undef, undef, .pointer (some ⟨g, 0, none⟩), .int .u8 m.k, .slice ao n n, .slice ao n n, .int .i64 (n : Int), .bool true, .bool true, undef, undef, undef, .bool true, .bool true, undef, undef, undef, undef, undef, undef, undef, undef, undef, undef, undef, undef, undef, undef, undef, undef, undef, undef], defers := [] }) rfl (by kernel_rfl) (by kernel_rfl) (by kernel_rfl) (fun _ _ _ h => h) (.inr ⟨rfl, rfl⟩) hS rfl ?_
    refine takeA (i := 11) (v := undef) ({ tmps := #[.agg A, .pointer (some ⟨g, 0, none⟩), .bool false, .slice ao n n, undef, undef, .pointer (some ⟨g, 0, none⟩), .int .u8 m.k, .slice ao n n, .slice ao n n, .int .i64 (n : Int), .bool true, .bool true, undef, undef, undef, .bool true, .bool true, undef, undef, undef, undef, undef, undef, undef, undef, undef, undef, undef, undef, undef, undef, undef, undef, undef, undef], defers := [] }) rfl (by kernel_rfl) (by kernel_rfl) (by kernel_rfl) (fun _ _ _ h => h) (.inr ⟨rfl, rfl⟩) hS rfl ?_
    refine takeA (i := 12) (v := undef) ({ tmps := #[.agg A, .pointer (some ⟨g, 0, none⟩), .bool false, .slice ao n n, undef, undef, .pointer (some ⟨g, 0, none⟩), .int .u8 m.k, .slice ao n n, .slice ao n n, .int .i64 (n : Int), .bool true, .bool true, undef, undef, undef, .bool true, .bool true, undef, undef, undef, undef, undef, undef, undef, undef, undef, undef, undef, undef, undef, undef, undef, undef, undef, undef], defers := [] }) rfl (by kernel_rfl) (by kernel_rfl) (by kernel_rfl) (fun _ _ _ h => h) (.inr ⟨rfl, rfl⟩) hS rfl ?_
    refine takeA (i := 13) (v := undef) ({ tmps := #[.agg A, .pointer (some ⟨g, 0, none⟩), .bool false, .slice ao n n, undef, undef, .pointer (some ⟨g, 0, none⟩), .int .u8 m.k, .slice ao n n, .slice ao n n, .int .i64 (n : Int), .bool true, .bool true, undef, undef, undef, .bool true, .bool true, undef, undef, undef, undef, undef, undef, undef, undef, undef, undef, undef, undef, undef, undef, undef, undef, undef, undef], defers := [] }) rfl (by kernel_rfl) (by kernel_rfl) (by kernel_rfl) (fun _ _ _ h => h) (.inr ⟨rfl, rfl⟩) hS rfl ?_
    refine takeA (i := 14) (v := undef) ({ tmps := #[.agg A, .pointer (some ⟨g, 0, none⟩), .bool false, .slice ao n n, undef, undef, .pointer (some ⟨g, 0, none⟩), .int .u8 m.k, .slice ao n n, .slice ao n n, .int .i64 (n : Int), .bool true, .bool true, undef, undef, undef, .bool true, .bool true, undef, undef, undef, undef, undef, undef, undef, undef, undef, undef, undef, undef, undef, undef, undef, undef, undef, undef], defers := [] }) rfl (by kernel_rfl) (by kernel_rfl) (by kernel_rfl) (fun _ _ _ h => h) (.inr ⟨rfl, rfl⟩) hS rfl ?_
    refine takeA (i := 15) (v := .bool true) ({ tmps := #[.agg A, .pointer (some ⟨g, 0, none⟩), .bool false, .slice ao n n, undef, undef, .pointer (some ⟨g, 0, none⟩), .int .u8 m.k, .slice ao n n, .slice ao n n, .int .i64 (n : Int), .bool true, .bool true, undef, undef, undef, .bool true, .bool true, undef, undef, undef, undef, undef, undef, .bool true, undef, undef, undef, undef, undef, undef, undef, undef, undef, undef, undef], defers := [] }) rfl (by kernel_rfl) (by kernel_rfl) (by kernel_rfl) (fun _ _ _ h => h) (.inl ⟨rfl, fun _ _ => rfl⟩) hS rfl ?_
    refine wpAnyH_done (by kernel_rfl) ?_ _
    go_wp2_with fail
    go_ret
    refine ⟨?_, by rw [hg]; exact B1.out.trans (hS.mono (lt_of_block X1.out |> Nat.le_of_lt))⟩
    have he : ps = [] := List.eq_nil_of_length_eq_zero (by rw [HLN.out]; exact hn0)
    rw [HB.out]; simp [he]
  · have hnI : ¬ (n : Int) = 0 := by omega
    have HN0 := Lib.hid hn0
    have hne : decide (ps = []) = false := by simp; intro e; apply hn0; rw [← HLN.out, e]; rfl
    have HNE := Lib.hid hne
    clear hn0 hne
    refine takeA (i := 0) (v := .slice ao n n) ({ tmps := #[.agg A, .pointer (some ⟨g, 0, none⟩), .bool false, .slice ao n n, undef, undef, .pointer (some ⟨g, 0, none⟩), .int .u8 m.k, .slice ao n n, .slice ao n n, undef, undef, undef, undef, undef, undef, undef, undef, undef, undef, undef, undef, undef, undef, undef, undef, undef, undef, undef, undef, undef, undef, undef, undef, undef, undef], defers := [] }) rfl (by kernel_rfl) (by kernel_rfl) (by kernel_rfl) (fun _ _ _ h => h) (.inl ⟨rfl, fun _ _ => rfl⟩) hS rfl ?_
    refine takeA (i := 1) (v := .int .i64 (n : Int)) ({ tmps := #[.agg A, .pointer (some ⟨g, 0, none⟩), .bool false, .slice ao n n, undef, undef, .pointer (some ⟨g, 0, none⟩), .int .u8 m.k, .slice ao n n, .slice ao n n, .int .i64 (n : Int), undef, undef, undef, undef, undef, undef, undef, undef, undef, undef, undef, undef, undef, undef, undef, undef, undef, undef, undef, undef, undef, undef, undef, undef, undef], defers := [] }) rfl (by kernel_rfl) (by kernel_rfl) (by kernel_rfl) (fun _ _ _ h => h) (.inl ⟨rfl, fun w' _ => by go_simp⟩) hS rfl ?_
    refine takeA (i := 2) (v := .bool false) ({ tmps := #[.agg A, .pointer (some ⟨g, 0, none⟩), .bool false, .slice ao n n, undef, undef, .pointer (some ⟨g, 0, none⟩), .int .u8 m.k, .slice ao n n, .slice ao n n, .int .i64 (n : Int), .bool false, undef, undef, undef, undef, undef, undef, undef, undef, undef, undef, undef, undef, undef, undef, undef, undef, undef, undef, undef, undef, undef, undef, undef, undef], defers := [] }) rfl (by kernel_rfl) (by kernel_rfl) (by kernel_rfl) (fun _ _ _ h => h) (.inl ⟨rfl, fun w' _ => by go_simp; omega⟩) hS rfl ?_
    refine takeA (i := 3) (v := .bool false) ({ tmps := #[.agg A, .pointer (some ⟨g, 0, none⟩), .bool false, .slice ao n n, undef, undef, .pointer (some ⟨g, 0, none⟩), .int .u8 m.k, .slice ao n n, .slice ao n n, .int .i64 (n : Int), .bool false, .bool false, undef, undef, undef, undef, undef, undef, undef, undef, undef, undef, undef, undef, undef, undef, undef, undef, undef, undef, undef, undef, undef, undef, undef], defers := [] }) rfl (by kernel_rfl) (by kernel_rfl) (by kernel_rfl) (fun _ _ _ h => h) (.inl ⟨rfl, fun _ _ => rfl⟩) hS rfl ?_
    refine takeA (i := 4) (v := .agg A) ({ tmps := #[.agg A, .pointer (some ⟨g, 0, none⟩), .bool false, .slice ao n n, undef, undef, .pointer (some ⟨g, 0, none⟩), .int .u8 m.k, .slice ao n n, .slice ao n n, .int .i64 (n : Int), .bool false, .bool false, .agg A, undef, undef, undef, undef, undef, undef, undef, undef, undef, undef, undef, undef, undef, undef, undef, undef, undef, undef, undef, undef, undef, undef], defers := [] }) rfl (by kernel_rfl) (by kernel_rfl) (by kernel_rfl) (fun _ _ _ h => h) (yi_load 37 (.tmp 1) _ rfl rfl rfl LD.out) hS rfl ?_
    refine wpAnyH_ready (rs := [5]) (by kernel_rfl) (by simp) ?_
    refine AllReadyH.cons rfl (fun K hK => ?_) AllReadyH.nil
    rw [if_pos (by rfl)]
    go_simp
    refine Calls.mono (CH.out _) ?_
    rintro e w2 ⟨rfl, hb⟩
    refine hK.out ({ tmps := #[.agg A, .pointer (some ⟨g, 0, none⟩), .bool false, .slice ao n n, undef, undef, .pointer (some ⟨g, 0, none⟩), .int .u8 m.k, .slice ao n n, .slice ao n n, .int .i64 (n : Int), .bool false, .bool false, .agg A, .bool hd, undef, undef, undef, undef, undef, undef, undef, undef, undef, undef, undef, undef, undef, undef, undef, undef, undef, undef, undef, undef, undef], defers := [] }) w2 (Below.up hS hb) (fun hS => ?_)
    clear hK K
    cases hd
    · skip
      refine takeA (i := 6) (v := .bool true) ({ tmps := #[.agg A, .pointer (some ⟨g, 0, none⟩), .bool false, .slice ao n n, undef, undef, .pointer (some ⟨g, 0, none⟩), .int .u8 m.k, .slice ao n n, .slice ao n n, .int .i64 (n : Int), .bool false, .bool false, .agg A, .bool false, .bool true, undef, undef, undef, undef, undef, undef, undef, undef, undef, undef, undef, undef, undef, undef, undef, undef, undef, undef, undef, undef], defers := [] }) rfl (by kernel_rfl) (by kernel_rfl) (by kernel_rfl) (fun _ _ _ h => h) (.inl ⟨rfl, fun w' _ => by go_simp⟩) hS rfl ?_
      refine takeA (i := 7) (v := .bool true) ({ tmps := #[.agg A, .pointer (some ⟨g, 0, none⟩), .bool false, .slice ao n n, undef, undef, .pointer (some ⟨g, 0, none⟩), .int .u8 m.k, .slice ao n n, .slice ao n n, .int .i64 (n : Int), .bool false, .bool false, .agg A, .bool false, .bool true, .bool true, undef, undef, undef, undef, undef, undef, undef, undef, undef, undef, undef, undef, undef, undef, undef, undef, undef, undef, undef], defers := [] }) rfl (by kernel_rfl) (by kernel_rfl) (by kernel_rfl) (fun _ _ _ h => h) (.inl ⟨rfl, fun _ _ => rfl⟩) hS rfl ?_
      refine takeA (i := 8) (v := .bool true) ({ tmps := #[.agg A, .pointer (some ⟨g, 0, none⟩), .bool false, .slice ao n n, undef, undef, .pointer (some ⟨g, 0, none⟩), .int .u8 m.k, .slice ao n n, .slice ao n n, .int .i64 (n : Int), .bool false, .bool false, .agg A, .bool false, .bool true, .bool true, .bool true, undef, undef, undef, undef, undef, undef, undef, undef, undef, undef, undef, undef, undef, undef, undef, undef, undef, undef], defers := [] }) rfl (by kernel_rfl) (by kernel_rfl) (by kernel_rfl) (fun _ _ _ h => h) (.inl ⟨rfl, fun _ _ => rfl⟩) hS rfl ?_
      refine takeA (i := 9) (v := undef) ({ tmps := #[.agg A, .pointer (some ⟨g, 0, none⟩), .bool false, .slice ao n n, undef, undef, .pointer (some ⟨g, 0, none⟩), .int .u8 m.k, .slice ao n n, .slice ao n n, .int .i64 (n : Int), .bool false, .bool false, .agg A, .bool false, .bool true, .bool true, .bool true, undef, undef, undef, undef, undef, undef, undef, undef, undef, undef, undef, undef, undef, undef, undef, undef, undef, undef], defers := [] }) rfl (by kernel_rfl) (by kernel_rfl) (by kernel_rfl) (fun _ _ _ h => h) (.inr ⟨rfl, rfl⟩) hS rfl ?_
      refine takeA (i := 10) (v := undef) ({ tmps := #[.agg A, .pointer (some ⟨g, 0, none⟩), .bool false, .slice ao n n, undef, undef, .pointer (some ⟨g, 0, none⟩), .int .u8 m.k, .slice ao n n, .slice ao n n, .int .i64 (n : Int), .bool false, .bool false, .agg A, .bool false, .bool true, .bool true, .bool true, undef, undef, undef, undef, undef, undef, undef, undef, undef, undef, undef, undef, undef, undef, undef, undef, undef, undef], defers := [] }) rfl (by kernel_rfl) (by kernel_rfl) (by kernel_rfl) (fun _ _ _ h => h) (.inr ⟨rfl, rfl⟩) hS rfl ?_
      refine takeA (i := 11) (v := undef) ({ tmps := #[.agg A, .pointer (some ⟨g, 0, none⟩), .bool false, .slice ao n n, undef, undef, .pointer (some ⟨g, 0, none⟩), .int .u8 m.k, .slice ao n n, .slice ao n n, .int .i64 (n : Int), .bool false, .bool false, .agg A, .bool false, .bool true, .bool true, .bool true, undef, undef, undef, undef, undef, undef, undef, undef, undef, undef, undef, undef, undef, undef, undef, undef, undef, undef], defers := [] }) rfl (by kernel_rfl) (by kernel_rfl) (by kernel_rfl) (fun _ _ _ h => h) (.inr ⟨rfl, rfl⟩) hS rfl ?_
      refine takeA (i := 12) (v := undef) ({ tmps := #[.agg A, .pointer (some ⟨g, 0, none⟩), .bool false, .slice ao n n, undef, undef, .pointer (some ⟨g, 0, none⟩), .int .u8 m.k, .slice ao n n, .slice ao n n, .int .i64 (n : Int), .bool false, .bool false, .agg A, .bool false, .bool true, .bool true, .bool true, undef, undef, undef, undef, undef, undef, undef, undef, undef, undef, undef, undef, undef, undef, undef, undef, undef, undef], defers := [] }) rfl (by kernel_rfl) (by kernel_rfl) (by kernel_rfl) (fun _ _ _ h => h) (.inr ⟨rfl, rfl⟩) hS rfl ?_
      refine takeA (i := 13) (v := undef) ({ tmps := #[.agg A, .pointer (some ⟨g, 0, none⟩), .bool false, .slice ao n n, undef, undef, .pointer (some ⟨g, 0, none⟩), .int .u8 m.k, .slice ao n n, .slice ao n n, .int .i64 (n : Int), .bool false, .bool false, .agg A, .bool false, .bool true, .bool true, .bool true, undef, undef, undef, undef, undef, undef, undef, undef, undef, undef, undef, undef, undef, undef, undef, undef, undef, undef], defers := [] }) rfl (by kernel_rfl) (by kernel_rfl) (by kernel_rfl) (fun _ _ _ h => h) (.inr ⟨rfl, rfl⟩) hS rfl ?_
      refine takeA (i := 14) (v := undef) ({ tmps := #[.agg A, .pointer (some ⟨g, 0, none⟩), .bool false, .slice ao n n, undef, undef, .pointer (some ⟨g, 0, none⟩), .int .u8 m.k, .slice ao n n, .slice ao n n, .int .i64 (n : Int), .bool false, .bool false, .agg A, .bool false, .bool true, .bool true, .bool true, undef, undef, undef, undef, undef, undef, undef, undef, undef, undef, undef, undef, undef, undef, undef, undef, undef, undef], defers := [] }) rfl (by kernel_rfl) (by kernel_rfl) (by kernel_rfl) (fun _ _ _ h => h) (.inr ⟨rfl, rfl⟩) hS rfl ?_
      refine takeA (i := 15) (v := .bool true) ({ tmps := #[.agg A, .pointer (some ⟨g, 0, none⟩), .bool false, .slice ao n n, undef, undef, .pointer (some ⟨g, 0, none⟩), .int .u8 m.k, .slice ao n n, .slice ao n n, .int .i64 (n : Int), .bool false, .bool false, .agg A, .bool false, .bool true, .bool true, .bool true, undef, undef, undef, undef, undef, undef, .bool true, undef, undef, undef, undef, undef, undef, undef, undef, undef, undef, undef], defers := [] }) rfl (by kernel_rfl) (by kernel_rfl) (by kernel_rfl) (fun _ _ _ h => h) (.inl ⟨rfl, fun _ _ => rfl⟩) hS rfl ?_
      refine wpAnyH_done (by kernel_rfl) ?_ _
      go_wp2_with fail
      go_ret
      refine ⟨?_, by rw [hg]; exact B1.out.trans (hS.mono (lt_of_block X1.out |> Nat.le_of_lt))⟩
      rw [HB.out]; simp
    · skip
      refine takeA (i := 6) (v := .bool false) ({ tmps := #[.agg A, .pointer (some ⟨g, 0, none⟩), .bool false, .slice ao n n, undef, undef, .pointer (some ⟨g, 0, none⟩), .int .u8 m.k, .slice ao n n, .slice ao n n, .int .i64 (n : Int), .bool false, .bool false, .agg A, .bool true, .bool false, undef, undef, undef, undef, undef, undef, undef, undef, undef, undef, undef, undef, undef, undef, undef, undef, undef, undef, undef, undef], defers := [] }) rfl (by kernel_rfl) (by kernel_rfl) (by kernel_rfl) (fun _ _ _ h => h) (.inl ⟨rfl, fun w' _ => by go_simp⟩) hS rfl ?_
      refine takeA (i := 7) (v := .bool false) ({ tmps := #[.agg A, .pointer (some ⟨g, 0, none⟩), .bool false, .slice ao n n, undef, undef, .pointer (some ⟨g, 0, none⟩), .int .u8 m.k, .slice ao n n, .slice ao n n, .int .i64 (n : Int), .bool false, .bool false, .agg A, .bool true, .bool false, .bool false, undef, undef, undef, undef, undef, undef, undef, undef, undef, undef, undef, undef, undef, undef, undef, undef, undef, undef, undef], defers := [] }) rfl (by kernel_rfl) (by kernel_rfl) (by kernel_rfl) (fun _ _ _ h => h) (.inl ⟨rfl, fun _ _ => rfl⟩) hS rfl ?_
      refine takeA (i := 8) (v := .bool false) ({ tmps := #[.agg A, .pointer (some ⟨g, 0, none⟩), .bool false, .slice ao n n, undef, undef, .pointer (some ⟨g, 0, none⟩), .int .u8 m.k, .slice ao n n, .slice ao n n, .int .i64 (n : Int), .bool false, .bool false, .agg A, .bool true, .bool false, .bool false, .bool false, undef, undef, undef, undef, undef, undef, undef, undef, undef, undef, undef, undef, undef, undef, undef, undef, undef, undef], defers := [] }) rfl (by kernel_rfl) (by kernel_rfl) (by kernel_rfl) (fun _ _ _ h => h) (.inl ⟨rfl, fun _ _ => rfl⟩) hS rfl ?_
      refine takeA (i := 9) (v := .agg A) ({ tmps := #[.agg A, .pointer (some ⟨g, 0, none⟩), .bool false, .slice ao n n, undef, undef, .pointer (some ⟨g, 0, none⟩), .int .u8 m.k, .slice ao n n, .slice ao n n, .int .i64 (n : Int), .bool false, .bool false, .agg A, .bool true, .bool false, .bool false, .bool false, .agg A, undef, undef, undef, undef, undef, undef, undef, undef, undef, undef, undef, undef, undef, undef, undef, undef, undef], defers := [] }) rfl (by kernel_rfl) (by kernel_rfl) (by kernel_rfl) (fun _ _ _ h => h) (yi_load 37 (.tmp 1) _ rfl rfl rfl LD.out) hS rfl ?_
      refine takeA (i := 10) (v := .agg A) ({ tmps := #[.agg A, .pointer (some ⟨g, 0, none⟩), .bool false, .slice ao n n, undef, undef, .pointer (some ⟨g, 0, none⟩), .int .u8 m.k, .slice ao n n, .slice ao n n, .int .i64 (n : Int), .bool false, .bool false, .agg A, .bool true, .bool false, .bool false, .bool false, .agg A, .agg A, undef, undef, undef, undef, undef, undef, undef, undef, undef, undef, undef, undef, undef, undef, undef, undef], defers := [] }) rfl (by kernel_rfl) (by kernel_rfl) (by kernel_rfl) (fun _ _ _ h => h) (yi_load 37 (.tmp 1) _ rfl rfl rfl LD.out) hS rfl ?_
      refine takeA (i := 11) (v := .slice ao n n) ({ tmps := #[.agg A, .pointer (some ⟨g, 0, none⟩), .bool false, .slice ao n n, undef, undef, .pointer (some ⟨g, 0, none⟩), .int .u8 m.k, .slice ao n n, .slice ao n n, .int .i64 (n : Int), .bool false, .bool false, .agg A, .bool true, .bool false, .bool false, .bool false, .agg A, .agg A, .slice ao n n, undef, undef, undef, undef, undef, undef, undef, undef, undef, undef, undef, undef, undef, undef, undef], defers := [] }) rfl (by kernel_rfl) (by kernel_rfl) (by kernel_rfl) (fun _ _ _ h => h) (.inl ⟨rfl, fun _ _ => rfl⟩) hS rfl ?_
      refine wpAnyH_ready (rs := [12]) (by kernel_rfl) (by simp) ?_
      refine AllReadyH.cons rfl (fun K hK => ?_) AllReadyH.nil
      rw [if_pos (by rfl)]
      go_simp
      refine Calls.mono (CB.out _ ao n (bytes_below HBY.out hS (Nat.le_refl _))) ?_
      rintro e w3 ⟨rfl, hb⟩
      refine hK.out ({ tmps := #[.agg A, .pointer (some ⟨g, 0, none⟩), .bool false, .slice ao n n, undef, undef, .pointer (some ⟨g, 0, none⟩), .int .u8 m.k, .slice ao n n, .slice ao n n, .int .i64 (n : Int), .bool false, .bool false, .agg A, .bool true, .bool false, .bool false, .bool false, .agg A, .agg A, .slice ao n n, .agg BA, undef, undef, undef, undef, undef, undef, undef, undef, undef, undef, undef, undef, undef, undef], defers := [] }) w3 (Below.up hS hb) (fun hS => ?_)
      clear hK K
      refine wpAnyH_ready (rs := [13]) (by kernel_rfl) (by simp) ?_
      refine AllReadyH.cons rfl (fun K hK => ?_) AllReadyH.nil
      rw [if_pos (by rfl)]
      go_simp
      refine Calls.mono (CS.out _ (B1.out.trans (hS.mono (lt_of_block X1.out |> Nat.le_of_lt)))) ?_
      rintro e w4 ⟨rfl, hb⟩
      refine hK.out ({ tmps := #[.agg A, .pointer (some ⟨g, 0, none⟩), .bool false, .slice ao n n, undef, undef, .pointer (some ⟨g, 0, none⟩), .int .u8 m.k, .slice ao n n, .slice ao n n, .int .i64 (n : Int), .bool false, .bool false, .agg A, .bool true, .bool false, .bool false, .bool false, .agg A, .agg A, .slice ao n n, .agg BA, .bool sb, undef, undef, undef, undef, undef, undef, undef, undef, undef, undef, undef, undef, undef], defers := [] }) w4 (Below.up hS hb) (fun hS => ?_)
      clear hK K
      cases sb
      · skip
        refine takeA (i := 14) (v := .bool true) ({ tmps := #[.agg A, .pointer (some ⟨g, 0, none⟩), .bool false, .slice ao n n, undef, undef, .pointer (some ⟨g, 0, none⟩), .int .u8 m.k, .slice ao n n, .slice ao n n, .int .i64 (n : Int), .bool false, .bool false, .agg A, .bool true, .bool false, .bool false, .bool false, .agg A, .agg A, .slice ao n n, .agg BA, .bool false, .bool true, undef, undef, undef, undef, undef, undef, undef, undef, undef, undef, undef, undef], defers := [] }) rfl (by kernel_rfl) (by kernel_rfl) (by kernel_rfl) (fun _ _ _ h => h) (.inl ⟨rfl, fun w' _ => by go_simp⟩) hS rfl ?_
        refine takeA (i := 15) (v := .bool true) ({ tmps := #[.agg A, .pointer (some ⟨g, 0, none⟩), .bool false, .slice ao n n, undef, undef, .pointer (some ⟨g, 0, none⟩), .int .u8 m.k, .slice ao n n, .slice ao n n, .int .i64 (n : Int), .bool false, .bool false, .agg A, .bool true, .bool false, .bool false, .bool false, .agg A, .agg A, .slice ao n n, .agg BA, .bool false, .bool true, .bool true, undef, undef, undef, undef, undef, undef, undef, undef, undef, undef, undef], defers := [] }) rfl (by kernel_rfl) (by kernel_rfl) (by kernel_rfl) (fun _ _ _ h => h) (.inl ⟨rfl, fun _ _ => rfl⟩) hS rfl ?_
        refine wpAnyH_done (by kernel_rfl) ?_ _
        go_wp2_with fail
        go_ret
        refine ⟨?_, by rw [hg]; exact B1.out.trans (hS.mono (lt_of_block X1.out |> Nat.le_of_lt))⟩
        rw [HB.out]; simp
      · skip
        refine takeA (i := 14) (v := .bool false) ({ tmps := #[.agg A, .pointer (some ⟨g, 0, none⟩), .bool false, .slice ao n n, undef, undef, .pointer (some ⟨g, 0, none⟩), .int .u8 m.k, .slice ao n n, .slice ao n n, .int .i64 (n : Int), .bool false, .bool false, .agg A, .bool true, .bool false, .bool false, .bool false, .agg A, .agg A, .slice ao n n, .agg BA, .bool true, .bool false, undef, undef, undef, undef, undef, undef, undef, undef, undef, undef, undef, undef], defers := [] }) rfl (by kernel_rfl) (by kernel_rfl) (by kernel_rfl) (fun _ _ _ h => h) (.inl ⟨rfl, fun w' _ => by go_simp⟩) hS rfl ?_
        refine takeA (i := 15) (v := .bool false) ({ tmps := #[.agg A, .pointer (some ⟨g, 0, none⟩), .bool false, .slice ao n n, undef, undef, .pointer (some ⟨g, 0, none⟩), .int .u8 m.k, .slice ao n n, .slice ao n n, .int .i64 (n : Int), .bool false, .bool false, .agg A, .bool true, .bool false, .bool false, .bool false, .agg A, .agg A, .slice ao n n, .agg BA, .bool true, .bool false, .bool false, undef, undef, undef, undef, undef, undef, undef, undef, undef, undef, undef], defers := [] }) rfl (by kernel_rfl) (by kernel_rfl) (by kernel_rfl) (fun _ _ _ h => h) (.inl ⟨rfl, fun _ _ => rfl⟩) hS rfl ?_
        refine wpAnyH_done (by kernel_rfl) ?_ _
        have BW := Lib.hid hS
        clear hS hS0 hnI
        go_wp2_with fail
        go_loopw [27] (fun vi wr => ∃ j : Nat, j ≤ n ∧ vi = .int .i64 j ∧ Hid (Below w1.heap.size w1 wr) ∧ Hid ((ps.take j).all (fitB m vb vsb) = true)) (fun i _ => n - (intOf i).toNat)
        case atStart => exact ⟨0, by omega, rfl, BW, Lib.hid rfl⟩
        case round =>
          obtain ⟨j, hj, rfl, HR, HA⟩ := hrel
          by_cases hlt : j < n
          · obtain ⟨ad, rfl, hc⟩ := HBY.out j (by rw [HLN.out]; exact hlt)
            obtain ⟨p, hpd⟩ : ∃ p, p = ps.getD j 0 := ⟨_, rfl⟩
            rw [← hpd] at hc
            have hj' : ps[j]? = some p := by rw [hpd, List.getD_eq_getElem?_getD, List.getElem?_eq_getElem (by rw [HLN.out]; exact hlt)]; rfl
            have hmem : p ∈ ps := List.mem_of_getElem? hj'
            have hcc : wr.cell? (ad.add j) = some (.int .u8 p) := (HR.out.cell (cell_block hc)).trans hc
            have hs : ps.take (j + 1) = ps.take j ++ [p] := by rw [List.take_add_one, hj']; rfl
            have HS := Lib.hid hs
            have HMEM := Lib.hid hmem
            have F := Lib.hid (CF.out wr (B1.out.trans (HR.out.mono (lt_of_block X1.out |> Nat.le_of_lt))) p hmem)
            have XW := Lib.hid (XL.out wr HR.out)
            generalize hfp : fitB m vb vsb p = fp at F
            have HFP := Lib.hid hfp
            clear hpd hj' hmem hs hc hfp
            go_upto_region 7 with fail
            refine wp_region_lit ?_
            refine wpList_load_row rfl 37 (.tmp 1) rfl g rfl 37 _ (0, 0) _ XW.out Tryd.underlying37 rfl (by rw [HSZ.out]; exact size37) ?_
            go_wp2_with fail
            refine Calls.mono F.out ?_
            rintro e w5 ⟨rfl, hb5⟩
            have B5 := Lib.hid (HR.out.trans (hb5.mono HR.out.size))
            clear hb5
            cases fp
            · go_wp2_with fail
              go_ret
              refine ⟨?_, by rw [hg]; exact B1.out.trans (B5.out.mono (lt_of_block X1.out |> Nat.le_of_lt))⟩
              rw [HB.out]
              have : ps.all (fitB m vb vsb) = false := by rw [List.all_eq_false]; exact ⟨p, HMEM.out, by simp [HFP.out]⟩
              simp [this]
            · go_wp2_with fail
              go_round
              case measure => simp [intOf]; omega
              case rel => exact ⟨j + 1, by omega, by go_num, B5, Lib.hid (by rw [HS.out, List.all_append, HA.out]; simp [HFP.out])⟩
          · obtain rfl : j = n := by omega
            go_wp2_with fail
            go_ret
            refine ⟨?_, by rw [hg]; exact B1.out.trans (HR.out.mono (lt_of_block X1.out |> Nat.le_of_lt))⟩
            have hall := HA.out
            rw [List.take_of_length_le (by rw [HLN.out]; exact Nat.le_refl _)] at hall
            rw [HB.out, HNE.out, hall]; rfl

end Go.Proofs.YtmkeckablkccnaaDoor
