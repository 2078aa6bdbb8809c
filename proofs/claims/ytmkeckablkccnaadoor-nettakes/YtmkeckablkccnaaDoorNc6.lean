/- net.add: a message is laid into the bag. -/
import Derived.Test.YtmkeckablkccnaaDoorNc5
namespace Go.Proofs.YtmkeckablkccnaaDoor
open Go.RowKit
set_option maxRecDepth 100000

/-- append of a row of structs onto a row that the call made, as a step -/
theorem wp_appR {α : Type} (enc : α → List Value) (k t e bytes : Nat) (i : TypeInfo) (z : Value) {o : Oper} {a : Act} {K : Act → World → Prop} {Q : Exit → Act → World → Prop} (w : World) (s x : Operand)
    (ho : o.op = .call { callee := .builtin .append, args := #[s, x], argTypes := #[t, t] })
    (ht : Tryd.prog.underlying t = some (.slice e)) (hi : Tryd.prog.info? e = some i) (hz : i.zero = some z) (hsize : i.size = k) (hby : i.bytes = bytes) (hzs : z.cells.size = k) (hk0 : 0 < k) (hb8 : bytes ≤ 1000)
    (v : Value) (n : Nat) (xs : List Value) (hs : a.eval s = v) (hown : w.ownsRow 0 e k v n xs)
    (ad : Addr) (m c : Nat) (l : List α) (hx : a.eval x = .slice (some ad) m c) (hr : Row w k enc (.slice (some ad) m c) l) (henc : ∀ x ∈ l, (enc x).length = k) (hone : ∀ x ∈ l, ∀ u ∈ enc x, u.oneCell' = true)
    (hbig : n ≤ 1000000)
    (hK : ∀ ao' cap' w', w'.ownsRow 0 e k (.slice ao' (n + m) cap') (n + m) (xs ++ l.flatMap enc) → Kept (fun k => some k = v.ownBlock) w w' →
      ((Value.slice ao' (n + m) cap').ownBlock = v.ownBlock ∨ (Value.slice ao' (n + m) cap').ownBlock = some w.heap.size) → K (a.put o.dst (.slice ao' (n + m) cap')) w') :
    o.wp Tryd.prog a w K Q := by
  obtain ⟨ao2, cap2, e2, hn0, hcap, hlm, hcell⟩ := hr
  injection e2 with e3 e4 e5
  subst e3 e5
  have hl : l.length = m := by omega
  have hby2 : (n + m) * bytes ≤ 140737488355328 := by
    have : (n + m) * bytes ≤ 2000000 * 1000 := Nat.mul_le_mul (by omega) hb8
    omega
  obtain ⟨v', w', hrun, h2, h3, _, h5⟩ := run_append_own_at (P := Tryd.prog) w 0 t o.type e i z k bytes ht hi hz hsize hby hzs hk0 v n xs hown ad m c (l.flatMap enc) (by rw [flatE_len l henc, hl]) (by
    intro j u hu
    obtain ⟨q, r, x, rfl, h1, h2⟩ := flatE_at henc hu
    obtain ⟨b, off, e, hc⟩ := hcell q x h1
    injection e with e; subst e
    rw [Addr.add_lit, ← Nat.add_assoc]
    exact hc r u h2) (by
    intro u hu
    obtain ⟨x, hx, hu⟩ := List.mem_flatMap.1 hu
    exact hone x hx u hu) (by simp only [maxLen]; omega) hby2 (Nat.zero_le _)
  obtain ⟨ao', cap', rfl, _⟩ := own_form' h2
  unfold Oper.wp
  simp [execOp, ho, resolve, invoke, builtin, hs, hx, hrun, Result.andThen]
  exact hK ao' cap' w' h2 (Kept.ofGrown h3) h5

theorem row_one {w : World} {g : Nat} {m : Mg} (h : w.heap[g]? = some (.cells m.cells.toArray 37 (0, 0))) : Row w 25 Mg.cells (.slice (some ⟨g, 0, none⟩) 1 1) [m] := by
  refine ⟨some ⟨g, 0, none⟩, 1, rfl, (fun e => by cases e), Nat.le_refl _, by simp, fun j x hj => ?_⟩
  cases j with
  | succ j => simp at hj
  | zero =>
    simp at hj
    subst hj
    refine ⟨g, 0, rfl, fun i u hu => ?_⟩
    have := cell_box h i
    simp only [Nat.zero_mul, Nat.zero_add, Nat.add_zero] at *
    rw [this]; exact hu

theorem add47_full (w : World) (B : Nat) (g : Option Nat) (l : List Mg) (m : Mg) (h : Bag w B g l) (hl : 400 ≤ l.length) :
    Calls Tryd.prog 47 #[.pointer (some ⟨B, 0, none⟩), .agg m.cells.toArray] w fun e w' => e = .returned (.int .i64 60) ∧ Bag w' B g l ∧ Below w.heap.size w w' := by
  have hb : Below w.heap.size w (w.alloc (.cells m.cells.toArray 37)) := (Below.refl _ _).alloc (Nat.le_refl _) _
  have HB := Lib.hid hb
  have HBG := Lib.hid (h.below hb)
  obtain ⟨ao, cap, h⟩ := h
  have q := (h.below hb).cell
  obtain ⟨W, hW⟩ : ∃ W, W = w.alloc (.cells m.cells.toArray 37) := ⟨_, rfl⟩
  rw [← hW] at q
  have HW := Lib.hid hW
  clear hb h hW
  generalize l.length = n at *
  simp only [Mg.cells] at HW ⊢
  go_enter Tryd.func47, Tryd.ntmps47
  go_upto_region 1 with fail
  rw [← HW.out]
  go_wp2_with fail
  go_ret
  rw [HW.out]
  exact ⟨rfl, HBG.out, HB.out⟩

theorem sl_load {w' : World} {B n c : Nat} {a : Option Addr} (h : w'.cell? ⟨B, 0, none⟩ = some (.slice a n c)) : (Instr.loadAt 50 (.pointer (some ⟨B, 0, none⟩))).run Tryd.prog w' = .ok (.slice a n c) w' := by go_simp
theorem sl_store {w' : World} {B n c n' c' : Nat} {a a' : Option Addr} (h : w'.cell? ⟨B, 0, none⟩ = some (.slice a n c)) (hf : w'.frozen? ⟨B, 0, none⟩ = false) : (Instr.storeAt 50 (.pointer (some ⟨B, 0, none⟩)) (.slice a' n' c')).run Tryd.prog w' = .ok () (w'.setCell ⟨B, 0, none⟩ (.slice a' n' c')) := by go_simp
theorem below_drew (w : World) (H : Nat) : Below H w w.drew := ⟨rfl, rfl, rfl, Nat.le_refl _, fun _ _ => rfl⟩
theorem Bg.later {W X X' : World} {B : Nat} {g : Option Nat} {l : List Mg} {ao : Option Addr} {cap n : Nat} (h : Bg W B g l ao cap) (hn : n = l.length) (hb : Below W.heap.size W X) (hk : Kept (fun k => some k = (Value.slice ao n cap).ownBlock) X X') : X'.heap[B]? = some (.cells #[.slice ao n cap] 96 (0, 0)) := by
  subst hn
  have h1 := (h.below hb).box
  rw [hk.block B (lt_of_block h1) (fun e => h.ne (by rw [h.hg, ← e]))]
  exact h1
theorem add_end {W X X' : World} {B : Nat} {g : Option Nat} {l : List Mg} {ao ao' : Option Addr} {cap cap' n : Nat} {m : Mg} (h : Bg W B g l ao cap) (hn : n = l.length) (hb : Below W.heap.size W X)
    (ho : X'.ownsRow 0 37 25 (.slice ao' (n + 1) cap') (n + 1) (l.flatMap Mg.cells ++ [m].flatMap Mg.cells)) (hk : Kept (fun k => some k = (Value.slice ao n cap).ownBlock) X X')
    (hg : (Value.slice ao' (n + 1) cap').ownBlock = (Value.slice ao n cap).ownBlock ∨ (Value.slice ao' (n + 1) cap').ownBlock = some X.heap.size) (hm : Mnil m) (hl : n < 400) :
    ∃ g', Bag (X'.setCell ⟨B, 0, none⟩ (.slice ao' (n + 1) cap')) B g' (l ++ [m]) ∧ Gone W B g (X'.setCell ⟨B, 0, none⟩ (.slice ao' (n + 1) cap')) g' := by
  have hB := h.later hn hb hk
  subst hn
  have hBW := lt_of_block h.box
  have hBs : (Value.slice ao' (l.length + 1) cap').ownBlock ≠ some B := by
    rcases hg with e | e
    · rw [e, ← h.hg]; exact h.ne
    · rw [e]; intro e; injection e with e; have := hb.size; omega
  have hkB : Kept (fun k => k = B) X' (X'.setCell ⟨B, 0, none⟩ (.slice ao' (l.length + 1) cap')) := (Kept.refl _ X').setCell _ _ (fun _ => rfl)
  have e1 : (l ++ [m]).length = l.length + 1 := by simp
  refine ⟨(Value.slice ao' (l.length + 1) cap').ownBlock, ⟨ao', cap', ⟨?_, ?_, by rw [e1], hBs, ?_, by rw [e1]; omega⟩⟩, ?_, ?_⟩
  · rw [heap_setCell_same _ _ _ _ _ _ hB, e1]; rfl
  · rw [e1, List.flatMap_append]
    exact own_kept' ho hkB (fun x e hx => hBs (by rw [e, hx]))
  · intro x hx
    rcases List.mem_append.1 hx with hx | hx
    · exact h.nil x hx
    · rw [List.mem_singleton] at hx; subst hx; exact hm
  · exact ((Kept.ofBelow (S := fun k => k = B ∨ some k = g) hb).trans hk (fun i _ e => .inr (by rw [h.hg, ← e]))).trans hkB (fun i _ e => .inl e)
  · rcases hg with e | e
    · exact .inl (by rw [e, ← h.hg])
    · exact .inr (.inr ⟨_, e, hb.size⟩)

set_option maxHeartbeats 4000000 in
theorem add47_room (w : World) (B : Nat) (g : Option Nat) (l : List Mg) (m : Mg) (h : Bag w B g l) (hm : Mnil m) (hl : l.length < 400) :
    Calls Tryd.prog 47 #[.pointer (some ⟨B, 0, none⟩), .agg m.cells.toArray] w fun e w' => e = .returned (.int .i64 0) ∧ ∃ g', Bag w' B g' (l ++ [m]) ∧ Gone w B g w' g' := by
  obtain ⟨i0, hi0, hz0, hz1, hz2⟩ := info_parts info37d
  have hb : Below w.heap.size w (w.alloc (.cells m.cells.toArray 37)) := (Below.refl _ _).alloc (Nat.le_refl _) _
  obtain ⟨ao, cap, h⟩ := h
  have hbg := h.below hb
  have q := hbg.cell
  have bx : (w.alloc (.cells m.cells.toArray 37)).heap[w.heap.size]? = some (.cells m.cells.toArray 37 (0, 0)) := heap_alloc_new _ _
  have HOL := Lib.hid (show ∀ x, (Value.slice ao l.length cap).ownBlock = some x → x < w.heap.size from fun x e => own_lt' h.own e)
  have HNB := Lib.hid (show w.heap.size ≠ B by have := lt_of_block h.box; omega)
  obtain ⟨W, hW⟩ : ∃ W, W = w.alloc (.cells m.cells.toArray 37) := ⟨_, rfl⟩
  rw [← hW] at q bx hbg hb
  have HW := Lib.hid hW
  have HB := Lib.hid hb
  have HBG := Lib.hid hbg
  have HM := Lib.hid hm
  have HBX := Lib.hid bx
  have HN0 := Lib.hid hi0
  have HZ0 := Lib.hid hz0
  have HZ1 := Lib.hid hz1
  have HZ2 := Lib.hid hz2
  have CC := Lib.hid (fun X => copyNil X m hm)
  have FF := Lib.hid (fill1 m)
  have RO := Lib.hid (fun (X : World) (g' : Nat) (h : X.heap[g']? = some (Obj.cells m.cells.toArray 37 (0, 0))) => row_one h)
  have ML := Lib.hid (fun (X : World) (g' : Nat) (h : X.heap[g']? = some (Obj.cells m.cells.toArray 37 (0, 0))) => msg_load h)
  obtain ⟨gx, hgx⟩ : ∃ gx, gx = w.heap.size := ⟨_, rfl⟩
  rw [← hgx] at HBX HNB HOL
  have HGX := Lib.hid hgx
  clear hb h hW hbg hm bx hgx hi0 hz0 hz1 hz2
  obtain ⟨n, hn⟩ : ∃ n, n = l.length := ⟨_, rfl⟩
  rw [← hn] at q hl HOL
  have HN := Lib.hid hn
  clear hn
  have HL := Lib.hid hl
  have eA : (#[.int .u8 m.k, .int .u8 m.f, .int .u8 m.t, .int .u8 m.e, .int .u32 m.vw, .int .u32 m.sq, .int .u8 m.rq.c, .int .u32 m.rq.t, .int .u8 m.rq.k, .int .u8 m.rq.y, .int .u16 m.rq.v, .int .u64 m.ro, .int .u8 m.ct, .int .u8 m.pg, .int .u32 m.rs, .int .u8 m.vt.f, .int .u8 m.vt.e, .int .u32 m.vt.vw, .int .u32 m.vt.lo, .slice m.vt.ms.a m.vt.ms.n m.vt.ms.c, .slice m.vt.p.a m.vt.p.n m.vt.p.c, .slice m.vt.q.a m.vt.q.n m.vt.q.c, .slice m.vs.a m.vs.n m.vs.c, .slice m.sm.a m.sm.n m.sm.c, .slice m.dt.a m.dt.n m.dt.c] : Array Value) = m.cells.toArray := rfl
  have EA := Lib.hid eA
  clear eA
  simp only [Mg.cells] at HW ⊢
  go_enter Tryd.func47, Tryd.ntmps47
  go_upto_region 1 with fail
  rw [← HW.out, ← HGX.out, EA.out]
  clear HW EA
  go_wp2_with fail
  have hWd : W.drew.heap[gx]? = some (.cells m.cells.toArray 37 (0, 0)) := HBX.out
  have h400 : decide (400 ≤ (n : Int)) = false := by simp; omega
  rw [h400]
  clear q h400
  have HX := Lib.hid (below_drew W W.heap.size)
  obtain ⟨X0, hX0⟩ : ∃ X0, X0 = W.drew := ⟨_, rfl⟩
  refine wp_region_held_drew (S := fun w' => w'.heap[gx]? = some (.cells m.cells.toArray 37 (0, 0))) (by kernel_rfl) hWd (fun hS => ?_)
  rw [← hX0] at HX hS ⊢
  clear hWd hX0 HBX
  refine takeA (i := 0) (v := .pointer (some ⟨B, 0, none⟩)) ({ tmps := #[.pointer (some ⟨B, 0, none⟩), .agg m.cells.toArray, undef, .pointer (some ⟨gx, 0, none⟩), .int .i64 0, .pointer (some ⟨B, 0, none⟩), .pointer (some ⟨B, 0, none⟩), .pointer (some ⟨B, 0, none⟩), .slice ao n cap, .int .i64 n, .bool false, .pointer (some ⟨B, 0, none⟩), undef, undef, undef, undef, undef, undef, undef, undef, undef, undef], defers := [] }) rfl (by kernel_rfl) (by kernel_rfl) (by kernel_rfl) (fun _ _ _ h => h) (.inl ⟨rfl, fun _ _ => rfl⟩) hS rfl ?_
  refine takeA (i := 1) (v := .pointer (some ⟨B, 0, none⟩)) ({ tmps := #[.pointer (some ⟨B, 0, none⟩), .agg m.cells.toArray, undef, .pointer (some ⟨gx, 0, none⟩), .int .i64 0, .pointer (some ⟨B, 0, none⟩), .pointer (some ⟨B, 0, none⟩), .pointer (some ⟨B, 0, none⟩), .slice ao n cap, .int .i64 n, .bool false, .pointer (some ⟨B, 0, none⟩), .pointer (some ⟨B, 0, none⟩), undef, undef, undef, undef, undef, undef, undef, undef, undef], defers := [] }) rfl (by kernel_rfl) (by kernel_rfl) (by kernel_rfl) (fun _ _ _ h => h) (.inl ⟨rfl, fun _ _ => rfl⟩) hS rfl ?_
  refine takeA (i := 2) (v := .pointer (some ⟨B, 0, none⟩)) ({ tmps := #[.pointer (some ⟨B, 0, none⟩), .agg m.cells.toArray, undef, .pointer (some ⟨gx, 0, none⟩), .int .i64 0, .pointer (some ⟨B, 0, none⟩), .pointer (some ⟨B, 0, none⟩), .pointer (some ⟨B, 0, none⟩), .slice ao n cap, .int .i64 n, .bool false, .pointer (some ⟨B, 0, none⟩), .pointer (some ⟨B, 0, none⟩), .pointer (some ⟨B, 0, none⟩), undef, undef, undef, undef, undef, undef, undef, undef], defers := [] }) rfl (by kernel_rfl) (by kernel_rfl) (by kernel_rfl) (fun _ _ _ h => h) (.inl ⟨rfl, fun _ _ => by go_simp⟩) hS rfl ?_
  refine takeA (i := 3) (v := .pointer (some ⟨B, 0, none⟩)) ({ tmps := #[.pointer (some ⟨B, 0, none⟩), .agg m.cells.toArray, undef, .pointer (some ⟨gx, 0, none⟩), .int .i64 0, .pointer (some ⟨B, 0, none⟩), .pointer (some ⟨B, 0, none⟩), .pointer (some ⟨B, 0, none⟩), .slice ao n cap, .int .i64 n, .bool false, .pointer (some ⟨B, 0, none⟩), .pointer (some ⟨B, 0, none⟩), .pointer (some ⟨B, 0, none⟩), .pointer (some ⟨B, 0, none⟩), undef, undef, undef, undef, undef, undef, undef], defers := [] }) rfl (by kernel_rfl) (by kernel_rfl) (by kernel_rfl) (fun _ _ _ h => h) (.inl ⟨rfl, fun _ _ => by go_simp⟩) hS rfl ?_
  refine takeA (i := 5) (v := .agg m.cells.toArray) ({ tmps := #[.pointer (some ⟨B, 0, none⟩), .agg m.cells.toArray, undef, .pointer (some ⟨gx, 0, none⟩), .int .i64 0, .pointer (some ⟨B, 0, none⟩), .pointer (some ⟨B, 0, none⟩), .pointer (some ⟨B, 0, none⟩), .slice ao n cap, .int .i64 n, .bool false, .pointer (some ⟨B, 0, none⟩), .pointer (some ⟨B, 0, none⟩), .pointer (some ⟨B, 0, none⟩), .pointer (some ⟨B, 0, none⟩), undef, .agg m.cells.toArray, undef, undef, undef, undef, undef], defers := [] }) rfl (by kernel_rfl) (by kernel_rfl) (by kernel_rfl) (fun _ _ _ h => h) (.inl ⟨rfl, fun w' hS => exec_load 37 (.tmp 3) rfl rfl (ML.out w' gx hS)⟩) hS rfl ?_
  refine wpAnyH_ready (rs := [4, 6]) (by kernel_rfl) (by simp) ?_
  refine (AllReadyH.cons rfl (fun K hK => ?_) (AllReadyH.cons rfl (fun K hK => ?_) AllReadyH.nil))
  · skip
    rw [if_pos (by rfl)]
    refine wp_ld (sl_load (by have h := (HBG.out.below HX.out).cell; rw [← HN.out] at h; exact h)) rfl rfl ?_
    refine hK.out ({ tmps := #[.pointer (some ⟨B, 0, none⟩), .agg m.cells.toArray, undef, .pointer (some ⟨gx, 0, none⟩), .int .i64 0, .pointer (some ⟨B, 0, none⟩), .pointer (some ⟨B, 0, none⟩), .pointer (some ⟨B, 0, none⟩), .slice ao n cap, .int .i64 n, .bool false, .pointer (some ⟨B, 0, none⟩), .pointer (some ⟨B, 0, none⟩), .pointer (some ⟨B, 0, none⟩), .pointer (some ⟨B, 0, none⟩), .slice ao n cap, .agg m.cells.toArray, undef, undef, undef, undef, undef], defers := [] }) X0 hS (fun hS => ?_)
    clear hK K
    refine wpAnyH_ready (rs := [6]) (by kernel_rfl) (by simp) ?_
    refine (AllReadyH.cons rfl (fun K hK => ?_) AllReadyH.nil)
    rw [if_pos (by rfl)]
    go_simp
    refine Calls.mono (CC.out X0) ?_
    rintro e Y1 ⟨rfl, hb⟩
    refine hK.out ({ tmps := #[.pointer (some ⟨B, 0, none⟩), .agg m.cells.toArray, undef, .pointer (some ⟨gx, 0, none⟩), .int .i64 0, .pointer (some ⟨B, 0, none⟩), .pointer (some ⟨B, 0, none⟩), .pointer (some ⟨B, 0, none⟩), .slice ao n cap, .int .i64 n, .bool false, .pointer (some ⟨B, 0, none⟩), .pointer (some ⟨B, 0, none⟩), .pointer (some ⟨B, 0, none⟩), .pointer (some ⟨B, 0, none⟩), .slice ao n cap, .agg m.cells.toArray, .agg m.cells.toArray, undef, undef, undef, undef], defers := [] }) Y1 (by rw [hb.block gx (lt_of_block hS)]; exact hS) (fun hS => ?_)
    have HX := Lib.hid (HX.out.trans (hb.mono HX.out.size))
    clear hK K hb
    refine wpAnyH_ready (rs := [7]) (by kernel_rfl) (by simp) ?_
    refine (AllReadyH.cons rfl (fun K hK => ?_) AllReadyH.nil)
    rw [if_pos (by rfl)]
    refine wp_buildSlice 50 37 1 #[(0, .tmp 17)] rfl m.cells.toArray i0 (.agg Vz.toArray) Tryd.underlying50 HN0.out HZ0.out (by rw [HZ1.out]; decide) (by rw [HZ1.out]; decide) (by rw [HZ1.out, Array.toList_map]; exact FF.out) ?_
    have HBS := Lib.hid (heap_alloc_new Y1 (.cells m.cells.toArray 37))
    have hb : Below Y1.heap.size Y1 (Y1.alloc (.cells m.cells.toArray 37)) := (Below.refl _ _).alloc (Nat.le_refl _) _
    have HX := Lib.hid (HX.out.trans (hb.mono HX.out.size))
    have hS2 : (Y1.alloc (.cells m.cells.toArray 37)).heap[gx]? = some (.cells m.cells.toArray 37 (0, 0)) := by rw [hb.block gx (lt_of_block hS)]; exact hS
    generalize Y1.alloc (.cells m.cells.toArray 37) = Y2 at *
    generalize Y1.heap.size = gy2 at *
    refine hK.out ({ tmps := #[.pointer (some ⟨B, 0, none⟩), .agg m.cells.toArray, undef, .pointer (some ⟨gx, 0, none⟩), .int .i64 0, .pointer (some ⟨B, 0, none⟩), .pointer (some ⟨B, 0, none⟩), .pointer (some ⟨B, 0, none⟩), .slice ao n cap, .int .i64 n, .bool false, .pointer (some ⟨B, 0, none⟩), .pointer (some ⟨B, 0, none⟩), .pointer (some ⟨B, 0, none⟩), .pointer (some ⟨B, 0, none⟩), .slice ao n cap, .agg m.cells.toArray, .agg m.cells.toArray, .slice (some ⟨gy2, 0, none⟩) 1 1, undef, undef, undef], defers := [] }) Y2 hS2 (fun hS => ?_)
    clear hK K hb hS2
    refine wpAnyH_ready (rs := [8]) (by kernel_rfl) (by simp) ?_
    refine (AllReadyH.cons rfl (fun K hK => ?_) AllReadyH.nil)
    rw [if_pos (by rfl)]
    refine wp_appR Mg.cells 25 50 37 200 i0 _ Y2 (.tmp 15) (.tmp 18) rfl Tryd.underlying50 HN0.out HZ0.out HZ1.out HZ2.out rfl (by decide) (by decide) (.slice ao n cap) n (l.flatMap Mg.cells) rfl (by have h := (HBG.out.below HX.out).own; rw [← HN.out] at h; exact h) ⟨gy2, 0, none⟩ 1 1 [m] rfl (RO.out Y2 gy2 HBS.out) (fun _ _ => rfl) (fun x _ u hu => Mg.one x u hu) (by omega) ?_
    intro ao2 cap2 Y3 ho hk hg
    refine hK.out ({ tmps := #[.pointer (some ⟨B, 0, none⟩), .agg m.cells.toArray, undef, .pointer (some ⟨gx, 0, none⟩), .int .i64 0, .pointer (some ⟨B, 0, none⟩), .pointer (some ⟨B, 0, none⟩), .pointer (some ⟨B, 0, none⟩), .slice ao n cap, .int .i64 n, .bool false, .pointer (some ⟨B, 0, none⟩), .pointer (some ⟨B, 0, none⟩), .pointer (some ⟨B, 0, none⟩), .pointer (some ⟨B, 0, none⟩), .slice ao n cap, .agg m.cells.toArray, .agg m.cells.toArray, .slice (some ⟨gy2, 0, none⟩) 1 1, .slice ao2 (n + 1) cap2, undef, undef], defers := [] }) Y3 (by rw [hk.block gx (lt_of_block hS) (fun e => Nat.lt_irrefl _ (HOL.out gx e.symm))]; exact hS) (fun hS => ?_)
    have hbx := HBG.out.later HN.out HX.out hk
    have HEND := Lib.hid (add_end HBG.out HN.out HX.out ho hk hg HM.out HL.out)
    clear hK K ho hk hg
    refine takeA (i := 9) (v := .pointer (some ⟨B, 0, none⟩)) ({ tmps := #[.pointer (some ⟨B, 0, none⟩), .agg m.cells.toArray, undef, .pointer (some ⟨gx, 0, none⟩), .int .i64 0, .pointer (some ⟨B, 0, none⟩), .pointer (some ⟨B, 0, none⟩), .pointer (some ⟨B, 0, none⟩), .slice ao n cap, .int .i64 n, .bool false, .pointer (some ⟨B, 0, none⟩), .pointer (some ⟨B, 0, none⟩), .pointer (some ⟨B, 0, none⟩), .pointer (some ⟨B, 0, none⟩), .slice ao n cap, .agg m.cells.toArray, .agg m.cells.toArray, .slice (some ⟨gy2, 0, none⟩) 1 1, .slice ao2 (n + 1) cap2, .pointer (some ⟨B, 0, none⟩), undef], defers := [] }) rfl (by kernel_rfl) (by kernel_rfl) (by kernel_rfl) (fun _ _ _ h => h) (.inl ⟨rfl, fun _ _ => by go_simp⟩) hS rfl ?_
    refine takeA (i := 10) (v := .pointer (some ⟨B, 0, none⟩)) ({ tmps := #[.pointer (some ⟨B, 0, none⟩), .agg m.cells.toArray, undef, .pointer (some ⟨gx, 0, none⟩), .int .i64 0, .pointer (some ⟨B, 0, none⟩), .pointer (some ⟨B, 0, none⟩), .pointer (some ⟨B, 0, none⟩), .slice ao n cap, .int .i64 n, .bool false, .pointer (some ⟨B, 0, none⟩), .pointer (some ⟨B, 0, none⟩), .pointer (some ⟨B, 0, none⟩), .pointer (some ⟨B, 0, none⟩), .slice ao n cap, .agg m.cells.toArray, .agg m.cells.toArray, .slice (some ⟨gy2, 0, none⟩) 1 1, .slice ao2 (n + 1) cap2, .pointer (some ⟨B, 0, none⟩), .pointer (some ⟨B, 0, none⟩)], defers := [] }) rfl (by kernel_rfl) (by kernel_rfl) (by kernel_rfl) (fun _ _ _ h => h) (.inl ⟨rfl, fun _ _ => by go_simp⟩) hS rfl ?_
    refine wpAnyH_ready (rs := [11]) (by kernel_rfl) (by simp) ?_
    refine (AllReadyH.cons rfl (fun K hK => ?_) AllReadyH.nil)
    rw [if_pos (by rfl)]
    refine wp_sto (sl_store (a := ao) (n := n) (c := cap) (by rw [cell_of_row _ _ _ _ _ _ hbx]; rfl) (frozen_of_row _ _ _ _ _ hbx)) rfl rfl rfl rfl ?_
    refine hK.out ({ tmps := #[.pointer (some ⟨B, 0, none⟩), .agg m.cells.toArray, undef, .pointer (some ⟨gx, 0, none⟩), .int .i64 0, .pointer (some ⟨B, 0, none⟩), .pointer (some ⟨B, 0, none⟩), .pointer (some ⟨B, 0, none⟩), .slice ao n cap, .int .i64 n, .bool false, .pointer (some ⟨B, 0, none⟩), .pointer (some ⟨B, 0, none⟩), .pointer (some ⟨B, 0, none⟩), .pointer (some ⟨B, 0, none⟩), .slice ao n cap, .agg m.cells.toArray, .agg m.cells.toArray, .slice (some ⟨gy2, 0, none⟩) 1 1, .slice ao2 (n + 1) cap2, .pointer (some ⟨B, 0, none⟩), .pointer (some ⟨B, 0, none⟩)], defers := [] }) _ (by rw [heap_setCell_other _ _ _ _ (by simp only; exact HNB.out)]; exact hS) (fun hS => ?_)
    clear hK K
    refine wpAnyH_done (by kernel_rfl) ?_ _
    clear hS hbx
    generalize Y3.setCell ⟨B, 0, none⟩ (.slice ao2 (n + 1) cap2) = Z at *
    go_wp2_with fail
    go_ret
    obtain ⟨g', h1, h2⟩ := HEND.out
    exact ⟨rfl, g', h1, (Gone.below HB.out).trans h2⟩
  · skip
    rw [if_pos (by rfl)]
    go_simp
    refine Calls.mono (CC.out X0) ?_
    rintro e Y4 ⟨rfl, hb⟩
    refine hK.out ({ tmps := #[.pointer (some ⟨B, 0, none⟩), .agg m.cells.toArray, undef, .pointer (some ⟨gx, 0, none⟩), .int .i64 0, .pointer (some ⟨B, 0, none⟩), .pointer (some ⟨B, 0, none⟩), .pointer (some ⟨B, 0, none⟩), .slice ao n cap, .int .i64 n, .bool false, .pointer (some ⟨B, 0, none⟩), .pointer (some ⟨B, 0, none⟩), .pointer (some ⟨B, 0, none⟩), .pointer (some ⟨B, 0, none⟩), undef, .agg m.cells.toArray, .agg m.cells.toArray, undef, undef, undef, undef], defers := [] }) Y4 (by rw [hb.block gx (lt_of_block hS)]; exact hS) (fun hS => ?_)
    have HX := Lib.hid (HX.out.trans (hb.mono HX.out.size))
    clear hK K hb
    refine wpAnyH_ready (rs := [4, 7]) (by kernel_rfl) (by simp) ?_
    refine (AllReadyH.cons rfl (fun K hK => ?_) (AllReadyH.cons rfl (fun K hK => ?_) AllReadyH.nil))
    · skip
      rw [if_pos (by rfl)]
      refine wp_ld (sl_load (by have h := (HBG.out.below HX.out).cell; rw [← HN.out] at h; exact h)) rfl rfl ?_
      refine hK.out ({ tmps := #[.pointer (some ⟨B, 0, none⟩), .agg m.cells.toArray, undef, .pointer (some ⟨gx, 0, none⟩), .int .i64 0, .pointer (some ⟨B, 0, none⟩), .pointer (some ⟨B, 0, none⟩), .pointer (some ⟨B, 0, none⟩), .slice ao n cap, .int .i64 n, .bool false, .pointer (some ⟨B, 0, none⟩), .pointer (some ⟨B, 0, none⟩), .pointer (some ⟨B, 0, none⟩), .pointer (some ⟨B, 0, none⟩), .slice ao n cap, .agg m.cells.toArray, .agg m.cells.toArray, undef, undef, undef, undef], defers := [] }) Y4 hS (fun hS => ?_)
      clear hK K
      refine wpAnyH_ready (rs := [7]) (by kernel_rfl) (by simp) ?_
      refine (AllReadyH.cons rfl (fun K hK => ?_) AllReadyH.nil)
      rw [if_pos (by rfl)]
      refine wp_buildSlice 50 37 1 #[(0, .tmp 17)] rfl m.cells.toArray i0 (.agg Vz.toArray) Tryd.underlying50 HN0.out HZ0.out (by rw [HZ1.out]; decide) (by rw [HZ1.out]; decide) (by rw [HZ1.out, Array.toList_map]; exact FF.out) ?_
      have HBS := Lib.hid (heap_alloc_new Y4 (.cells m.cells.toArray 37))
      have hb : Below Y4.heap.size Y4 (Y4.alloc (.cells m.cells.toArray 37)) := (Below.refl _ _).alloc (Nat.le_refl _) _
      have HX := Lib.hid (HX.out.trans (hb.mono HX.out.size))
      have hS2 : (Y4.alloc (.cells m.cells.toArray 37)).heap[gx]? = some (.cells m.cells.toArray 37 (0, 0)) := by rw [hb.block gx (lt_of_block hS)]; exact hS
      generalize Y4.alloc (.cells m.cells.toArray 37) = Y5 at *
      generalize Y4.heap.size = gy5 at *
      refine hK.out ({ tmps := #[.pointer (some ⟨B, 0, none⟩), .agg m.cells.toArray, undef, .pointer (some ⟨gx, 0, none⟩), .int .i64 0, .pointer (some ⟨B, 0, none⟩), .pointer (some ⟨B, 0, none⟩), .pointer (some ⟨B, 0, none⟩), .slice ao n cap, .int .i64 n, .bool false, .pointer (some ⟨B, 0, none⟩), .pointer (some ⟨B, 0, none⟩), .pointer (some ⟨B, 0, none⟩), .pointer (some ⟨B, 0, none⟩), .slice ao n cap, .agg m.cells.toArray, .agg m.cells.toArray, .slice (some ⟨gy5, 0, none⟩) 1 1, undef, undef, undef], defers := [] }) Y5 hS2 (fun hS => ?_)
      clear hK K hb hS2
      refine wpAnyH_ready (rs := [8]) (by kernel_rfl) (by simp) ?_
      refine (AllReadyH.cons rfl (fun K hK => ?_) AllReadyH.nil)
      rw [if_pos (by rfl)]
      refine wp_appR Mg.cells 25 50 37 200 i0 _ Y5 (.tmp 15) (.tmp 18) rfl Tryd.underlying50 HN0.out HZ0.out HZ1.out HZ2.out rfl (by decide) (by decide) (.slice ao n cap) n (l.flatMap Mg.cells) rfl (by have h := (HBG.out.below HX.out).own; rw [← HN.out] at h; exact h) ⟨gy5, 0, none⟩ 1 1 [m] rfl (RO.out Y5 gy5 HBS.out) (fun _ _ => rfl) (fun x _ u hu => Mg.one x u hu) (by omega) ?_
      intro ao2 cap2 Y6 ho hk hg
      refine hK.out ({ tmps := #[.pointer (some ⟨B, 0, none⟩), .agg m.cells.toArray, undef, .pointer (some ⟨gx, 0, none⟩), .int .i64 0, .pointer (some ⟨B, 0, none⟩), .pointer (some ⟨B, 0, none⟩), .pointer (some ⟨B, 0, none⟩), .slice ao n cap, .int .i64 n, .bool false, .pointer (some ⟨B, 0, none⟩), .pointer (some ⟨B, 0, none⟩), .pointer (some ⟨B, 0, none⟩), .pointer (some ⟨B, 0, none⟩), .slice ao n cap, .agg m.cells.toArray, .agg m.cells.toArray, .slice (some ⟨gy5, 0, none⟩) 1 1, .slice ao2 (n + 1) cap2, undef, undef], defers := [] }) Y6 (by rw [hk.block gx (lt_of_block hS) (fun e => Nat.lt_irrefl _ (HOL.out gx e.symm))]; exact hS) (fun hS => ?_)
      have hbx := HBG.out.later HN.out HX.out hk
      have HEND := Lib.hid (add_end HBG.out HN.out HX.out ho hk hg HM.out HL.out)
      clear hK K ho hk hg
      refine takeA (i := 9) (v := .pointer (some ⟨B, 0, none⟩)) ({ tmps := #[.pointer (some ⟨B, 0, none⟩), .agg m.cells.toArray, undef, .pointer (some ⟨gx, 0, none⟩), .int .i64 0, .pointer (some ⟨B, 0, none⟩), .pointer (some ⟨B, 0, none⟩), .pointer (some ⟨B, 0, none⟩), .slice ao n cap, .int .i64 n, .bool false, .pointer (some ⟨B, 0, none⟩), .pointer (some ⟨B, 0, none⟩), .pointer (some ⟨B, 0, none⟩), .pointer (some ⟨B, 0, none⟩), .slice ao n cap, .agg m.cells.toArray, .agg m.cells.toArray, .slice (some ⟨gy5, 0, none⟩) 1 1, .slice ao2 (n + 1) cap2, .pointer (some ⟨B, 0, none⟩), undef], defers := [] }) rfl (by kernel_rfl) (by kernel_rfl) (by kernel_rfl) (fun _ _ _ h => h) (.inl ⟨rfl, fun _ _ => by go_simp⟩) hS rfl ?_
      refine takeA (i := 10) (v := .pointer (some ⟨B, 0, none⟩)) ({ tmps := #[.pointer (some ⟨B, 0, none⟩), .agg m.cells.toArray, undef, .pointer (some ⟨gx, 0, none⟩), .int .i64 0, .pointer (some ⟨B, 0, none⟩), .pointer (some ⟨B, 0, none⟩), .pointer (some ⟨B, 0, none⟩), .slice ao n cap, .int .i64 n, .bool false, .pointer (some ⟨B, 0, none⟩), .pointer (some ⟨B, 0, none⟩), .pointer (some ⟨B, 0, none⟩), .pointer (some ⟨B, 0, none⟩), .slice ao n cap, .agg m.cells.toArray, .agg m.cells.toArray, .slice (some ⟨gy5, 0, none⟩) 1 1, .slice ao2 (n + 1) cap2, .pointer (some ⟨B, 0, none⟩), .pointer (some ⟨B, 0, none⟩)], defers := [] }) rfl (by kernel_rfl) (by kernel_rfl) (by kernel_rfl) (fun _ _ _ h => h) (.inl ⟨rfl, fun _ _ => by go_simp⟩) hS rfl ?_
      refine wpAnyH_ready (rs := [11]) (by kernel_rfl) (by simp) ?_
      refine (AllReadyH.cons rfl (fun K hK => ?_) AllReadyH.nil)
      rw [if_pos (by rfl)]
      refine wp_sto (sl_store (a := ao) (n := n) (c := cap) (by rw [cell_of_row _ _ _ _ _ _ hbx]; rfl) (frozen_of_row _ _ _ _ _ hbx)) rfl rfl rfl rfl ?_
      refine hK.out ({ tmps := #[.pointer (some ⟨B, 0, none⟩), .agg m.cells.toArray, undef, .pointer (some ⟨gx, 0, none⟩), .int .i64 0, .pointer (some ⟨B, 0, none⟩), .pointer (some ⟨B, 0, none⟩), .pointer (some ⟨B, 0, none⟩), .slice ao n cap, .int .i64 n, .bool false, .pointer (some ⟨B, 0, none⟩), .pointer (some ⟨B, 0, none⟩), .pointer (some ⟨B, 0, none⟩), .pointer (some ⟨B, 0, none⟩), .slice ao n cap, .agg m.cells.toArray, .agg m.cells.toArray, .slice (some ⟨gy5, 0, none⟩) 1 1, .slice ao2 (n + 1) cap2, .pointer (some ⟨B, 0, none⟩), .pointer (some ⟨B, 0, none⟩)], defers := [] }) _ (by rw [heap_setCell_other _ _ _ _ (by simp only; exact HNB.out)]; exact hS) (fun hS => ?_)
      clear hK K
      refine wpAnyH_done (by kernel_rfl) ?_ _
      clear hS hbx
      generalize Y6.setCell ⟨B, 0, none⟩ (.slice ao2 (n + 1) cap2) = Z at *
      go_wp2_with fail
      go_ret
      obtain ⟨g', h1, h2⟩ := HEND.out
      exact ⟨rfl, g', h1, (Gone.below HB.out).trans h2⟩
    · skip
      rw [if_pos (by rfl)]
      refine wp_buildSlice 50 37 1 #[(0, .tmp 17)] rfl m.cells.toArray i0 (.agg Vz.toArray) Tryd.underlying50 HN0.out HZ0.out (by rw [HZ1.out]; decide) (by rw [HZ1.out]; decide) (by rw [HZ1.out, Array.toList_map]; exact FF.out) ?_
      have HBS := Lib.hid (heap_alloc_new Y4 (.cells m.cells.toArray 37))
      have hb : Below Y4.heap.size Y4 (Y4.alloc (.cells m.cells.toArray 37)) := (Below.refl _ _).alloc (Nat.le_refl _) _
      have HX := Lib.hid (HX.out.trans (hb.mono HX.out.size))
      have hS2 : (Y4.alloc (.cells m.cells.toArray 37)).heap[gx]? = some (.cells m.cells.toArray 37 (0, 0)) := by rw [hb.block gx (lt_of_block hS)]; exact hS
      generalize Y4.alloc (.cells m.cells.toArray 37) = Y7 at *
      generalize Y4.heap.size = gy7 at *
      refine hK.out ({ tmps := #[.pointer (some ⟨B, 0, none⟩), .agg m.cells.toArray, undef, .pointer (some ⟨gx, 0, none⟩), .int .i64 0, .pointer (some ⟨B, 0, none⟩), .pointer (some ⟨B, 0, none⟩), .pointer (some ⟨B, 0, none⟩), .slice ao n cap, .int .i64 n, .bool false, .pointer (some ⟨B, 0, none⟩), .pointer (some ⟨B, 0, none⟩), .pointer (some ⟨B, 0, none⟩), .pointer (some ⟨B, 0, none⟩), undef, .agg m.cells.toArray, .agg m.cells.toArray, .slice (some ⟨gy7, 0, none⟩) 1 1, undef, undef, undef], defers := [] }) Y7 hS2 (fun hS => ?_)
      clear hK K hb hS2
      refine wpAnyH_ready (rs := [4]) (by kernel_rfl) (by simp) ?_
      refine (AllReadyH.cons rfl (fun K hK => ?_) AllReadyH.nil)
      rw [if_pos (by rfl)]
      refine wp_ld (sl_load (by have h := (HBG.out.below HX.out).cell; rw [← HN.out] at h; exact h)) rfl rfl ?_
      refine hK.out ({ tmps := #[.pointer (some ⟨B, 0, none⟩), .agg m.cells.toArray, undef, .pointer (some ⟨gx, 0, none⟩), .int .i64 0, .pointer (some ⟨B, 0, none⟩), .pointer (some ⟨B, 0, none⟩), .pointer (some ⟨B, 0, none⟩), .slice ao n cap, .int .i64 n, .bool false, .pointer (some ⟨B, 0, none⟩), .pointer (some ⟨B, 0, none⟩), .pointer (some ⟨B, 0, none⟩), .pointer (some ⟨B, 0, none⟩), .slice ao n cap, .agg m.cells.toArray, .agg m.cells.toArray, .slice (some ⟨gy7, 0, none⟩) 1 1, undef, undef, undef], defers := [] }) Y7 hS (fun hS => ?_)
      clear hK K
      refine wpAnyH_ready (rs := [8]) (by kernel_rfl) (by simp) ?_
      refine (AllReadyH.cons rfl (fun K hK => ?_) AllReadyH.nil)
      rw [if_pos (by rfl)]
      refine wp_appR Mg.cells 25 50 37 200 i0 _ Y7 (.tmp 15) (.tmp 18) rfl Tryd.underlying50 HN0.out HZ0.out HZ1.out HZ2.out rfl (by decide) (by decide) (.slice ao n cap) n (l.flatMap Mg.cells) rfl (by have h := (HBG.out.below HX.out).own; rw [← HN.out] at h; exact h) ⟨gy7, 0, none⟩ 1 1 [m] rfl (RO.out Y7 gy7 HBS.out) (fun _ _ => rfl) (fun x _ u hu => Mg.one x u hu) (by omega) ?_
      intro ao2 cap2 Y8 ho hk hg
      refine hK.out ({ tmps := #[.pointer (some ⟨B, 0, none⟩), .agg m.cells.toArray, undef, .pointer (some ⟨gx, 0, none⟩), .int .i64 0, .pointer (some ⟨B, 0, none⟩), .pointer (some ⟨B, 0, none⟩), .pointer (some ⟨B, 0, none⟩), .slice ao n cap, .int .i64 n, .bool false, .pointer (some ⟨B, 0, none⟩), .pointer (some ⟨B, 0, none⟩), .pointer (some ⟨B, 0, none⟩), .pointer (some ⟨B, 0, none⟩), .slice ao n cap, .agg m.cells.toArray, .agg m.cells.toArray, .slice (some ⟨gy7, 0, none⟩) 1 1, .slice ao2 (n + 1) cap2, undef, undef], defers := [] }) Y8 (by rw [hk.block gx (lt_of_block hS) (fun e => Nat.lt_irrefl _ (HOL.out gx e.symm))]; exact hS) (fun hS => ?_)
      have hbx := HBG.out.later HN.out HX.out hk
      have HEND := Lib.hid (add_end HBG.out HN.out HX.out ho hk hg HM.out HL.out)
      clear hK K ho hk hg
      refine takeA (i := 9) (v := .pointer (some ⟨B, 0, none⟩)) ({ tmps := #[.pointer (some ⟨B, 0, none⟩), .agg m.cells.toArray, undef, .pointer (some ⟨gx, 0, none⟩), .int .i64 0, .pointer (some ⟨B, 0, none⟩), .pointer (some ⟨B, 0, none⟩), .pointer (some ⟨B, 0, none⟩), .slice ao n cap, .int .i64 n, .bool false, .pointer (some ⟨B, 0, none⟩), .pointer (some ⟨B, 0, none⟩), .pointer (some ⟨B, 0, none⟩), .pointer (some ⟨B, 0, none⟩), .slice ao n cap, .agg m.cells.toArray, .agg m.cells.toArray, .slice (some ⟨gy7, 0, none⟩) 1 1, .slice ao2 (n + 1) cap2, .pointer (some ⟨B, 0, none⟩), undef], defers := [] }) rfl (by kernel_rfl) (by kernel_rfl) (by kernel_rfl) (fun _ _ _ h => h) (.inl ⟨rfl, fun _ _ => by go_simp⟩) hS rfl ?_
      refine takeA (i := 10) (v := .pointer (some ⟨B, 0, none⟩)) ({ tmps := #[.pointer (some ⟨B, 0, none⟩), .agg m.cells.toArray, undef, .pointer (some ⟨gx, 0, none⟩), .int .i64 0, .pointer (some ⟨B, 0, none⟩), .pointer (some ⟨B, 0, none⟩), .pointer (some ⟨B, 0, none⟩), .slice ao n cap, .int .i64 n, .bool false, .pointer (some ⟨B, 0, none⟩), .pointer (some ⟨B, 0, none⟩), .pointer (some ⟨B, 0, none⟩), .pointer (some ⟨B, 0, none⟩), .slice ao n cap, .agg m.cells.toArray, .agg m.cells.toArray, .slice (some ⟨gy7, 0, none⟩) 1 1, .slice ao2 (n + 1) cap2, .pointer (some ⟨B, 0, none⟩), .pointer (some ⟨B, 0, none⟩)], defers := [] }) rfl (by kernel_rfl) (by kernel_rfl) (by kernel_rfl) (fun _ _ _ h => h) (.inl ⟨rfl, fun _ _ => by go_simp⟩) hS rfl ?_
      refine wpAnyH_ready (rs := [11]) (by kernel_rfl) (by simp) ?_
      refine (AllReadyH.cons rfl (fun K hK => ?_) AllReadyH.nil)
      rw [if_pos (by rfl)]
      refine wp_sto (sl_store (a := ao) (n := n) (c := cap) (by rw [cell_of_row _ _ _ _ _ _ hbx]; rfl) (frozen_of_row _ _ _ _ _ hbx)) rfl rfl rfl rfl ?_
      refine hK.out ({ tmps := #[.pointer (some ⟨B, 0, none⟩), .agg m.cells.toArray, undef, .pointer (some ⟨gx, 0, none⟩), .int .i64 0, .pointer (some ⟨B, 0, none⟩), .pointer (some ⟨B, 0, none⟩), .pointer (some ⟨B, 0, none⟩), .slice ao n cap, .int .i64 n, .bool false, .pointer (some ⟨B, 0, none⟩), .pointer (some ⟨B, 0, none⟩), .pointer (some ⟨B, 0, none⟩), .pointer (some ⟨B, 0, none⟩), .slice ao n cap, .agg m.cells.toArray, .agg m.cells.toArray, .slice (some ⟨gy7, 0, none⟩) 1 1, .slice ao2 (n + 1) cap2, .pointer (some ⟨B, 0, none⟩), .pointer (some ⟨B, 0, none⟩)], defers := [] }) _ (by rw [heap_setCell_other _ _ _ _ (by simp only; exact HNB.out)]; exact hS) (fun hS => ?_)
      clear hK K
      refine wpAnyH_done (by kernel_rfl) ?_ _
      clear hS hbx
      generalize Y8.setCell ⟨B, 0, none⟩ (.slice ao2 (n + 1) cap2) = Z at *
      go_wp2_with fail
      go_ret
      obtain ⟨g', h1, h2⟩ := HEND.out
      exact ⟨rfl, g', h1, (Gone.below HB.out).trans h2⟩
end Go.Proofs.YtmkeckablkccnaaDoor
