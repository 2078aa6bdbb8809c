/- Whether it can show all votes of a new view; whether it has all that a message carries. -/
import Derived.Test.YtigpfaecbmnklaaDoorVo4
namespace Go.Proofs.YtigpfaecbmnklaaDoor
open Go.RowKit Go.Maps
set_option maxRecDepth 100000

/-- P4.2: it can show each of them -/
def castsB (S : Kn) (l : List (Vt × Vc)) : Bool := l.all fun x => castB S x.1 x.2

theorem row_fst {w : World} {v : Value} {l : List (Vt × Vc)} (h : Row w 7 vcell v l) : Row w 7 Vt.cells v (l.map (·.1)) := by
  obtain ⟨ao, cap, rfl, h1, h2, h3, h4⟩ := h
  refine ⟨ao, cap, by simp, h1, by simpa using h2, by simpa using h3, fun j x hj => ?_⟩
  simp only [List.getElem?_map, Option.map_eq_some_iff] at hj
  obtain ⟨y, hy, rfl⟩ := hj
  exact h4 j y hy

theorem all_take {α : Type} (f : α → Bool) (l : List α) (j : Nat) (x : α) (hx : l[j]? = some x) : (l.take (j + 1)).all f = ((l.take j).all f && f x) := by
  rw [List.take_add_one, hx]
  simp
theorem all_stop {α : Type} (f : α → Bool) (l : List α) (j : Nat) (x : α) (hx : l[j]? = some x) (h : f x = false) : l.all f = false := by
  have hm := List.mem_of_getElem? hx
  cases ha : l.all f
  · rfl
  · rw [List.all_eq_true] at ha
    rw [ha x hm] at h
    cases h

set_option maxHeartbeats 8000000 in
theorem index115r (H : Nat) (w : World) (B cb : Nat) (S : Kn) (h : Kw H w B S) (hc : w.cell? ⟨cb, 0, none⟩ = some (.pointer (some ⟨B, 0, none⟩))) (s : Sl) (l : List (Vt × Vc)) (hl : VsAt w s l) (hok : ∀ x ∈ l, VcOk x.2 ∧ Ky.ok ⟨x.1.f, x.1.e⟩) (ht : Tab w) :
    Calls Tryd.prog 115 #[.slice s.a s.n s.c, .func (.func 93) #[] #[.pointer (some ⟨cb, 0, none⟩)]] w fun e w' => ∃ r : Int, e = .returned (.int .i64 r) ∧ (castsB S l = true ∧ r = -1 ∨ castsB S l = false ∧ 0 ≤ r) ∧ Below w.heap.size w w' := by
  obtain ⟨hrow, heach⟩ := hl
  obtain ⟨sa, sc, hq, -, -, hlen, hrow⟩ := hrow
  injection hq with hq1 hq2 hq3
  rw [hq2]
  have C := Lib.hid (fun w' (h' : Below w.heap.size w w') x (hx : x ∈ l) => fill93 H w' B cb S (h.on h') ((h'.cell (cell_block hc)).trans hc) x.1 x.2 ((heach x hx).below h') (hok x hx).1 (Tab.on ht h') (hok x hx).2)
  have HROW := Lib.hid hrow
  obtain ⟨cs, hcs⟩ : ∃ cs, cs = castsB S l := ⟨_, rfl⟩
  rw [← hcs]
  have HCS := Lib.hid hcs
  clear h hc heach hok ht hrow hcs hq2 hq3
  obtain ⟨sa0, sn0, sc0⟩ := s
  simp only at hq1 ⊢
  subst hq1
  generalize hvn : l.length = vn at *
  have HVN := Lib.hid hvn
  clear hvn
  go_enter Tryd.func115, Tryd.ntmps115
  go_wp2_with fail
  go_loopw [8] (fun vi wr => ∃ j : Nat, j ≤ vn ∧ vi = .int .i64 j ∧ Hid ((l.take j).all (fun x => castB S x.1 x.2) = true) ∧ Hid (Below w.heap.size w wr)) (fun i _ => vn - (intOf i).toNat)
  case atStart => exact ⟨0, Nat.zero_le _, rfl, Lib.hid (by simp), Lib.hid (Below.refl _ _)⟩
  case round =>
    obtain ⟨j, hj, rfl, HALL, HBW⟩ := hrel
    by_cases hlt : j < vn
    · obtain ⟨x, hx⟩ : ∃ x, l[j]? = some x := ⟨_, List.getElem?_eq_getElem (by rw [HVN.out]; exact hlt)⟩
      obtain ⟨b, off, rfl, G0⟩ := HROW.out j x hx
      have G : ∀ i u, x.1.cells[i]? = some u → wr.cell? ⟨b, off + j * 7 + i, none⟩ = some u := fun i u hi => (HBW.out.cell (cell_block (G0 i u hi))).trans (G0 i u hi)
      have GL := Lib.hid (vt_load G)
      have CX := Lib.hid (C.out wr HBW.out x (List.mem_of_getElem? hx))
      have HX := Lib.hid hx
      have HAT := Lib.hid (all_take (fun x => castB S x.1 x.2) l j x hx)
      have HST := Lib.hid (all_stop (fun x => castB S x.1 x.2) l j x hx)
      clear hx G0 G
      generalize castB S x.1 x.2 = kb at *
      go_upto_region 4 with fail
      refine wp_region_lit ?_
      refine wpl_val (v := .func (.func 93) #[] #[.pointer (some ⟨cb, 0, none⟩)]) (w1 := wr) rfl (by go_simp) _ rfl ?_
      refine wpl_val (v := .slice (some ⟨b, off, none⟩) vn sc0) (w1 := wr) rfl (by go_simp) _ rfl ?_
      refine wpl_val (v := .int .i64 j) (w1 := wr) rfl (by go_simp) _ rfl ?_
      refine wpl_val (v := .pointer (some ⟨b, off + j * 7, none⟩)) (w1 := wr) rfl (by go_simp) _ rfl ?_
      refine wpl_val (v := .agg x.1.cells.toArray) (w1 := wr) rfl (exec_load 32 (.tmp 14) rfl rfl GL.out) _ rfl ?_
      generalize x.1.cells.toArray = A at *
      go_wp2_with fail
      refine Calls.mono CX.out ?_
      rintro e w1 ⟨rfl, hb⟩
      have HB := Lib.hid (HBW.out.trans (hb.mono HBW.out.size))
      clear hb CX
      cases kb
      · go_wp2_with fail
        go_ret
        exact ⟨_, rfl, .inr ⟨by rw [HCS.out]; exact HST.out (by first | rfl | trivial), by omega⟩, HB.out⟩
      · go_wp2_with fail
        go_round
        case rel => exact ⟨j + 1, by omega, by go_num, Lib.hid (by rw [HAT.out, HALL.out]; rfl), HB⟩
        case measure => simp [intOf]; omega
    · obtain rfl : j = vn := by omega
      go_wp2_with fail
      go_ret
      refine ⟨_, rfl, .inl ⟨?_, rfl⟩, HBW.out⟩
      have := HALL.out
      rw [← HVN.out, List.take_length] at this
      rw [HCS.out]
      exact this

set_option maxHeartbeats 4000000 in
theorem contains92r (H : Nat) (w : World) (B cb : Nat) (S : Kn) (h : Kw H w B S) (hc : w.cell? ⟨cb, 0, none⟩ = some (.pointer (some ⟨B, 0, none⟩))) (s : Sl) (l : List (Vt × Vc)) (hl : VsAt w s l) (hok : ∀ x ∈ l, VcOk x.2 ∧ Ky.ok ⟨x.1.f, x.1.e⟩) (ht : Tab w) :
    Calls Tryd.prog 92 #[.slice s.a s.n s.c, .func (.func 93) #[] #[.pointer (some ⟨cb, 0, none⟩)]] w fun e w' => e = .returned (.bool (!castsB S l)) ∧ Below w.heap.size w w' := by
  have C := Lib.hid (index115r H w B cb S h hc s l hl hok ht)
  generalize castsB S l = cs at *
  clear h hc hl hok ht
  go_enter Tryd.func92, Tryd.ntmps92
  go_wp2_with fail
  refine Calls.mono C.out ?_
  rintro e w1 ⟨r, rfl, hr, hb⟩
  have HB := Lib.hid hb
  clear hb C
  rcases hr with ⟨rfl, rfl⟩ | ⟨rfl, hr⟩
  · go_wp2_with fail
    go_ret
    exact ⟨rfl, HB.out⟩
  · go_wp2_with fail
    go_ret
    exact ⟨rfl, HB.out⟩

set_option maxHeartbeats 4000000 in
theorem canFill61r (H : Nat) (w : World) (B : Nat) (S : Kn) (h : Kw H w B S) (m : Mg) (l : List (Vt × Vc)) (hl : VsAt w m.vs l) (hn : NoEn (vsOf m (l.map (·.1)))) (hok : ∀ x ∈ l, VcOk x.2 ∧ Ky.ok ⟨x.1.f, x.1.e⟩) (ht : Tab w) (hk : m.rq.ok) : Calls Tryd.prog 61 #[.pointer (some ⟨B, 0, none⟩), .agg m.cells.toArray] w fun e w' => e = .returned (.bool (knowsB S m.rq && castsB S l)) ∧ Below w.heap.size w w' := by
  obtain ⟨W0, hW0⟩ : ∃ W0, W0 = w.alloc (.cells #[.pointer (some ⟨B, 0, none⟩)] 55) := ⟨_, rfl⟩
  have hbl0 : Below w.heap.size w W0 := by rw [hW0]; exact (Below.refl _ _).alloc (Nat.le_refl _) _
  have hs0 : W0.heap.size = w.heap.size + 1 := by rw [hW0]; simp
  have hc0 : W0.cell? ⟨w.heap.size, 0, none⟩ = some (.pointer (some ⟨B, 0, none⟩)) := by rw [hW0]; simp
  obtain ⟨W, hW⟩ : ∃ W, W = W0.alloc (.cells m.cells.toArray 37) := ⟨_, rfl⟩
  have hbl : Below W0.heap.size W0 W := by rw [hW]; exact (Below.refl _ _).alloc (Nat.le_refl _) _
  have hbx : W.heap[W0.heap.size]? = some (.cells m.cells.toArray 37 (0, 0)) := by rw [hW]; exact heap_alloc_new _ _
  have HBX := Lib.hid hbx
  have hup := hbl0.trans (hbl.mono hbl0.size)
  have HC := Lib.hid (fun w' (h' : Below W.heap.size W w') => (h'.cell (cell_block ((hbl.cell (cell_block hc0)).trans hc0))).trans ((hbl.cell (cell_block hc0)).trans hc0))
  have CR := Lib.hid (requestsOf56r W m (l.map (·.1)) (row_fst (hl.below hup).1) hn)
  have CN := Lib.hid (fun w' g (h' : Below W.heap.size W w') (hg : w'.heap[g]? = some (.cells m.rq.cells.toArray 27 (0, 0))) => contains90 H w' B w.heap.size g S ((h.on hup).on h') (HC.out w' h') m.rq hk hg)
  have hmf : ∀ (fn : Fn) (first cap : Array Value) (w : World), (Instr.makeFunc fn first cap).run Tryd.prog w = .ok (.func fn first cap) w := fun _ _ _ _ => rfl
  have QV := Lib.hid (fun (w' : World) (h' : w'.heap[W0.heap.size]? = some (.cells m.cells.toArray 37 (0, 0))) => show w'.cell? ⟨w.heap.size + 1, 22, none⟩ = some (.slice m.vs.a m.vs.n m.vs.c) from by rw [← hs0]; exact cell_box h' 22)
  have CW := Lib.hid (fun w' (h' : Below W.heap.size W w') => contains92r H w' B w.heap.size S ((h.on hup).on h') (HC.out w' h') m.vs l ((hl.below hup).below h') hok (Tab.on (Tab.on ht hup) h'))
  generalize knowsB S m.rq = kb at *
  generalize castsB S l = cb at *
  have HUP := Lib.hid hup
  have HS0 := Lib.hid hs0
  have HW0 := Lib.hid hW0
  rw [hW0] at hW
  have HW := Lib.hid hW
  rw [hs0] at HBX
  rw [hs0] at QV
  clear hW0 hbl0 hs0 hc0 hW hbl hbx hup h hl hn hok ht
  simp only [Mg.cells] at HW ⊢
  go_enter Tryd.func61, Tryd.ntmps61
  go_upto_region 1 with fail
  rw [← HW.out]
  have eA : (#[.int .u8 m.k, .int .u8 m.f, .int .u8 m.t, .int .u8 m.e, .int .u32 m.vw, .int .u32 m.sq, .int .u8 m.rq.c, .int .u32 m.rq.t, .int .u8 m.rq.k, .int .u8 m.rq.y, .int .u16 m.rq.v, .int .u64 m.ro, .int .u8 m.ct, .int .u8 m.pg, .int .u32 m.rs, .int .u8 m.vt.f, .int .u8 m.vt.e, .int .u32 m.vt.vw, .int .u32 m.vt.lo, .slice m.vt.ms.a m.vt.ms.n m.vt.ms.c, .slice m.vt.p.a m.vt.p.n m.vt.p.c, .slice m.vt.q.a m.vt.q.n m.vt.q.c, .slice m.vs.a m.vs.n m.vs.c, .slice m.sm.a m.sm.n m.sm.c, .slice m.dt.a m.dt.n m.dt.c] : Array Value) = m.cells.toArray := rfl
  rw [eA]
  clear eA HW
  have HSZ := Lib.hid (show m.cells.toArray.size = 25 from rfl)
  generalize m.cells.toArray = A at *
  refine wp_region_lit ?_
  refine wpList_load_row rfl 37 (.tmp 3) rfl (w.heap.size + 1) rfl 37 _ (0, 0) _ HBX.out Tryd.underlying37 rfl (by rw [HSZ.out]; exact size37) ?_
  go_wp2_with fail
  refine Calls.mono CR.out ?_
  rintro e w1 ⟨g, rfl, hg, -, hb1⟩
  have B1 := Lib.hid hb1
  have CN1 := Lib.hid (CN.out w1 g hb1 hg)
  have HBX1 := Lib.hid ((hb1.block _ (lt_of_block HBX.out)).trans HBX.out)
  clear hb1 hg
  go_wp2_with fail
  refine Calls.mono CN1.out ?_
  rintro e w2 ⟨rfl, hb2⟩
  have B2 := Lib.hid (Below.up B1.out hb2)
  have qv := QV.out w2 ((hb2.block _ (lt_of_block HBX1.out)).trans HBX1.out)
  clear hb2
  cases kb
  · go_wp2_with fail
    go_ret
    exact ⟨rfl, HUP.out.trans (B2.out.mono HUP.out.size)⟩
  · go_wp2_with fail
    refine Calls.mono (CW.out _ B2.out) ?_
    rintro e w3 ⟨rfl, hb3⟩
    have B3 := Lib.hid (Below.up B2.out hb3)
    clear hb3
    cases cb
    · go_wp2_with fail
      go_ret
      exact ⟨rfl, HUP.out.trans (B3.out.mono HUP.out.size)⟩
    · go_wp2_with fail
      go_ret
      exact ⟨rfl, HUP.out.trans (B3.out.mono HUP.out.size)⟩
end Go.Proofs.YtigpfaecbmnklaaDoor
