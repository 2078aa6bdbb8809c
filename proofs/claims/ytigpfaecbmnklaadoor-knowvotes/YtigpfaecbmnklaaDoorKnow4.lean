/- Who can sign; the requests within a message; whether all it carries is known. -/
import Derived.Test.YtigpfaecbmnklaaDoorKnow3
namespace Go.Proofs.YtigpfaecbmnklaaDoor
open Go.RowKit Go.Maps
set_option maxRecDepth 100000

def signB (S : Kn) (m : Mg) : Bool := decide (m.k ≠ 8) && (decide (m.k ≠ 9) && memB ⟨m.f, m.e⟩ S.k)

set_option maxHeartbeats 4000000 in
theorem canSign60 (H : Nat) (w : World) (B : Nat) (S : Kn) (h : Kw H w B S) (m : Mg) (hk : Ky.ok ⟨m.f, m.e⟩) : Calls Tryd.prog 60 #[.pointer (some ⟨B, 0, none⟩), .agg m.cells.toArray] w fun e w' => e = .returned (.bool (signB S m)) ∧ Below w.heap.size w w' := by
  obtain ⟨W, hW⟩ : ∃ W, W = w.alloc (.cells m.cells.toArray 37) := ⟨_, rfl⟩
  have hbl : Below w.heap.size w W := by rw [hW]; exact (Below.refl _ _).alloc (Nat.le_refl _) _
  have hbx : W.heap[w.heap.size]? = some (.cells m.cells.toArray 37 (0, 0)) := by rw [hW]; exact heap_alloc_new _ _
  have C := Lib.hid (has51 H W B S (h.on hbl) ⟨m.f, m.e⟩ hk)
  have q0 : W.cell? ⟨w.heap.size, 0, none⟩ = some (.int .u8 m.k) := cell_box hbx 0
  have q1 : W.cell? ⟨w.heap.size, 1, none⟩ = some (.int .u8 m.f) := cell_box hbx 1
  have q3 : W.cell? ⟨w.heap.size, 3, none⟩ = some (.int .u8 m.e) := cell_box hbx 3
  obtain ⟨r, hr⟩ : ∃ r, r = signB S m := ⟨_, rfl⟩
  rw [← hr]
  unfold signB at hr
  generalize memB (⟨m.f, m.e⟩ : Ky) S.k = hb0 at *
  have HR := Lib.hid hr
  have HBL := Lib.hid hbl
  have HW := Lib.hid hW
  simp only [Ky.cells] at C
  clear hW hbx hbl h hr
  simp only [Mg.cells] at HW ⊢
  go_enter Tryd.func60, Tryd.ntmps60
  go_upto_region 1 with fail
  rw [← HW.out]
  have eA : (#[.int .u8 m.k, .int .u8 m.f, .int .u8 m.t, .int .u8 m.e, .int .u32 m.vw, .int .u32 m.sq, .int .u8 m.rq.c, .int .u32 m.rq.t, .int .u8 m.rq.k, .int .u8 m.rq.y, .int .u16 m.rq.v, .int .u64 m.ro, .int .u8 m.ct, .int .u8 m.pg, .int .u32 m.rs, .int .u8 m.vt.f, .int .u8 m.vt.e, .int .u32 m.vt.vw, .int .u32 m.vt.lo, .slice m.vt.ms.a m.vt.ms.n m.vt.ms.c, .slice m.vt.p.a m.vt.p.n m.vt.p.c, .slice m.vt.q.a m.vt.q.n m.vt.q.c, .slice m.vs.a m.vs.n m.vs.c, .slice m.sm.a m.sm.n m.sm.c, .slice m.dt.a m.dt.n m.dt.c] : Array Value) = m.cells.toArray := rfl
  rw [eA]
  clear eA HW
  generalize m.cells.toArray = A at *
  by_cases h8 : m.k = 8
  · have H8 := Lib.hid h8
    go_wp2_with fail
    go_ret
    exact ⟨by rw [HR.out]; simp [H8.out], HBL.out⟩
  · by_cases h9 : m.k = 9
    · have H9 := Lib.hid h9
      go_wp2_with fail
      go_ret
      exact ⟨by rw [HR.out]; simp [H9.out], HBL.out⟩
    · have H8 := Lib.hid h8
      have H9 := Lib.hid h9
      go_wp2_with fail
      refine Calls.mono C.out ?_
      rintro e w1 ⟨rfl, hb⟩
      have HB := Lib.hid (HBL.out.trans (hb.mono HBL.out.size))
      clear hb
      go_wp2_with fail
      go_ret
      exact ⟨by rw [HR.out]; simp [H8.out, H9.out], HB.out⟩

set_option maxHeartbeats 4000000 in
theorem votesOf54 (w : World) (m : Mg) (h6 : m.k ≠ 6) (hvs : m.vs = ⟨none, 0, 0⟩) : Calls Tryd.prog 54 #[.agg m.cells.toArray] w fun e w' => e = .returned (.slice none 0 0) ∧ Below w.heap.size w w' := by
  obtain ⟨W, hW⟩ : ∃ W, W = w.alloc (.cells m.cells.toArray 37) := ⟨_, rfl⟩
  have hbl : Below w.heap.size w W := by rw [hW]; exact (Below.refl _ _).alloc (Nat.le_refl _) _
  have hbx : W.heap[w.heap.size]? = some (.cells m.cells.toArray 37 (0, 0)) := by rw [hW]; exact heap_alloc_new _ _
  have q0 : W.cell? ⟨w.heap.size, 0, none⟩ = some (.int .u8 m.k) := cell_box hbx 0
  have q22 : W.cell? ⟨w.heap.size, 22, none⟩ = some (.slice none 0 0) := (cell_box hbx 22).trans (by rw [show m.cells[22]? = some (.slice m.vs.a m.vs.n m.vs.c) from rfl, hvs])
  have HBL := Lib.hid hbl
  have HW := Lib.hid hW
  clear hW hbx hbl hvs
  simp only [Mg.cells] at HW ⊢
  go_enter Tryd.func54, Tryd.ntmps54
  go_upto_region 1 with fail
  rw [← HW.out]
  have eA : (#[.int .u8 m.k, .int .u8 m.f, .int .u8 m.t, .int .u8 m.e, .int .u32 m.vw, .int .u32 m.sq, .int .u8 m.rq.c, .int .u32 m.rq.t, .int .u8 m.rq.k, .int .u8 m.rq.y, .int .u16 m.rq.v, .int .u64 m.ro, .int .u8 m.ct, .int .u8 m.pg, .int .u32 m.rs, .int .u8 m.vt.f, .int .u8 m.vt.e, .int .u32 m.vt.vw, .int .u32 m.vt.lo, .slice m.vt.ms.a m.vt.ms.n m.vt.ms.c, .slice m.vt.p.a m.vt.p.n m.vt.p.c, .slice m.vt.q.a m.vt.q.n m.vt.q.c, .slice m.vs.a m.vs.n m.vs.c, .slice m.sm.a m.sm.n m.sm.c, .slice m.dt.a m.dt.n m.dt.c] : Array Value) = m.cells.toArray := rfl
  rw [eA]
  clear eA HW
  generalize m.cells.toArray = A at *
  go_wp2_with fail
  go_ret
  exact ⟨rfl, HBL.out⟩

set_option maxHeartbeats 4000000 in
theorem requestsOf56 (w : World) (m : Mg) (h6 : m.k ≠ 6) (hvs : m.vs = ⟨none, 0, 0⟩) : Calls Tryd.prog 56 #[.agg m.cells.toArray] w fun e w' => ∃ g, e = .returned (.slice (some ⟨g, 0, none⟩) 1 1) ∧ w'.heap[g]? = some (.cells m.rq.cells.toArray 27 (0, 0)) ∧ w.heap.size ≤ g ∧ Below w.heap.size w w' := by
  obtain ⟨W, hW⟩ : ∃ W, W = w.alloc (.cells m.cells.toArray 37) := ⟨_, rfl⟩
  have hbl : Below w.heap.size w W := by rw [hW]; exact (Below.refl _ _).alloc (Nat.le_refl _) _
  have hbx : W.heap[w.heap.size]? = some (.cells m.cells.toArray 37 (0, 0)) := by rw [hW]; exact heap_alloc_new _ _
  have q6 : W.cell? ⟨w.heap.size, 6, none⟩ = some (.int .u8 m.rq.c) := cell_box hbx 6
  have q7 : W.cell? ⟨w.heap.size, 7, none⟩ = some (.int .u32 m.rq.t) := cell_box hbx 7
  have q8 : W.cell? ⟨w.heap.size, 8, none⟩ = some (.int .u8 m.rq.k) := cell_box hbx 8
  have q9 : W.cell? ⟨w.heap.size, 9, none⟩ = some (.int .u8 m.rq.y) := cell_box hbx 9
  have q10 : W.cell? ⟨w.heap.size, 10, none⟩ = some (.int .u16 m.rq.v) := cell_box hbx 10
  obtain ⟨W2, hW2⟩ : ∃ W2, W2 = W.alloc (.cells m.rq.cells.toArray 27) := ⟨_, rfl⟩
  have hb2 : Below W.heap.size W W2 := by rw [hW2]; exact (Below.refl _ _).alloc (Nat.le_refl _) _
  have hR : W2.heap[W.heap.size]? = some (.cells m.rq.cells.toArray 27 (0, 0)) := by rw [hW2]; exact heap_alloc_new _ _
  have HBX2 := Lib.hid ((hb2.block _ (lt_of_block hbx)).trans hbx)
  have CV := Lib.hid (votesOf54 W2 m h6 hvs)
  have HRR := Lib.hid hR
  have HB2 := Lib.hid (hbl.trans (hb2.mono hbl.size))
  have HLE := Lib.hid (show w.heap.size ≤ W.heap.size from hbl.size)
  have HW := Lib.hid hW
  have HW2 := Lib.hid hW2
  simp only [Rq.cells] at HW2
  clear hW hbx hbl hW2 hb2 hR hvs h6
  simp only [Mg.cells] at HW ⊢
  go_enter Tryd.func56, Tryd.ntmps56
  go_upto_region 1 with fail
  rw [← HW.out]
  have eA : (#[.int .u8 m.k, .int .u8 m.f, .int .u8 m.t, .int .u8 m.e, .int .u32 m.vw, .int .u32 m.sq, .int .u8 m.rq.c, .int .u32 m.rq.t, .int .u8 m.rq.k, .int .u8 m.rq.y, .int .u16 m.rq.v, .int .u64 m.ro, .int .u8 m.ct, .int .u8 m.pg, .int .u32 m.rs, .int .u8 m.vt.f, .int .u8 m.vt.e, .int .u32 m.vt.vw, .int .u32 m.vt.lo, .slice m.vt.ms.a m.vt.ms.n m.vt.ms.c, .slice m.vt.p.a m.vt.p.n m.vt.p.c, .slice m.vt.q.a m.vt.q.n m.vt.q.c, .slice m.vs.a m.vs.n m.vs.c, .slice m.sm.a m.sm.n m.sm.c, .slice m.dt.a m.dt.n m.dt.c] : Array Value) = m.cells.toArray := rfl
  rw [eA]
  clear eA HW
  have HSZ := Lib.hid (show m.cells.toArray.size = 25 from rfl)
  generalize m.cells.toArray = A at *
  go_upto_region 2 with fail
  rw [← HW2.out]
  clear HW2
  refine wp_region_lit ?_
  refine wpList_load_row rfl 37 (.tmp 1) rfl w.heap.size rfl 37 _ (0, 0) _ HBX2.out Tryd.underlying37 rfl (by rw [HSZ.out]; exact size37) ?_
  go_wp2_with fail
  refine Calls.mono CV.out ?_
  rintro e w1 ⟨rfl, hb⟩
  have HR3 := Lib.hid ((hb.block _ (lt_of_block HRR.out)).trans HRR.out)
  have HB3 := Lib.hid (HB2.out.trans (hb.mono HB2.out.size))
  clear hb
  go_wp2_with fail
  go_loopw [3, 14] (fun v3 vi wr => v3 = .slice (some ⟨W.heap.size, 0, none⟩) 1 1 ∧ vi = .int .i64 0 ∧ wr = w1) (fun _ _ _ => 1)
  case atStart => exact ⟨rfl, rfl, rfl⟩
  case round =>
    obtain ⟨rfl, rfl, rfl⟩ := hrel
    go_wp2_with fail
    go_ret
    exact ⟨W.heap.size, rfl, HR3.out, HLE.out, HB3.out⟩

set_option maxHeartbeats 4000000 in
theorem fill91 (H : Nat) (w : World) (B c : Nat) (S : Kn) (h : Kw H w B S) (hc : w.cell? ⟨c, 0, none⟩ = some (.pointer (some ⟨B, 0, none⟩))) (k : Rq) (hk : k.ok) : Calls Tryd.prog 91 #[.agg k.cells.toArray, .pointer (some ⟨c, 0, none⟩)] w fun e w' => e = .returned (.bool (!knowsB S k)) ∧ Below w.heap.size w w' := by
  obtain ⟨W, hW⟩ : ∃ W, W = w.alloc (.cells k.cells.toArray 27) := ⟨_, rfl⟩
  have hbl : Below w.heap.size w W := by rw [hW]; exact (Below.refl _ _).alloc (Nat.le_refl _) _
  have hn : W.heap[w.heap.size]? = some (.cells k.cells.toArray 27 (0, 0)) := by rw [hW]; exact heap_alloc_new _ _
  have qc := (hbl.cell (cell_block hc)).trans hc
  have q0 : W.cell? ⟨w.heap.size, 0, none⟩ = some (.int .u8 k.c) := by rw [cell_of_row _ _ _ _ _ _ hn]; rfl
  have q1 : W.cell? ⟨w.heap.size, 1, none⟩ = some (.int .u32 k.t) := by rw [cell_of_row _ _ _ _ _ _ hn]; rfl
  have q2 : W.cell? ⟨w.heap.size, 2, none⟩ = some (.int .u8 k.k) := by rw [cell_of_row _ _ _ _ _ _ hn]; rfl
  have q3 : W.cell? ⟨w.heap.size, 3, none⟩ = some (.int .u8 k.y) := by rw [cell_of_row _ _ _ _ _ _ hn]; rfl
  have q4 : W.cell? ⟨w.heap.size, 4, none⟩ = some (.int .u16 k.v) := by rw [cell_of_row _ _ _ _ _ _ hn]; rfl
  have C := Lib.hid (knows21 H W B S (h.on hbl) k hk)
  generalize knowsB S k = kb at *
  have HBL := Lib.hid hbl
  have HW := Lib.hid hW
  simp only [Rq.cells] at HW C ⊢
  clear hW hn hbl h hc
  go_enter Tryd.func91, Tryd.ntmps91
  go_upto_region 1 with fail
  rw [← HW.out]
  clear HW
  go_wp2_with fail
  refine Calls.mono C.out ?_
  rintro e w1 ⟨rfl, hb⟩
  have HB := Lib.hid (HBL.out.trans (hb.mono HBL.out.size))
  clear hb
  go_wp2_with fail
  go_ret
  exact ⟨rfl, HB.out⟩

set_option maxHeartbeats 4000000 in
theorem index114 (H : Nat) (w : World) (B c g : Nat) (S : Kn) (h : Kw H w B S) (hc : w.cell? ⟨c, 0, none⟩ = some (.pointer (some ⟨B, 0, none⟩))) (k : Rq) (hk : k.ok) (hg : w.heap[g]? = some (.cells k.cells.toArray 27 (0, 0))) : Calls Tryd.prog 114 #[.slice (some ⟨g, 0, none⟩) 1 1, .func (.func 91) #[] #[.pointer (some ⟨c, 0, none⟩)]] w fun e w' => e = .returned (.int .i64 (if knowsB S k then -1 else 0)) ∧ Below w.heap.size w w' := by
  have C := Lib.hid (fill91 H w B c S h hc k hk)
  have q0 : w.cell? ⟨g, 0, none⟩ = some (.int .u8 k.c) := by rw [cell_of_row _ _ _ _ _ _ hg]; rfl
  have q1 : w.cell? ⟨g, 1, none⟩ = some (.int .u32 k.t) := by rw [cell_of_row _ _ _ _ _ _ hg]; rfl
  have q2 : w.cell? ⟨g, 2, none⟩ = some (.int .u8 k.k) := by rw [cell_of_row _ _ _ _ _ _ hg]; rfl
  have q3 : w.cell? ⟨g, 3, none⟩ = some (.int .u8 k.y) := by rw [cell_of_row _ _ _ _ _ _ hg]; rfl
  have q4 : w.cell? ⟨g, 4, none⟩ = some (.int .u16 k.v) := by rw [cell_of_row _ _ _ _ _ _ hg]; rfl
  generalize knowsB S k = kb at *
  simp only [Rq.cells] at C
  clear h hc hg
  go_enter Tryd.func114, Tryd.ntmps114
  go_wp2_with fail
  go_loopw [8] (fun vi wr => (vi = .int .i64 0 ∧ wr = w) ∨ (vi = .int .i64 1 ∧ kb = true ∧ Hid (Below w.heap.size w wr))) (fun i _ => 1 - (intOf i).toNat)
  case atStart => exact .inl ⟨rfl, rfl⟩
  case round =>
    rcases hrel with ⟨rfl, rfl⟩ | ⟨rfl, rfl, HB⟩
    · go_wp2_with fail
      refine Calls.mono C.out ?_
      rintro e w1 ⟨rfl, hb⟩
      have HB := Lib.hid hb
      clear hb
      cases kb
      · go_wp2_with fail
        go_ret
        exact ⟨by first | rfl | trivial | simp, HB.out⟩
      · go_wp2_with fail
        go_round
        case measure => simp [intOf]
        case rel => exact .inr ⟨rfl, by first | rfl | trivial, HB⟩
    · go_wp2_with fail
      go_ret
      exact ⟨by first | rfl | trivial | simp, HB.out⟩

set_option maxHeartbeats 4000000 in
theorem contains90 (H : Nat) (w : World) (B c g : Nat) (S : Kn) (h : Kw H w B S) (hc : w.cell? ⟨c, 0, none⟩ = some (.pointer (some ⟨B, 0, none⟩))) (k : Rq) (hk : k.ok) (hg : w.heap[g]? = some (.cells k.cells.toArray 27 (0, 0))) : Calls Tryd.prog 90 #[.slice (some ⟨g, 0, none⟩) 1 1, .func (.func 91) #[] #[.pointer (some ⟨c, 0, none⟩)]] w fun e w' => e = .returned (.bool (!knowsB S k)) ∧ Below w.heap.size w w' := by
  have C := Lib.hid (index114 H w B c g S h hc k hk hg)
  generalize knowsB S k = kb at *
  clear h hc hg
  cases kb
  · go_enter Tryd.func90, Tryd.ntmps90
    go_wp2_with fail
    refine Calls.mono C.out ?_
    rintro e w1 ⟨rfl, hb⟩
    have HB := Lib.hid hb
    clear hb
    go_wp2_with fail
    go_ret
    exact ⟨rfl, HB.out⟩
  · go_enter Tryd.func90, Tryd.ntmps90
    go_wp2_with fail
    refine Calls.mono C.out ?_
    rintro e w1 ⟨rfl, hb⟩
    have HB := Lib.hid hb
    clear hb
    go_wp2_with fail
    go_ret
    exact ⟨rfl, HB.out⟩

set_option maxHeartbeats 4000000 in
theorem contains92n (w : World) (fv : Fn) (cap : Array Value) : Calls Tryd.prog 92 #[.slice none 0 0, .func fv #[] cap] w fun e w' => e = .returned (.bool false) ∧ w' = w := by
  have C : Hid (Calls Tryd.prog 115 #[.slice none 0 0, .func fv #[] cap] w fun e w' => e = .returned (.int .i64 (-1)) ∧ w' = w) := by
    refine Lib.hid ?_
    go_enter Tryd.func115, Tryd.ntmps115
    go_wp2_with fail
    go_loopw [8] (fun vi wr => vi = .int .i64 0 ∧ wr = w) (fun _ _ => 1)
    case atStart => exact ⟨rfl, rfl⟩
    case round =>
      obtain ⟨rfl, rfl⟩ := hrel
      go_wp2_with fail
      go_ret
      exact ⟨rfl, rfl⟩
  go_enter Tryd.func92, Tryd.ntmps92
  go_wp2_with fail
  refine Calls.mono C.out ?_
  rintro e w1 ⟨rfl, rfl⟩
  go_wp2_with fail
  go_ret
  exact ⟨rfl, rfl⟩

set_option maxHeartbeats 4000000 in
theorem canFill61 (H : Nat) (w : World) (B : Nat) (S : Kn) (h : Kw H w B S) (m : Mg) (h6 : m.k ≠ 6) (hvs : m.vs = ⟨none, 0, 0⟩) (hk : m.rq.ok) : Calls Tryd.prog 61 #[.pointer (some ⟨B, 0, none⟩), .agg m.cells.toArray] w fun e w' => e = .returned (.bool (knowsB S m.rq)) ∧ Below w.heap.size w w' := by
  obtain ⟨W0, hW0⟩ : ∃ W0, W0 = w.alloc (.cells #[.pointer (some ⟨B, 0, none⟩)] 55) := ⟨_, rfl⟩
  have hbl0 : Below w.heap.size w W0 := by rw [hW0]; exact (Below.refl _ _).alloc (Nat.le_refl _) _
  have hs0 : W0.heap.size = w.heap.size + 1 := by rw [hW0]; simp
  have hc0 : W0.cell? ⟨w.heap.size, 0, none⟩ = some (.pointer (some ⟨B, 0, none⟩)) := by rw [hW0]; simp
  obtain ⟨W, hW⟩ : ∃ W, W = W0.alloc (.cells m.cells.toArray 37) := ⟨_, rfl⟩
  have hbl : Below W0.heap.size W0 W := by rw [hW]; exact (Below.refl _ _).alloc (Nat.le_refl _) _
  have hbx : W.heap[W0.heap.size]? = some (.cells m.cells.toArray 37 (0, 0)) := by rw [hW]; exact heap_alloc_new _ _
  have HBX := Lib.hid hbx
  have hup := hbl0.trans (hbl.mono hbl0.size)
  have HC := Lib.hid (fun w' (h' : Below W.heap.size W w') => (h'.cell (cell_block ((hbl.cell (cell_block hc0)).trans hc0))).trans ((hbl.cell (cell_block hc0)).trans hc0))
  have CR := Lib.hid (requestsOf56 W m h6 hvs)
  have CN := Lib.hid (fun w' g (h' : Below W.heap.size W w') (hg : w'.heap[g]? = some (.cells m.rq.cells.toArray 27 (0, 0))) => contains90 H w' B w.heap.size g S ((h.on hup).on h') (HC.out w' h') m.rq hk hg)
  have hmf : ∀ (fn : Fn) (first cap : Array Value) (w : World), (Instr.makeFunc fn first cap).run Tryd.prog w = .ok (.func fn first cap) w := fun _ _ _ _ => rfl
  have QV := Lib.hid (fun (w' : World) (h' : w'.heap[W0.heap.size]? = some (.cells m.cells.toArray 37 (0, 0))) => show w'.cell? ⟨w.heap.size + 1, 22, none⟩ = some (.slice none 0 0) from by rw [← hs0]; exact (cell_box h' 22).trans (by rw [show m.cells[22]? = some (.slice m.vs.a m.vs.n m.vs.c) from rfl, hvs]))
  generalize knowsB S m.rq = kb at *
  have HUP := Lib.hid hup
  have HS0 := Lib.hid hs0
  have HW0 := Lib.hid hW0
  rw [hW0] at hW
  have HW := Lib.hid hW
  rw [hs0] at HBX
  rw [hs0] at QV
  clear hW0 hbl0 hs0 hc0 hW hbl hbx hup h h6 hvs
  simp only [Mg.cells] at HW ⊢
  go_enter Tryd.func61, Tryd.ntmps61
  go_upto_region 1 with fail
  rw [← HW.out]
  have eA : (#[.int .u8 m.k, .int .u8 m.f, .int .u8 m.t, .int .u8 m.e, .int .u32 m.vw, .int .u32 m.sq, .int .u8 m.rq.c, .int .u32 m.rq.t, .int .u8 m.rq.k, .int .u8 m.rq.y, .int .u16 m.rq.v, .int .u64 m.ro, .int .u8 m.ct, .int .u8 m.pg, .int .u32 m.rs, .int .u8 m.vt.f, .int .u8 m.vt.e, .int .u32 m.vt.vw, .int .u32 m.vt.lo, .slice m.vt.ms.a m.vt.ms.n m.vt.ms.c, .slice m.vt.p.a m.vt.p.n m.vt.p.c, .slice m.vt.q.a m.vt.q.n m.vt.q.c, .slice m.vs.a m.vs.n m.vs.c, .slice m.sm.a m.sm.n m.sm.c, .slice m.dt.a m.dt.n m.dt.c] : Array Value) = m.cells.toArray := rfl
  rw [eA]
  clear eA HW
  have HSZ := Lib.hid (show m.cells.toArray.size = 25 from rfl)
  generalize m.cells.toArray = A at *
  refine wp_region_lit ?_
  refine wpList_load_row rfl 37 (.tmp 3) rfl (w.heap.size + 1) rfl 37 _ (0, 0) _ HBX.out Tryd.underlying37 rfl (by rw [HSZ.out]; exact size37) ?_
  go_wp2_with fail
  refine Calls.mono CR.out ?_
  rintro e w1 ⟨g, rfl, hg, -, hb1⟩
  have B1 := Lib.hid hb1
  have CN1 := Lib.hid (CN.out w1 g hb1 hg)
  have HBX1 := Lib.hid ((hb1.block _ (lt_of_block HBX.out)).trans HBX.out)
  clear hb1 hg
  go_wp2_with fail
  refine Calls.mono CN1.out ?_
  rintro e w2 ⟨rfl, hb2⟩
  have B2 := Lib.hid (Below.up B1.out hb2)
  have qv := QV.out w2 ((hb2.block _ (lt_of_block HBX1.out)).trans HBX1.out)
  clear hb2
  cases kb
  · go_wp2_with fail
    go_ret
    exact ⟨rfl, HUP.out.trans (B2.out.mono HUP.out.size)⟩
  · go_wp2_with fail
    refine Calls.mono (contains92n _ _ _) ?_
    rintro e w3 ⟨rfl, rfl⟩
    go_wp2_with fail
    go_ret
    exact ⟨rfl, HUP.out.trans (B2.out.mono HUP.out.size)⟩
end Go.Proofs.YtigpfaecbmnklaaDoor
