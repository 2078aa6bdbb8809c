/- What is left of a message when all is struck but its head and the given parts. -/
import Derived.Test.YtmkeckablkccnaaDoorSame
import Derived.Deep.MidRow
import Derived.Deep.Cut
namespace Go.Proofs.YtmkeckablkccnaaDoor
open Go.RowKit
set_option maxRecDepth 100000

def Sl.nil : Sl := ⟨none, 0, 0⟩
def Vt.zero : Vt := ⟨0, 0, 0, 0, ⟨none, 0, 0⟩, ⟨none, 0, 0⟩, ⟨none, 0, 0⟩⟩
/-- the head alone -/
def Mg.head (m : Mg) : Mg := { k := m.k, f := m.f, t := m.t, e := m.e, vw := 0, sq := 0, rq := Rq.zero, ro := 0, ct := 0, pg := 0, rs := 0, vt := Vt.zero, vs := ⟨none, 0, 0⟩, sm := ⟨none, 0, 0⟩, dt := ⟨none, 0, 0⟩ }
def Mg.step (m x : Mg) (p : Int) : Mg :=
  if p = 0 then { x with vw := m.vw } else if p = 1 then { x with sq := m.sq } else if p = 2 then { x with rq := m.rq } else if p = 3 then { x with ro := m.ro } else if p = 4 then { x with ct := m.ct }
  else if p = 5 then { x with pg := m.pg } else if p = 6 then { x with rs := m.rs } else if p = 7 then { x with vt := m.vt } else if p = 8 then { x with vs := m.vs } else if p = 9 then { x with sm := m.sm } else { x with dt := m.dt }
def Mg.bare (m : Mg) (ps : List Int) : Mg := ps.foldl m.step m.head

theorem partsOf_le (k : Int) : ∀ p ∈ partsOf k, 0 ≤ p ∧ p ≤ 10 := by
  intro p hp
  by_cases h1 : k = 1
  · subst h1; simp [partsOf] at hp; omega
  by_cases h2 : k = 2
  · subst h2; simp [partsOf] at hp; omega
  by_cases h3 : k = 3
  · subst h3; simp [partsOf] at hp; omega
  by_cases h4 : k = 4
  · subst h4; simp [partsOf] at hp; omega
  by_cases h5 : k = 5
  · subst h5; simp [partsOf] at hp; omega
  by_cases h6 : k = 6
  · subst h6; simp [partsOf] at hp; omega
  by_cases h7 : k = 7
  · subst h7; simp [partsOf] at hp; omega
  by_cases h8 : k = 8
  · subst h8; simp [partsOf] at hp; omega
  by_cases h9 : k = 9
  · subst h9; simp [partsOf] at hp; omega
  by_cases h10 : k = 10
  · subst h10; simp [partsOf] at hp; omega
  by_cases h11 : k = 11
  · subst h11; simp [partsOf] at hp; omega
  by_cases h12 : k = 12
  · subst h12; simp [partsOf] at hp; omega
  by_cases h13 : k = 13
  · subst h13; simp [partsOf] at hp; omega
  by_cases h14 : k = 14
  · subst h14; simp [partsOf] at hp; omega
  · simp [partsOf, h1, h2, h3, h4, h5, h6, h7, h8, h9, h10, h11, h12, h13, h14] at hp

def Vz : List Value := [.int .u8 0, .int .u8 0, .int .u8 0, .int .u8 0, .int .u32 0, .int .u32 0, .int .u8 0, .int .u32 0, .int .u8 0, .int .u8 0, .int .u16 0, .int .u64 0, .int .u8 0, .int .u8 0, .int .u32 0, .int .u8 0, .int .u8 0, .int .u32 0, .int .u32 0, .slice none 0 0, .slice none 0 0, .slice none 0 0, .slice none 0 0, .slice none 0 0, .slice none 0 0]

/-- the three blocks of 'bare': what came in, what goes out, what is made -/
structure Mem (w wr : World) (g : Nat) (m : Mg) (X : Array Value) : Prop where
  box : wr.heap[g]? = some (.cells m.cells.toArray 37 (0, 0))
  res : wr.heap[g + 1]? = some (.cells Vz.toArray 37 (0, 0))
  made : wr.heap[g + 1 + 1]? = some (.cells X 37 (0, 0))
  bel : Below g w wr
  hg : g = w.heap.size

theorem Mem.set {w wr : World} {g : Nat} {m : Mg} {X : Array Value} (h : Mem w wr g m X) (i : Nat) (v : Value) : Mem w (wr.setCell ⟨g + 1 + 1, i, none⟩ v) g m (X.setIfInBounds i v) := by
  have hr := h.res
  refine ⟨?_, ?_, ?_, ?_, h.hg⟩
  · rw [heap_setCell_other _ _ _ _ (by simp; omega)]; exact h.box
  · rw [heap_setCell_other _ _ _ _ (by simp)]; exact hr
  · rw [heap_setCell_same _ _ _ _ _ _ h.made]
  · exact h.bel.trans ⟨rfl, rfl, rfl, by simp, fun k hk => heap_setCell_other _ _ _ _ (by simp; omega)⟩

theorem Mem.cell {w wr : World} {g : Nat} {m : Mg} {X : Array Value} (h : Mem w wr g m X) (i : Nat) : wr.cell? ⟨g, i, none⟩ = m.cells[i]? := cell_box h.box i
theorem Mem.there {w wr : World} {g : Nat} {m : Mg} {X : Array Value} (h : Mem w wr g m X) (i : Nat) : wr.cell? ⟨g + 1 + 1, i, none⟩ = X[i]? := cell_of_row _ _ i _ _ _ h.made
theorem Mem.free {w wr : World} {g : Nat} {m : Mg} {X : Array Value} (h : Mem w wr g m X) (i : Nat) : wr.frozen? ⟨g + 1 + 1, i, none⟩ = false := frozen_of_row _ _ i _ _ h.made

theorem Mg.one (m : Mg) : ∀ v ∈ m.cells, v.oneCell' = true := by
  intro v hv
  simp only [Mg.cells, List.mem_cons, List.not_mem_nil, or_false] at hv
  rcases hv with rfl | rfl | rfl | rfl | rfl | rfl | rfl | rfl | rfl | rfl | rfl | rfl | rfl | rfl | rfl | rfl | rfl | rfl | rfl | rfl | rfl | rfl | rfl | rfl | rfl <;> rfl

theorem setCells_kept (b : Nat) : ∀ (vs : List Value) (o : Nat) (w : World) (k : Nat), k ≠ b → (w.setCells b o vs).heap[k]? = w.heap[k]? ∧ (w.setCells b o vs).heap.size = w.heap.size ∧ (w.setCells b o vs).os = w.os ∧ (w.setCells b o vs).tape = w.tape ∧ (w.setCells b o vs).output = w.output
  | [], _, _, _, _ => ⟨rfl, rfl, rfl, rfl, rfl⟩
  | v :: r, o, w, k, h => by
    obtain ⟨h1, h2, h3, h4, h5⟩ := setCells_kept b r (o + 1) (w.setCell ⟨b, o, none⟩ v) k h
    simp only [World.setCells]
    refine ⟨h1.trans (heap_setCell_other _ _ _ _ h), h2.trans (by simp), h3, h4, h5⟩

/-- cells laid over a block from o on -/
def over (Z : Array Value) (o : Nat) : List Value → Array Value
  | [] => Z
  | v :: r => over (Z.setIfInBounds o v) (o + 1) r

theorem setCells_block (b : Nat) (t : TypeId) : ∀ (vs : List Value) (o : Nat) (w : World) (Z : Array Value), w.heap[b]? = some (.cells Z t (0, 0)) → (w.setCells b o vs).heap[b]? = some (.cells (over Z o vs) t (0, 0))
  | [], _, _, _, h => h
  | v :: r, o, w, Z, h => setCells_block b t r (o + 1) (w.setCell ⟨b, o, none⟩ v) (Z.setIfInBounds o v) (by rw [heap_setCell_same _ _ _ _ _ _ h])

theorem over_zero (m : Mg) : over Vz.toArray 0 m.cells = m.cells.toArray := by
  simp only [over, Vz, Mg.cells, List.setIfInBounds_toArray, List.set_cons_zero, List.set_cons_succ, Nat.zero_add, Nat.reduceAdd]

theorem wpl_val {P : Program} {ops : Array Oper} {Q : Exit → Act → World → Prop} {o : Oper} {rest : List Oper} {a : Act} {w w1 : World} {v : Value} (hgd : o.guard = none) (h : (execOp a.eval o).run P w = .ok (.value v) w1) (a' : Act) (ha : a.put o.dst v = a')
    (k : wpList P ops Q rest a' w1) : wpList P ops Q (o :: rest) a w :=
  wpList_plain hgd fun K hK => by subst ha; unfold Oper.wp; rw [h]; exact hK _ _ k

theorem size37 : (Tryd.prog.info? 37).map (·.size) = some 25 := by kernel_rfl

set_option maxHeartbeats 16000000 in
theorem bare_any (w : World) (m : Mg) (ao : Option Addr) (ps : List Int) (cap : Nat) (hb : Bytes w ao ps) (hn : ps.length ≤ 100) (hp : ∀ p ∈ ps, 0 ≤ p ∧ p ≤ 10) :
    Calls Tryd.prog 45 #[.agg m.cells.toArray, .slice ao ps.length cap] w fun e w' => e = .returned (.agg (m.bare ps).cells.toArray) ∧ Below w.heap.size w w' := by
  have HB := Lib.hid hb
  have HP := Lib.hid hp
  obtain ⟨B, hB⟩ : ∃ B, B = m.bare ps := ⟨_, rfl⟩
  rw [← hB]
  have HBB := Lib.hid hB
  obtain ⟨W, hW⟩ : ∃ W, W = (w.alloc (.cells m.cells.toArray 37)).alloc (.cells Vz.toArray 37) := ⟨_, rfl⟩
  have hWs : W.heap.size = w.heap.size + 1 + 1 := by rw [hW]; simp
  have hbx : W.heap[w.heap.size]? = some (.cells m.cells.toArray 37 (0, 0)) := by rw [hW]; exact heap_alloc2_old _ _ _
  have hrs : W.heap[w.heap.size + 1]? = some (.cells Vz.toArray 37 (0, 0)) := by rw [hW]; exact heap_alloc2_new _ _ _
  have hbl : Below w.heap.size w W := by rw [hW]; exact ((Below.refl _ _).alloc (Nat.le_refl _) _).alloc (by simp) _
  have q0 : W.cell? ⟨w.heap.size, 0, none⟩ = some (.int .u8 m.k) := cell_box hbx 0
  have q1 : W.cell? ⟨w.heap.size, 1, none⟩ = some (.int .u8 m.f) := cell_box hbx 1
  have q2 : W.cell? ⟨w.heap.size, 2, none⟩ = some (.int .u8 m.t) := cell_box hbx 2
  have q3 : W.cell? ⟨w.heap.size, 3, none⟩ = some (.int .u8 m.e) := cell_box hbx 3
  obtain ⟨V, hV⟩ : ∃ V, V = W.alloc (.cells Vz.toArray 37) := ⟨_, rfl⟩
  have hVn : V.heap[w.heap.size + 1 + 1]? = some (.cells Vz.toArray 37 (0, 0)) := by rw [hV, ← hWs]; exact heap_alloc_new _ _
  have hkk := fun k (h : k ≠ w.heap.size + 1 + 1) => setCells_kept (w.heap.size + 1 + 1) m.head.cells 0 V k h
  have hVk : ∀ k, k < w.heap.size + 1 + 1 → V.heap[k]? = W.heap[k]? := fun k hk => by rw [hV]; exact heap_alloc_old _ _ (by omega)
  obtain ⟨U, hU⟩ : ∃ U, U = V.setCells (w.heap.size + 1 + 1) 0 m.head.cells := ⟨_, rfl⟩
  have M0 : Mem w U w.heap.size m m.head.cells.toArray := by
    refine ⟨?_, ?_, ?_, ?_, rfl⟩
    · rw [hU, (hkk _ (by omega)).1, hVk _ (by omega)]; exact hbx
    · rw [hU, (hkk _ (by omega)).1, hVk _ (by omega)]; exact hrs
    · rw [hU, setCells_block _ 37 _ _ _ _ hVn, over_zero]
    · refine hbl.trans ⟨?_, ?_, ?_, ?_, fun k hk => ?_⟩
      · rw [hU, (hkk 0 (by omega)).2.2.1, hV]; rfl
      · rw [hU, (hkk 0 (by omega)).2.2.2.1, hV]; rfl
      · rw [hU, (hkk 0 (by omega)).2.2.2.2, hV]; rfl
      · rw [hU, (hkk 0 (by omega)).2.1, hV]; simp
      · rw [hU, (hkk k (by omega)).1, hVk k (by omega)]
  have hth : V.there (w.heap.size + 1 + 1) 0 25 := fun i hi => by
    refine ⟨?_, frozen_of_row _ _ _ _ _ hVn⟩
    rw [cell_of_row _ _ _ _ _ _ hVn]; simp [Vz]; omega
  have hwl : w.heap.size + 1 + 1 = W.heap.size := hWs.symm
  have HM0 := Lib.hid M0
  have HTH := Lib.hid hth
  have HW := Lib.hid hW
  have HV := Lib.hid hV
  have HU := Lib.hid hU
  have HWL := Lib.hid hwl
  clear hB hb hp M0 hW hWs hbx hrs hbl hVn hkk hVk hU hth hV hwl
  generalize hm : ps.length = n at *
  have HM := Lib.hid hm
  clear hm
  simp only [Mg.cells, Vz] at HW ⊢
  go_enter Tryd.func45, Tryd.ntmps45
  go_upto_region 1 with fail
  rw [← HW.out]
  have eA : (#[.int .u8 m.k, .int .u8 m.f, .int .u8 m.t, .int .u8 m.e, .int .u32 m.vw, .int .u32 m.sq, .int .u8 m.rq.c, .int .u32 m.rq.t, .int .u8 m.rq.k, .int .u8 m.rq.y, .int .u16 m.rq.v, .int .u64 m.ro, .int .u8 m.ct, .int .u8 m.pg, .int .u32 m.rs, .int .u8 m.vt.f, .int .u8 m.vt.e, .int .u32 m.vt.vw, .int .u32 m.vt.lo, .slice m.vt.ms.a m.vt.ms.n m.vt.ms.c, .slice m.vt.p.a m.vt.p.n m.vt.p.c, .slice m.vt.q.a m.vt.q.n m.vt.q.c, .slice m.vs.a m.vs.n m.vs.c, .slice m.sm.a m.sm.n m.sm.c, .slice m.dt.a m.dt.n m.dt.c] : Array Value) = m.cells.toArray := rfl
  rw [eA]
  clear eA HW
  generalize m.cells.toArray = A
  refine wp_region_lit ?_
  refine wpl_val (v := .pointer (some ⟨w.heap.size, 0, none⟩)) (w1 := W) rfl (by go_simp) ({ tmps := #[.agg A, .slice ao n cap, .pointer (some ⟨w.heap.size, 0, none⟩), undef, .pointer (some ⟨w.heap.size + 1, 0, none⟩), undef, undef, undef, .pointer (some ⟨w.heap.size, 0, none⟩), undef, undef, undef, undef, undef, undef, undef, undef, undef, undef, undef, undef, undef, undef, undef, undef, undef, undef, undef, undef, undef, undef, undef, undef, undef, undef, undef, undef, undef, undef, undef, undef, undef, undef, undef, undef, undef, undef, undef, undef, undef, undef, undef, undef, undef, undef, undef, undef, undef, undef, undef, undef, undef, undef, undef, undef, undef, undef, undef, undef, undef, undef, undef, undef, undef, undef, undef, undef, undef, undef, undef, undef], defers := [] }) rfl ?_
  refine wpl_val (v := .int .u8 m.k) (w1 := W) rfl (by go_simp) ({ tmps := #[.agg A, .slice ao n cap, .pointer (some ⟨w.heap.size, 0, none⟩), undef, .pointer (some ⟨w.heap.size + 1, 0, none⟩), undef, undef, undef, .pointer (some ⟨w.heap.size, 0, none⟩), .int .u8 m.k, undef, undef, undef, undef, undef, undef, undef, undef, undef, undef, undef, undef, undef, undef, undef, undef, undef, undef, undef, undef, undef, undef, undef, undef, undef, undef, undef, undef, undef, undef, undef, undef, undef, undef, undef, undef, undef, undef, undef, undef, undef, undef, undef, undef, undef, undef, undef, undef, undef, undef, undef, undef, undef, undef, undef, undef, undef, undef, undef, undef, undef, undef, undef, undef, undef, undef, undef, undef, undef, undef, undef], defers := [] }) rfl ?_
  refine wpl_val (v := .pointer (some ⟨w.heap.size, 1, none⟩)) (w1 := W) rfl (by go_simp) ({ tmps := #[.agg A, .slice ao n cap, .pointer (some ⟨w.heap.size, 0, none⟩), undef, .pointer (some ⟨w.heap.size + 1, 0, none⟩), undef, undef, undef, .pointer (some ⟨w.heap.size, 0, none⟩), .int .u8 m.k, .pointer (some ⟨w.heap.size, 1, none⟩), undef, undef, undef, undef, undef, undef, undef, undef, undef, undef, undef, undef, undef, undef, undef, undef, undef, undef, undef, undef, undef, undef, undef, undef, undef, undef, undef, undef, undef, undef, undef, undef, undef, undef, undef, undef, undef, undef, undef, undef, undef, undef, undef, undef, undef, undef, undef, undef, undef, undef, undef, undef, undef, undef, undef, undef, undef, undef, undef, undef, undef, undef, undef, undef, undef, undef, undef, undef, undef, undef], defers := [] }) rfl ?_
  refine wpl_val (v := .int .u8 m.f) (w1 := W) rfl (by go_simp) ({ tmps := #[.agg A, .slice ao n cap, .pointer (some ⟨w.heap.size, 0, none⟩), undef, .pointer (some ⟨w.heap.size + 1, 0, none⟩), undef, undef, undef, .pointer (some ⟨w.heap.size, 0, none⟩), .int .u8 m.k, .pointer (some ⟨w.heap.size, 1, none⟩), .int .u8 m.f, undef, undef, undef, undef, undef, undef, undef, undef, undef, undef, undef, undef, undef, undef, undef, undef, undef, undef, undef, undef, undef, undef, undef, undef, undef, undef, undef, undef, undef, undef, undef, undef, undef, undef, undef, undef, undef, undef, undef, undef, undef, undef, undef, undef, undef, undef, undef, undef, undef, undef, undef, undef, undef, undef, undef, undef, undef, undef, undef, undef, undef, undef, undef, undef, undef, undef, undef, undef, undef], defers := [] }) rfl ?_
  refine wpl_val (v := .pointer (some ⟨w.heap.size, 2, none⟩)) (w1 := W) rfl (by go_simp) ({ tmps := #[.agg A, .slice ao n cap, .pointer (some ⟨w.heap.size, 0, none⟩), undef, .pointer (some ⟨w.heap.size + 1, 0, none⟩), undef, undef, undef, .pointer (some ⟨w.heap.size, 0, none⟩), .int .u8 m.k, .pointer (some ⟨w.heap.size, 1, none⟩), .int .u8 m.f, .pointer (some ⟨w.heap.size, 2, none⟩), undef, undef, undef, undef, undef, undef, undef, undef, undef, undef, undef, undef, undef, undef, undef, undef, undef, undef, undef, undef, undef, undef, undef, undef, undef, undef, undef, undef, undef, undef, undef, undef, undef, undef, undef, undef, undef, undef, undef, undef, undef, undef, undef, undef, undef, undef, undef, undef, undef, undef, undef, undef, undef, undef, undef, undef, undef, undef, undef, undef, undef, undef, undef, undef, undef, undef, undef, undef], defers := [] }) rfl ?_
  refine wpl_val (v := .int .u8 m.t) (w1 := W) rfl (by go_simp) ({ tmps := #[.agg A, .slice ao n cap, .pointer (some ⟨w.heap.size, 0, none⟩), undef, .pointer (some ⟨w.heap.size + 1, 0, none⟩), undef, undef, undef, .pointer (some ⟨w.heap.size, 0, none⟩), .int .u8 m.k, .pointer (some ⟨w.heap.size, 1, none⟩), .int .u8 m.f, .pointer (some ⟨w.heap.size, 2, none⟩), .int .u8 m.t, undef, undef, undef, undef, undef, undef, undef, undef, undef, undef, undef, undef, undef, undef, undef, undef, undef, undef, undef, undef, undef, undef, undef, undef, undef, undef, undef, undef, undef, undef, undef, undef, undef, undef, undef, undef, undef, undef, undef, undef, undef, undef, undef, undef, undef, undef, undef, undef, undef, undef, undef, undef, undef, undef, undef, undef, undef, undef, undef, undef, undef, undef, undef, undef, undef, undef, undef], defers := [] }) rfl ?_
  refine wpl_val (v := .pointer (some ⟨w.heap.size, 3, none⟩)) (w1 := W) rfl (by go_simp) ({ tmps := #[.agg A, .slice ao n cap, .pointer (some ⟨w.heap.size, 0, none⟩), undef, .pointer (some ⟨w.heap.size + 1, 0, none⟩), undef, undef, undef, .pointer (some ⟨w.heap.size, 0, none⟩), .int .u8 m.k, .pointer (some ⟨w.heap.size, 1, none⟩), .int .u8 m.f, .pointer (some ⟨w.heap.size, 2, none⟩), .int .u8 m.t, .pointer (some ⟨w.heap.size, 3, none⟩), undef, undef, undef, undef, undef, undef, undef, undef, undef, undef, undef, undef, undef, undef, undef, undef, undef, undef, undef, undef, undef, undef, undef, undef, undef, undef, undef, undef, undef, undef, undef, undef, undef, undef, undef, undef, undef, undef, undef, undef, undef, undef, undef, undef, undef, undef, undef, undef, undef, undef, undef, undef, undef, undef, undef, undef, undef, undef, undef, undef, undef, undef, undef, undef, undef, undef], defers := [] }) rfl ?_
  refine wpl_val (v := .int .u8 m.e) (w1 := W) rfl (by go_simp) ({ tmps := #[.agg A, .slice ao n cap, .pointer (some ⟨w.heap.size, 0, none⟩), undef, .pointer (some ⟨w.heap.size + 1, 0, none⟩), undef, undef, undef, .pointer (some ⟨w.heap.size, 0, none⟩), .int .u8 m.k, .pointer (some ⟨w.heap.size, 1, none⟩), .int .u8 m.f, .pointer (some ⟨w.heap.size, 2, none⟩), .int .u8 m.t, .pointer (some ⟨w.heap.size, 3, none⟩), .int .u8 m.e, undef, undef, undef, undef, undef, undef, undef, undef, undef, undef, undef, undef, undef, undef, undef, undef, undef, undef, undef, undef, undef, undef, undef, undef, undef, undef, undef, undef, undef, undef, undef, undef, undef, undef, undef, undef, undef, undef, undef, undef, undef, undef, undef, undef, undef, undef, undef, undef, undef, undef, undef, undef, undef, undef, undef, undef, undef, undef, undef, undef, undef, undef, undef, undef, undef], defers := [] }) rfl ?_
  refine wpl_val (v := .agg m.head.cells.toArray) (w1 := W) rfl (by simp only [Mg.head, Mg.cells, Rq.zero, Vt.zero]; go_simp) ({ tmps := #[.agg A, .slice ao n cap, .pointer (some ⟨w.heap.size, 0, none⟩), undef, .pointer (some ⟨w.heap.size + 1, 0, none⟩), undef, undef, undef, .pointer (some ⟨w.heap.size, 0, none⟩), .int .u8 m.k, .pointer (some ⟨w.heap.size, 1, none⟩), .int .u8 m.f, .pointer (some ⟨w.heap.size, 2, none⟩), .int .u8 m.t, .pointer (some ⟨w.heap.size, 3, none⟩), .int .u8 m.e, .agg m.head.cells.toArray, undef, undef, undef, undef, undef, undef, undef, undef, undef, undef, undef, undef, undef, undef, undef, undef, undef, undef, undef, undef, undef, undef, undef, undef, undef, undef, undef, undef, undef, undef, undef, undef, undef, undef, undef, undef, undef, undef, undef, undef, undef, undef, undef, undef, undef, undef, undef, undef, undef, undef, undef, undef, undef, undef, undef, undef, undef, undef, undef, undef, undef, undef, undef, undef], defers := [] }) rfl ?_
  refine wpl_val (v := .pointer (some ⟨w.heap.size + 1 + 1, 0, none⟩)) (w1 := V) rfl (by have e := HV.out; simp only [Vz] at e; rw [HWL.out, e]; go_simp) ({ tmps := #[.agg A, .slice ao n cap, .pointer (some ⟨w.heap.size, 0, none⟩), undef, .pointer (some ⟨w.heap.size + 1, 0, none⟩), .pointer (some ⟨w.heap.size + 1 + 1, 0, none⟩), undef, undef, .pointer (some ⟨w.heap.size, 0, none⟩), .int .u8 m.k, .pointer (some ⟨w.heap.size, 1, none⟩), .int .u8 m.f, .pointer (some ⟨w.heap.size, 2, none⟩), .int .u8 m.t, .pointer (some ⟨w.heap.size, 3, none⟩), .int .u8 m.e, .agg m.head.cells.toArray, undef, undef, undef, undef, undef, undef, undef, undef, undef, undef, undef, undef, undef, undef, undef, undef, undef, undef, undef, undef, undef, undef, undef, undef, undef, undef, undef, undef, undef, undef, undef, undef, undef, undef, undef, undef, undef, undef, undef, undef, undef, undef, undef, undef, undef, undef, undef, undef, undef, undef, undef, undef, undef, undef, undef, undef, undef, undef, undef, undef, undef, undef, undef, undef], defers := [] }) rfl ?_
  refine wpList_store_mid rfl 37 (.tmp 5) (.tmp 16) rfl (w.heap.size + 1 + 1) 0 m.head.cells.toArray rfl rfl HTH.out size37 (all_oneCell_toArray m.head.one) ?_
  dsimp only
  rw [← HU.out]
  clear HTH HV HWL HU q0 q1 q2 q3
  generalize m.head.cells.toArray = A2
  go_wp2_with fail
  generalize hg : w.heap.size = g at *
  go_loopw [19] (fun vi wr => ∃ (j : Nat) (x : Mg), j ≤ n ∧ vi = .int .i64 j ∧ Hid (Mem w wr g m x.cells.toArray) ∧ Hid (x = (ps.take j).foldl m.step m.head)) (fun i _ => n - (intOf i).toNat)
  case atStart => exact ⟨0, m.head, by omega, rfl, HM0, Lib.hid rfl⟩
  case round =>
    obtain ⟨j, x, hj, rfl, HMm, HX⟩ := hrel
    by_cases hlt : j < n
    · obtain ⟨ad, rfl, hc⟩ := HB.out j (by rw [HM.out]; exact hlt)
      obtain ⟨p, hpd⟩ : ∃ p, p = ps.getD j 0 := ⟨_, rfl⟩
      rw [← hpd] at hc
      have hmem : p ∈ ps := by rw [hpd, List.getD_eq_getElem?_getD, List.getElem?_eq_getElem (by rw [HM.out]; exact hlt)]; simp
      have hp := HP.out p hmem
      have hs : ps.take (j + 1) = ps.take j ++ [p] := by
        rw [List.take_add_one, hpd, List.getD_eq_getElem?_getD, List.getElem?_eq_getElem (by rw [HM.out]; exact hlt)]; rfl
      have hnext : (ps.take (j + 1)).foldl m.step m.head = m.step x p := by rw [hs, List.foldl_append, HX.out]; rfl
      have HNX := Lib.hid hnext
      have hcc : wr.cell? (ad.add j) = some (.int .u8 p) := (HMm.out.bel.cell (by rw [← hg]; exact cell_block hc)).trans hc
      clear hpd hmem hs hnext hc
      have hcase : p = 0 ∨ p = 1 ∨ p = 2 ∨ p = 3 ∨ p = 4 ∨ p = 5 ∨ p = 6 ∨ p = 7 ∨ p = 8 ∨ p = 9 ∨ p = 10 := by omega
      rcases hcase with rfl | rfl | rfl | rfl | rfl | rfl | rfl | rfl | rfl | rfl | rfl
      · skip
        have q4 : wr.cell? ⟨g, 4, none⟩ = some (.int .u32 m.vw) := HMm.out.cell 4
        have c4 : wr.cell? ⟨g + 1 + 1, 4, none⟩ = some (.int .u32 x.vw) := HMm.out.there 4
        have f4 : wr.frozen? ⟨g + 1 + 1, 4, none⟩ = false := HMm.out.free 4
        go_wp2_with fail
        go_round
        case measure => simp [intOf]; omega
        case rel => exact ⟨j + 1, { x with vw := m.vw }, by omega, by go_num, Lib.hid (HMm.out.set 4 (.int .u32 m.vw)), Lib.hid HNX.out.symm⟩
      · skip
        have q5 : wr.cell? ⟨g, 5, none⟩ = some (.int .u32 m.sq) := HMm.out.cell 5
        have c5 : wr.cell? ⟨g + 1 + 1, 5, none⟩ = some (.int .u32 x.sq) := HMm.out.there 5
        have f5 : wr.frozen? ⟨g + 1 + 1, 5, none⟩ = false := HMm.out.free 5
        go_wp2_with fail
        go_round
        case measure => simp [intOf]; omega
        case rel => exact ⟨j + 1, { x with sq := m.sq }, by omega, by go_num, Lib.hid (HMm.out.set 5 (.int .u32 m.sq)), Lib.hid HNX.out.symm⟩
      · skip
        have q6 : wr.cell? ⟨g, 6, none⟩ = some (.int .u8 m.rq.c) := HMm.out.cell 6
        have c6 : wr.cell? ⟨g + 1 + 1, 6, none⟩ = some (.int .u8 x.rq.c) := HMm.out.there 6
        have f6 : wr.frozen? ⟨g + 1 + 1, 6, none⟩ = false := HMm.out.free 6
        have q7 : wr.cell? ⟨g, 7, none⟩ = some (.int .u32 m.rq.t) := HMm.out.cell 7
        have c7 : wr.cell? ⟨g + 1 + 1, 7, none⟩ = some (.int .u32 x.rq.t) := HMm.out.there 7
        have f7 : wr.frozen? ⟨g + 1 + 1, 7, none⟩ = false := HMm.out.free 7
        have q8 : wr.cell? ⟨g, 8, none⟩ = some (.int .u8 m.rq.k) := HMm.out.cell 8
        have c8 : wr.cell? ⟨g + 1 + 1, 8, none⟩ = some (.int .u8 x.rq.k) := HMm.out.there 8
        have f8 : wr.frozen? ⟨g + 1 + 1, 8, none⟩ = false := HMm.out.free 8
        have q9 : wr.cell? ⟨g, 9, none⟩ = some (.int .u8 m.rq.y) := HMm.out.cell 9
        have c9 : wr.cell? ⟨g + 1 + 1, 9, none⟩ = some (.int .u8 x.rq.y) := HMm.out.there 9
        have f9 : wr.frozen? ⟨g + 1 + 1, 9, none⟩ = false := HMm.out.free 9
        have q10 : wr.cell? ⟨g, 10, none⟩ = some (.int .u16 m.rq.v) := HMm.out.cell 10
        have c10 : wr.cell? ⟨g + 1 + 1, 10, none⟩ = some (.int .u16 x.rq.v) := HMm.out.there 10
        have f10 : wr.frozen? ⟨g + 1 + 1, 10, none⟩ = false := HMm.out.free 10
        go_wp2_with fail
        go_round
        case measure => simp [intOf]; omega
        case rel => exact ⟨j + 1, { x with rq := m.rq }, by omega, by go_num, Lib.hid (((((HMm.out.set 6 (.int .u8 m.rq.c)).set 7 (.int .u32 m.rq.t)).set 8 (.int .u8 m.rq.k)).set 9 (.int .u8 m.rq.y)).set 10 (.int .u16 m.rq.v)), Lib.hid HNX.out.symm⟩
      · skip
        have q11 : wr.cell? ⟨g, 11, none⟩ = some (.int .u64 m.ro) := HMm.out.cell 11
        have c11 : wr.cell? ⟨g + 1 + 1, 11, none⟩ = some (.int .u64 x.ro) := HMm.out.there 11
        have f11 : wr.frozen? ⟨g + 1 + 1, 11, none⟩ = false := HMm.out.free 11
        go_wp2_with fail
        go_round
        case measure => simp [intOf]; omega
        case rel => exact ⟨j + 1, { x with ro := m.ro }, by omega, by go_num, Lib.hid (HMm.out.set 11 (.int .u64 m.ro)), Lib.hid HNX.out.symm⟩
      · skip
        have q12 : wr.cell? ⟨g, 12, none⟩ = some (.int .u8 m.ct) := HMm.out.cell 12
        have c12 : wr.cell? ⟨g + 1 + 1, 12, none⟩ = some (.int .u8 x.ct) := HMm.out.there 12
        have f12 : wr.frozen? ⟨g + 1 + 1, 12, none⟩ = false := HMm.out.free 12
        go_wp2_with fail
        go_round
        case measure => simp [intOf]; omega
        case rel => exact ⟨j + 1, { x with ct := m.ct }, by omega, by go_num, Lib.hid (HMm.out.set 12 (.int .u8 m.ct)), Lib.hid HNX.out.symm⟩
      · skip
        have q13 : wr.cell? ⟨g, 13, none⟩ = some (.int .u8 m.pg) := HMm.out.cell 13
        have c13 : wr.cell? ⟨g + 1 + 1, 13, none⟩ = some (.int .u8 x.pg) := HMm.out.there 13
        have f13 : wr.frozen? ⟨g + 1 + 1, 13, none⟩ = false := HMm.out.free 13
        go_wp2_with fail
        go_round
        case measure => simp [intOf]; omega
        case rel => exact ⟨j + 1, { x with pg := m.pg }, by omega, by go_num, Lib.hid (HMm.out.set 13 (.int .u8 m.pg)), Lib.hid HNX.out.symm⟩
      · skip
        have q14 : wr.cell? ⟨g, 14, none⟩ = some (.int .u32 m.rs) := HMm.out.cell 14
        have c14 : wr.cell? ⟨g + 1 + 1, 14, none⟩ = some (.int .u32 x.rs) := HMm.out.there 14
        have f14 : wr.frozen? ⟨g + 1 + 1, 14, none⟩ = false := HMm.out.free 14
        go_wp2_with fail
        go_round
        case measure => simp [intOf]; omega
        case rel => exact ⟨j + 1, { x with rs := m.rs }, by omega, by go_num, Lib.hid (HMm.out.set 14 (.int .u32 m.rs)), Lib.hid HNX.out.symm⟩
      · skip
        have q15 : wr.cell? ⟨g, 15, none⟩ = some (.int .u8 m.vt.f) := HMm.out.cell 15
        have c15 : wr.cell? ⟨g + 1 + 1, 15, none⟩ = some (.int .u8 x.vt.f) := HMm.out.there 15
        have f15 : wr.frozen? ⟨g + 1 + 1, 15, none⟩ = false := HMm.out.free 15
        have q16 : wr.cell? ⟨g, 16, none⟩ = some (.int .u8 m.vt.e) := HMm.out.cell 16
        have c16 : wr.cell? ⟨g + 1 + 1, 16, none⟩ = some (.int .u8 x.vt.e) := HMm.out.there 16
        have f16 : wr.frozen? ⟨g + 1 + 1, 16, none⟩ = false := HMm.out.free 16
        have q17 : wr.cell? ⟨g, 17, none⟩ = some (.int .u32 m.vt.vw) := HMm.out.cell 17
        have c17 : wr.cell? ⟨g + 1 + 1, 17, none⟩ = some (.int .u32 x.vt.vw) := HMm.out.there 17
        have f17 : wr.frozen? ⟨g + 1 + 1, 17, none⟩ = false := HMm.out.free 17
        have q18 : wr.cell? ⟨g, 18, none⟩ = some (.int .u32 m.vt.lo) := HMm.out.cell 18
        have c18 : wr.cell? ⟨g + 1 + 1, 18, none⟩ = some (.int .u32 x.vt.lo) := HMm.out.there 18
        have f18 : wr.frozen? ⟨g + 1 + 1, 18, none⟩ = false := HMm.out.free 18
        have q19 : wr.cell? ⟨g, 19, none⟩ = some (.slice m.vt.ms.a m.vt.ms.n m.vt.ms.c) := HMm.out.cell 19
        have c19 : wr.cell? ⟨g + 1 + 1, 19, none⟩ = some (.slice x.vt.ms.a x.vt.ms.n x.vt.ms.c) := HMm.out.there 19
        have f19 : wr.frozen? ⟨g + 1 + 1, 19, none⟩ = false := HMm.out.free 19
        have q20 : wr.cell? ⟨g, 20, none⟩ = some (.slice m.vt.p.a m.vt.p.n m.vt.p.c) := HMm.out.cell 20
        have c20 : wr.cell? ⟨g + 1 + 1, 20, none⟩ = some (.slice x.vt.p.a x.vt.p.n x.vt.p.c) := HMm.out.there 20
        have f20 : wr.frozen? ⟨g + 1 + 1, 20, none⟩ = false := HMm.out.free 20
        have q21 : wr.cell? ⟨g, 21, none⟩ = some (.slice m.vt.q.a m.vt.q.n m.vt.q.c) := HMm.out.cell 21
        have c21 : wr.cell? ⟨g + 1 + 1, 21, none⟩ = some (.slice x.vt.q.a x.vt.q.n x.vt.q.c) := HMm.out.there 21
        have f21 : wr.frozen? ⟨g + 1 + 1, 21, none⟩ = false := HMm.out.free 21
        go_wp2_with fail
        go_round
        case measure => simp [intOf]; omega
        case rel => exact ⟨j + 1, { x with vt := m.vt }, by omega, by go_num, Lib.hid (((((((HMm.out.set 15 (.int .u8 m.vt.f)).set 16 (.int .u8 m.vt.e)).set 17 (.int .u32 m.vt.vw)).set 18 (.int .u32 m.vt.lo)).set 19 (.slice m.vt.ms.a m.vt.ms.n m.vt.ms.c)).set 20 (.slice m.vt.p.a m.vt.p.n m.vt.p.c)).set 21 (.slice m.vt.q.a m.vt.q.n m.vt.q.c)), Lib.hid HNX.out.symm⟩
      · skip
        have q22 : wr.cell? ⟨g, 22, none⟩ = some (.slice m.vs.a m.vs.n m.vs.c) := HMm.out.cell 22
        have c22 : wr.cell? ⟨g + 1 + 1, 22, none⟩ = some (.slice x.vs.a x.vs.n x.vs.c) := HMm.out.there 22
        have f22 : wr.frozen? ⟨g + 1 + 1, 22, none⟩ = false := HMm.out.free 22
        go_wp2_with fail
        go_round
        case measure => simp [intOf]; omega
        case rel => exact ⟨j + 1, { x with vs := m.vs }, by omega, by go_num, Lib.hid (HMm.out.set 22 (.slice m.vs.a m.vs.n m.vs.c)), Lib.hid HNX.out.symm⟩
      · skip
        have q23 : wr.cell? ⟨g, 23, none⟩ = some (.slice m.sm.a m.sm.n m.sm.c) := HMm.out.cell 23
        have c23 : wr.cell? ⟨g + 1 + 1, 23, none⟩ = some (.slice x.sm.a x.sm.n x.sm.c) := HMm.out.there 23
        have f23 : wr.frozen? ⟨g + 1 + 1, 23, none⟩ = false := HMm.out.free 23
        go_wp2_with fail
        go_round
        case measure => simp [intOf]; omega
        case rel => exact ⟨j + 1, { x with sm := m.sm }, by omega, by go_num, Lib.hid (HMm.out.set 23 (.slice m.sm.a m.sm.n m.sm.c)), Lib.hid HNX.out.symm⟩
      · skip
        have q24 : wr.cell? ⟨g, 24, none⟩ = some (.slice m.dt.a m.dt.n m.dt.c) := HMm.out.cell 24
        have c24 : wr.cell? ⟨g + 1 + 1, 24, none⟩ = some (.slice x.dt.a x.dt.n x.dt.c) := HMm.out.there 24
        have f24 : wr.frozen? ⟨g + 1 + 1, 24, none⟩ = false := HMm.out.free 24
        go_wp2_with fail
        go_round
        case measure => simp [intOf]; omega
        case rel => exact ⟨j + 1, { x with dt := m.dt }, by omega, by go_num, Lib.hid (HMm.out.set 24 (.slice m.dt.a m.dt.n m.dt.c)), Lib.hid HNX.out.symm⟩
    · obtain rfl : j = n := by omega
      have hx : x = B := by rw [HX.out, HBB.out, Mg.bare, List.take_of_length_le (by rw [HM.out]; exact Nat.le_refl _)]
      subst hx
      have hr := HMm.out.res
      have hth : wr.there (g + 1) 0 25 := fun i hi => by
        refine ⟨?_, frozen_of_row _ _ _ _ _ hr⟩
        rw [cell_of_row _ _ _ _ _ _ hr]; simp [Vz]; omega
      have HT := Lib.hid hth
      have HMade := Lib.hid HMm.out.made
      obtain ⟨w2, hw2⟩ : ∃ w2, w2 = wr.setCells (g + 1) 0 x.cells := ⟨_, rfl⟩
      have hk := fun k (h : k ≠ g + 1) => setCells_kept (g + 1) x.cells 0 wr k h
      have hbel : Below g w w2 := HMm.out.bel.trans (by rw [hw2]; exact ⟨(hk g (by omega)).2.2.1, (hk g (by omega)).2.2.2.1, (hk g (by omega)).2.2.2.2, by rw [(hk g (by omega)).2.1]; exact Nat.le_refl _, fun k h => (hk k (by omega)).1⟩)
      have hblk : w2.heap[g + 1]? = some (.cells x.cells.toArray 37 (0, 0)) := by rw [hw2, setCells_block _ 37 _ _ _ _ hr, over_zero]
      have HBEL := Lib.hid hbel
      have HBLK := Lib.hid hblk
      have HW2 := Lib.hid hw2
      clear hth hr hbel hblk hw2 hk
      go_upto_region 29 with fail
      refine wp_region_lit ?_
      refine wpList_load_row rfl 37 (.tmp 5) rfl (g + 1 + 1) rfl 37 _ (0, 0) _ HMade.out Tryd.underlying37 rfl size37 ?_
      refine wpList_store_mid rfl 37 (.tmp 4) (.tmp 80) rfl (g + 1) 0 x.cells.toArray rfl rfl HT.out size37 (all_oneCell_toArray x.one) ?_
      dsimp only
      rw [← HW2.out]
      go_wp2_with fail
      (try simp only [Exit.inBlock, Exit.then])
      refine bodyPost_ret (results_cell_row (P := Tryd.prog) rfl _ _ (g + 1) 37 _ (0, 0) _ rfl HBLK.out Tryd.underlying37 rfl size37) rfl ?_
      rw [hg]; exact ⟨rfl, HBEL.out⟩

end Go.Proofs.YtmkeckablkccnaaDoor
