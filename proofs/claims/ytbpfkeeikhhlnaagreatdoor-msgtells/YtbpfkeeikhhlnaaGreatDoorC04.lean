/- What is left of a message when all is struck but its head and the given parts. Heads, requests and parts of a message. Whether it is a message. -/
import Derived.Test.YtbpfkeeikhhlnaaGreatDoorC03
import Derived.Deep.MidRow
import Derived.Deep.Cut
namespace Go.Proofs.YtbpfkeeikhhlnaaGreatDoor
open Go.RowKit
set_option maxRecDepth 100000

def Sl.nil : Sl := ⟨none, 0, 0⟩
def Vt.zero : Vt := ⟨0, 0, 0, 0, ⟨none, 0, 0⟩, ⟨none, 0, 0⟩, ⟨none, 0, 0⟩⟩
/-- the head alone -/
def Mg.head (m : Mg) : Mg := { k := m.k, f := m.f, t := m.t, e := m.e, vw := 0, sq := 0, rq := Rq.zero, ro := 0, ct := 0, pg := 0, rs := 0, vt := Vt.zero, vs := ⟨none, 0, 0⟩, sm := ⟨none, 0, 0⟩, dt := ⟨none, 0, 0⟩ }
def Mg.step (m x : Mg) (p : Int) : Mg :=
  if p = 0 then { x with vw := m.vw } else if p = 1 then { x with sq := m.sq } else if p = 2 then { x with rq := m.rq } else if p = 3 then { x with ro := m.ro } else if p = 4 then { x with ct := m.ct }
  else if p = 5 then { x with pg := m.pg } else if p = 6 then { x with rs := m.rs } else if p = 7 then { x with vt := m.vt } else if p = 8 then { x with vs := m.vs } else if p = 9 then { x with sm := m.sm } else { x with dt := m.dt }
def Mg.bare (m : Mg) (ps : List Int) : Mg := ps.foldl m.step m.head

theorem partsOf_le (k : Int) : ∀ p ∈ partsOf k, 0 ≤ p ∧ p ≤ 10 := by
  intro p hp
  by_cases h1 : k = 1
  · subst h1; simp [partsOf] at hp; omega
  by_cases h2 : k = 2
  · subst h2; simp [partsOf] at hp; omega
  by_cases h3 : k = 3
  · subst h3; simp [partsOf] at hp; omega
  by_cases h4 : k = 4
  · subst h4; simp [partsOf] at hp; omega
  by_cases h5 : k = 5
  · subst h5; simp [partsOf] at hp; omega
  by_cases h6 : k = 6
  · subst h6; simp [partsOf] at hp; omega
  by_cases h7 : k = 7
  · subst h7; simp [partsOf] at hp; omega
  by_cases h8 : k = 8
  · subst h8; simp [partsOf] at hp; omega
  by_cases h9 : k = 9
  · subst h9; simp [partsOf] at hp; omega
  by_cases h10 : k = 10
  · subst h10; simp [partsOf] at hp; omega
  by_cases h11 : k = 11
  · subst h11; simp [partsOf] at hp; omega
  by_cases h12 : k = 12
  · subst h12; simp [partsOf] at hp; omega
  by_cases h13 : k = 13
  · subst h13; simp [partsOf] at hp; omega
  by_cases h14 : k = 14
  · subst h14; simp [partsOf] at hp; omega
  · simp [partsOf, h1, h2, h3, h4, h5, h6, h7, h8, h9, h10, h11, h12, h13, h14] at hp

def Vz : List Value := [.int .u8 0, .int .u8 0, .int .u8 0, .int .u8 0, .int .u32 0, .int .u32 0, .int .u8 0, .int .u32 0, .int .u8 0, .int .u8 0, .int .u16 0, .int .u64 0, .int .u8 0, .int .u8 0, .int .u32 0, .int .u8 0, .int .u8 0, .int .u32 0, .int .u32 0, .slice none 0 0, .slice none 0 0, .slice none 0 0, .slice none 0 0, .slice none 0 0, .slice none 0 0]

/-- the three blocks of 'bare': what came in, what goes out, what is made -/
structure Mem (w wr : World) (g : Nat) (m : Mg) (X : Array Value) : Prop where
  box : wr.heap[g]? = some (.cells m.cells.toArray 37 (0, 0))
  res : wr.heap[g + 1]? = some (.cells Vz.toArray 37 (0, 0))
  made : wr.heap[g + 1 + 1]? = some (.cells X 37 (0, 0))
  bel : Below g w wr
  hg : g = w.heap.size

theorem Mem.set {w wr : World} {g : Nat} {m : Mg} {X : Array Value} (h : Mem w wr g m X) (i : Nat) (v : Value) : Mem w (wr.setCell ⟨g + 1 + 1, i, none⟩ v) g m (X.setIfInBounds i v) := by
  have hr := h.res
  refine ⟨?_, ?_, ?_, ?_, h.hg⟩
  · rw [heap_setCell_other _ _ _ _ (by simp; omega)]; exact h.box
  · rw [heap_setCell_other _ _ _ _ (by simp)]; exact hr
  · rw [heap_setCell_same _ _ _ _ _ _ h.made]
  · exact h.bel.trans ⟨rfl, rfl, rfl, by simp, fun k hk => heap_setCell_other _ _ _ _ (by simp; omega)⟩

theorem Mem.cell {w wr : World} {g : Nat} {m : Mg} {X : Array Value} (h : Mem w wr g m X) (i : Nat) : wr.cell? ⟨g, i, none⟩ = m.cells[i]? := cell_box h.box i
theorem Mem.there {w wr : World} {g : Nat} {m : Mg} {X : Array Value} (h : Mem w wr g m X) (i : Nat) : wr.cell? ⟨g + 1 + 1, i, none⟩ = X[i]? := cell_of_row _ _ i _ _ _ h.made
theorem Mem.free {w wr : World} {g : Nat} {m : Mg} {X : Array Value} (h : Mem w wr g m X) (i : Nat) : wr.frozen? ⟨g + 1 + 1, i, none⟩ = false := frozen_of_row _ _ i _ _ h.made

theorem Mg.one (m : Mg) : ∀ v ∈ m.cells, v.oneCell' = true := by
  intro v hv
  simp only [Mg.cells, List.mem_cons, List.not_mem_nil, or_false] at hv
  rcases hv with rfl | rfl | rfl | rfl | rfl | rfl | rfl | rfl | rfl | rfl | rfl | rfl | rfl | rfl | rfl | rfl | rfl | rfl | rfl | rfl | rfl | rfl | rfl | rfl | rfl <;> rfl

theorem setCells_kept (b : Nat) : ∀ (vs : List Value) (o : Nat) (w : World) (k : Nat), k ≠ b → (w.setCells b o vs).heap[k]? = w.heap[k]? ∧ (w.setCells b o vs).heap.size = w.heap.size ∧ (w.setCells b o vs).os = w.os ∧ (w.setCells b o vs).tape = w.tape ∧ (w.setCells b o vs).output = w.output
  | [], _, _, _, _ => ⟨rfl, rfl, rfl, rfl, rfl⟩
  | v :: r, o, w, k, h => by
    obtain ⟨h1, h2, h3, h4, h5⟩ := setCells_kept b r (o + 1) (w.setCell ⟨b, o, none⟩ v) k h
    simp only [World.setCells]
    refine ⟨h1.trans (heap_setCell_other _ _ _ _ h), h2.trans (by simp), h3, h4, h5⟩

/-- cells laid over a block from o on -/
def over (Z : Array Value) (o : Nat) : List Value → Array Value
  | [] => Z
  | v :: r => over (Z.setIfInBounds o v) (o + 1) r

theorem setCells_block (b : Nat) (t : TypeId) : ∀ (vs : List Value) (o : Nat) (w : World) (Z : Array Value), w.heap[b]? = some (.cells Z t (0, 0)) → (w.setCells b o vs).heap[b]? = some (.cells (over Z o vs) t (0, 0))
  | [], _, _, _, h => h
  | v :: r, o, w, Z, h => setCells_block b t r (o + 1) (w.setCell ⟨b, o, none⟩ v) (Z.setIfInBounds o v) (by rw [heap_setCell_same _ _ _ _ _ _ h])

theorem over_zero (m : Mg) : over Vz.toArray 0 m.cells = m.cells.toArray := by
  simp only [over, Vz, Mg.cells, List.setIfInBounds_toArray, List.set_cons_zero, List.set_cons_succ, Nat.zero_add, Nat.reduceAdd]

theorem wpl_val {P : Program} {ops : Array Oper} {Q : Exit → Act → World → Prop} {o : Oper} {rest : List Oper} {a : Act} {w w1 : World} {v : Value} (hgd : o.guard = none) (h : (execOp a.eval o).run P w = .ok (.value v) w1) (a' : Act) (ha : a.put o.dst v = a')
    (k : wpList P ops Q rest a' w1) : wpList P ops Q (o :: rest) a w :=
  wpList_plain hgd fun K hK => by subst ha; unfold Oper.wp; rw [h]; exact hK _ _ k

theorem size37 : (Tryz.prog.info? 37).map (·.size) = some 25 := by kernel_rfl

theorem bare_pre (w : World) (m : Mg) : ∃ W V U : World, W = (w.alloc (.cells m.cells.toArray 37)).alloc (.cells Vz.toArray 37) ∧ V = W.alloc (.cells Vz.toArray 37) ∧ U = V.setCells (w.heap.size + 1 + 1) 0 m.head.cells ∧ W.cell? ⟨w.heap.size, 0, none⟩ = some (.int .u8 m.k) ∧ W.cell? ⟨w.heap.size, 1, none⟩ = some (.int .u8 m.f) ∧ W.cell? ⟨w.heap.size, 2, none⟩ = some (.int .u8 m.t) ∧ W.cell? ⟨w.heap.size, 3, none⟩ = some (.int .u8 m.e) ∧ Mem w U w.heap.size m m.head.cells.toArray ∧ V.there (w.heap.size + 1 + 1) 0 25 ∧ w.heap.size + 1 + 1 = W.heap.size := by
  obtain ⟨W, hW⟩ : ∃ W, W = (w.alloc (.cells m.cells.toArray 37)).alloc (.cells Vz.toArray 37) := ⟨_, rfl⟩
  have hWs : W.heap.size = w.heap.size + 1 + 1 := by rw [hW]; simp
  have hbx : W.heap[w.heap.size]? = some (.cells m.cells.toArray 37 (0, 0)) := by rw [hW]; exact heap_alloc2_old _ _ _
  have hrs : W.heap[w.heap.size + 1]? = some (.cells Vz.toArray 37 (0, 0)) := by rw [hW]; exact heap_alloc2_new _ _ _
  have hbl : Below w.heap.size w W := by rw [hW]; exact ((Below.refl _ _).alloc (Nat.le_refl _) _).alloc (by simp) _
  have q0 : W.cell? ⟨w.heap.size, 0, none⟩ = some (.int .u8 m.k) := cell_box hbx 0
  have q1 : W.cell? ⟨w.heap.size, 1, none⟩ = some (.int .u8 m.f) := cell_box hbx 1
  have q2 : W.cell? ⟨w.heap.size, 2, none⟩ = some (.int .u8 m.t) := cell_box hbx 2
  have q3 : W.cell? ⟨w.heap.size, 3, none⟩ = some (.int .u8 m.e) := cell_box hbx 3
  obtain ⟨V, hV⟩ : ∃ V, V = W.alloc (.cells Vz.toArray 37) := ⟨_, rfl⟩
  have hVn : V.heap[w.heap.size + 1 + 1]? = some (.cells Vz.toArray 37 (0, 0)) := by rw [hV, ← hWs]; exact heap_alloc_new _ _
  have hkk := fun k (h : k ≠ w.heap.size + 1 + 1) => setCells_kept (w.heap.size + 1 + 1) m.head.cells 0 V k h
  have hVk : ∀ k, k < w.heap.size + 1 + 1 → V.heap[k]? = W.heap[k]? := fun k hk => by rw [hV]; exact heap_alloc_old _ _ (by omega)
  obtain ⟨U, hU⟩ : ∃ U, U = V.setCells (w.heap.size + 1 + 1) 0 m.head.cells := ⟨_, rfl⟩
  have M0 : Mem w U w.heap.size m m.head.cells.toArray := by
    refine ⟨?_, ?_, ?_, ?_, rfl⟩
    · rw [hU, (hkk _ (by omega)).1, hVk _ (by omega)]; exact hbx
    · rw [hU, (hkk _ (by omega)).1, hVk _ (by omega)]; exact hrs
    · rw [hU, setCells_block _ 37 _ _ _ _ hVn, over_zero]
    · refine hbl.trans ⟨?_, ?_, ?_, ?_, fun k hk => ?_⟩
      · rw [hU, (hkk 0 (by omega)).2.2.1, hV]; rfl
      · rw [hU, (hkk 0 (by omega)).2.2.2.1, hV]; rfl
      · rw [hU, (hkk 0 (by omega)).2.2.2.2, hV]; rfl
      · rw [hU, (hkk 0 (by omega)).2.1, hV]; simp
      · rw [hU, (hkk k (by omega)).1, hVk k (by omega)]
  have hth : V.there (w.heap.size + 1 + 1) 0 25 := fun i hi => by
    refine ⟨?_, frozen_of_row _ _ _ _ _ hVn⟩
    rw [cell_of_row _ _ _ _ _ _ hVn]; simp [Vz]; omega
  have hwl : w.heap.size + 1 + 1 = W.heap.size := hWs.symm
  exact ⟨W, V, U, hW, hV, hU, q0, q1, q2, q3, M0, hth, hwl⟩

theorem bare_post {w wr : World} {m : Mg} {X : Array Value} (B : Mg) (h : Mem w wr w.heap.size m X) : ∃ w2, w2 = wr.setCells (w.heap.size + 1) 0 B.cells ∧ wr.there (w.heap.size + 1) 0 25 ∧ Below w.heap.size w w2 ∧ w2.heap[w.heap.size + 1]? = some (.cells B.cells.toArray 37 (0, 0)) := by
  have hr := h.res
  have hk := fun k (h : k ≠ w.heap.size + 1) => setCells_kept (w.heap.size + 1) B.cells 0 wr k h
  refine ⟨_, rfl, fun i hi => ?_, h.bel.trans ?_, ?_⟩
  · refine ⟨?_, frozen_of_row _ _ _ _ _ hr⟩
    rw [cell_of_row _ _ _ _ _ _ hr]; simp [Vz]; omega
  · exact ⟨(hk w.heap.size (by omega)).2.2.1, (hk w.heap.size (by omega)).2.2.2.1, (hk w.heap.size (by omega)).2.2.2.2, by rw [(hk w.heap.size (by omega)).2.1]; exact Nat.le_refl _, fun k h => (hk k (by omega)).1⟩
  · rw [setCells_block _ 37 _ _ _ _ hr, over_zero]

set_option maxHeartbeats 16000000 in
theorem bare_any (w : World) (m : Mg) (ao : Option Addr) (ps : List Int) (cap : Nat) (hb : Bytes w ao ps) (hn : ps.length ≤ 100) (hp : ∀ p ∈ ps, 0 ≤ p ∧ p ≤ 10) :
    Calls Tryz.prog 32 #[.agg m.cells.toArray, .slice ao ps.length cap] w fun e w' => e = .returned (.agg (m.bare ps).cells.toArray) ∧ Below w.heap.size w w' := by
  have HB := Lib.hid hb
  have HP := Lib.hid hp
  obtain ⟨B, hB⟩ : ∃ B, B = m.bare ps := ⟨_, rfl⟩
  rw [← hB]
  have HBB := Lib.hid hB
  obtain ⟨W, hW⟩ : ∃ W, W = (w.alloc (.cells m.cells.toArray 37)).alloc (.cells Vz.toArray 37) := ⟨_, rfl⟩
  have hWs : W.heap.size = w.heap.size + 1 + 1 := by rw [hW]; simp
  have hbx : W.heap[w.heap.size]? = some (.cells m.cells.toArray 37 (0, 0)) := by rw [hW]; exact heap_alloc2_old _ _ _
  have hrs : W.heap[w.heap.size + 1]? = some (.cells Vz.toArray 37 (0, 0)) := by rw [hW]; exact heap_alloc2_new _ _ _
  have hbl : Below w.heap.size w W := by rw [hW]; exact ((Below.refl _ _).alloc (Nat.le_refl _) _).alloc (by simp) _
  have q0 : W.cell? ⟨w.heap.size, 0, none⟩ = some (.int .u8 m.k) := cell_box hbx 0
  have q1 : W.cell? ⟨w.heap.size, 1, none⟩ = some (.int .u8 m.f) := cell_box hbx 1
  have q2 : W.cell? ⟨w.heap.size, 2, none⟩ = some (.int .u8 m.t) := cell_box hbx 2
  have q3 : W.cell? ⟨w.heap.size, 3, none⟩ = some (.int .u8 m.e) := cell_box hbx 3
  obtain ⟨V, hV⟩ : ∃ V, V = W.alloc (.cells Vz.toArray 37) := ⟨_, rfl⟩
  have hVn : V.heap[w.heap.size + 1 + 1]? = some (.cells Vz.toArray 37 (0, 0)) := by rw [hV, ← hWs]; exact heap_alloc_new _ _
  have hkk := fun k (h : k ≠ w.heap.size + 1 + 1) => setCells_kept (w.heap.size + 1 + 1) m.head.cells 0 V k h
  have hVk : ∀ k, k < w.heap.size + 1 + 1 → V.heap[k]? = W.heap[k]? := fun k hk => by rw [hV]; exact heap_alloc_old _ _ (by omega)
  obtain ⟨U, hU⟩ : ∃ U, U = V.setCells (w.heap.size + 1 + 1) 0 m.head.cells := ⟨_, rfl⟩
  have M0 : Mem w U w.heap.size m m.head.cells.toArray := by
    refine ⟨?_, ?_, ?_, ?_, rfl⟩
    · rw [hU, (hkk _ (by omega)).1, hVk _ (by omega)]; exact hbx
    · rw [hU, (hkk _ (by omega)).1, hVk _ (by omega)]; exact hrs
    · rw [hU, setCells_block _ 37 _ _ _ _ hVn, over_zero]
    · refine hbl.trans ⟨?_, ?_, ?_, ?_, fun k hk => ?_⟩
      · rw [hU, (hkk 0 (by omega)).2.2.1, hV]; rfl
      · rw [hU, (hkk 0 (by omega)).2.2.2.1, hV]; rfl
      · rw [hU, (hkk 0 (by omega)).2.2.2.2, hV]; rfl
      · rw [hU, (hkk 0 (by omega)).2.1, hV]; simp
      · rw [hU, (hkk k (by omega)).1, hVk k (by omega)]
  have hth : V.there (w.heap.size + 1 + 1) 0 25 := fun i hi => by
    refine ⟨?_, frozen_of_row _ _ _ _ _ hVn⟩
    rw [cell_of_row _ _ _ _ _ _ hVn]; simp [Vz]; omega
  have hwl : w.heap.size + 1 + 1 = W.heap.size := hWs.symm
  have HM0 := Lib.hid M0
  have HTH := Lib.hid hth
  have HW := Lib.hid hW
  have HV := Lib.hid hV
  have HU := Lib.hid hU
  have HWL := Lib.hid hwl
  clear hB hb hp M0 hW hWs hbx hrs hbl hVn hkk hVk hU hth hV hwl
  generalize hm : ps.length = n at *
  have HM := Lib.hid hm
  clear hm
  simp only [Mg.cells, Vz] at HW ⊢
  go_enter Tryz.func32, Tryz.ntmps32
  go_upto_region 1 with fail
  rw [← HW.out]
  have eA := mgA m
  rw [eA]
  clear eA HW
  generalize m.cells.toArray = A
  refine wp_region_lit ?_
  refine wv (.pointer (some ⟨w.heap.size, 0, none⟩)) (W) (by go_simp) ?_
  refine wv (.int .u8 m.k) (W) (by go_simp) ?_
  refine wv (.pointer (some ⟨w.heap.size, 1, none⟩)) (W) (by go_simp) ?_
  refine wv (.int .u8 m.f) (W) (by go_simp) ?_
  refine wv (.pointer (some ⟨w.heap.size, 2, none⟩)) (W) (by go_simp) ?_
  refine wv (.int .u8 m.t) (W) (by go_simp) ?_
  refine wv (.pointer (some ⟨w.heap.size, 3, none⟩)) (W) (by go_simp) ?_
  refine wv (.int .u8 m.e) (W) (by go_simp) ?_
  refine wv (.agg m.head.cells.toArray) (W) (by simp only [Mg.head, Mg.cells, Rq.zero, Vt.zero]; go_simp) ?_
  refine wv (.pointer (some ⟨w.heap.size + 1 + 1, 0, none⟩)) (V) (by have e := HV.out; simp only [Vz] at e; rw [HWL.out, e]; go_simp) ?_
  refine wpList_store_mid rfl 37 (.tmp 5) (.tmp 16) rfl (w.heap.size + 1 + 1) 0 m.head.cells.toArray rfl rfl HTH.out size37 (all_oneCell_toArray m.head.one) ?_
  dsimp only
  rw [← HU.out]
  clear HTH HV HWL HU q0 q1 q2 q3
  generalize m.head.cells.toArray = A2
  go_wp2_with fail
  generalize hg : w.heap.size = g at *
  go_loopw [19] (fun vi wr => ∃ (j : Nat) (x : Mg), j ≤ n ∧ vi = .int .i64 j ∧ Hid (Mem w wr g m x.cells.toArray) ∧ Hid (x = (ps.take j).foldl m.step m.head)) (fun i _ => n - (intOf i).toNat)
  case atStart => exact ⟨0, m.head, by omega, rfl, HM0, Lib.hid rfl⟩
  case round =>
    obtain ⟨j, x, hj, rfl, HMm, HX⟩ := hrel
    by_cases hlt : j < n
    · obtain ⟨ad, rfl, hc⟩ := HB.out j (by rw [HM.out]; exact hlt)
      obtain ⟨p, hpd⟩ : ∃ p, p = ps.getD j 0 := ⟨_, rfl⟩
      rw [← hpd] at hc
      have hmem : p ∈ ps := by rw [hpd, List.getD_eq_getElem?_getD, List.getElem?_eq_getElem (by rw [HM.out]; exact hlt)]; simp
      have hp := HP.out p hmem
      have hs : ps.take (j + 1) = ps.take j ++ [p] := by
        rw [List.take_add_one, hpd, List.getD_eq_getElem?_getD, List.getElem?_eq_getElem (by rw [HM.out]; exact hlt)]; rfl
      have hnext : (ps.take (j + 1)).foldl m.step m.head = m.step x p := by rw [hs, List.foldl_append, HX.out]; rfl
      have HNX := Lib.hid hnext
      have hcc : wr.cell? (ad.add j) = some (.int .u8 p) := (HMm.out.bel.cell (by rw [← hg]; exact cell_block hc)).trans hc
      clear hpd hmem hs hnext hc
      have hcase : p = 0 ∨ p = 1 ∨ p = 2 ∨ p = 3 ∨ p = 4 ∨ p = 5 ∨ p = 6 ∨ p = 7 ∨ p = 8 ∨ p = 9 ∨ p = 10 := by omega
      rcases hcase with rfl | rfl | rfl | rfl | rfl | rfl | rfl | rfl | rfl | rfl | rfl
      · skip
        have q4 : wr.cell? ⟨g, 4, none⟩ = some (.int .u32 m.vw) := HMm.out.cell 4
        have c4 : wr.cell? ⟨g + 1 + 1, 4, none⟩ = some (.int .u32 x.vw) := HMm.out.there 4
        have f4 : wr.frozen? ⟨g + 1 + 1, 4, none⟩ = false := HMm.out.free 4
        go_wp2_with fail
        go_round
        case measure => simp [intOf]; omega
        case rel => exact ⟨j + 1, { x with vw := m.vw }, by omega, by go_num, Lib.hid (HMm.out.set 4 (.int .u32 m.vw)), Lib.hid HNX.out.symm⟩
      · skip
        have q5 : wr.cell? ⟨g, 5, none⟩ = some (.int .u32 m.sq) := HMm.out.cell 5
        have c5 : wr.cell? ⟨g + 1 + 1, 5, none⟩ = some (.int .u32 x.sq) := HMm.out.there 5
        have f5 : wr.frozen? ⟨g + 1 + 1, 5, none⟩ = false := HMm.out.free 5
        go_wp2_with fail
        go_round
        case measure => simp [intOf]; omega
        case rel => exact ⟨j + 1, { x with sq := m.sq }, by omega, by go_num, Lib.hid (HMm.out.set 5 (.int .u32 m.sq)), Lib.hid HNX.out.symm⟩
      · skip
        have q6 : wr.cell? ⟨g, 6, none⟩ = some (.int .u8 m.rq.c) := HMm.out.cell 6
        have c6 : wr.cell? ⟨g + 1 + 1, 6, none⟩ = some (.int .u8 x.rq.c) := HMm.out.there 6
        have f6 : wr.frozen? ⟨g + 1 + 1, 6, none⟩ = false := HMm.out.free 6
        have q7 : wr.cell? ⟨g, 7, none⟩ = some (.int .u32 m.rq.t) := HMm.out.cell 7
        have c7 : wr.cell? ⟨g + 1 + 1, 7, none⟩ = some (.int .u32 x.rq.t) := HMm.out.there 7
        have f7 : wr.frozen? ⟨g + 1 + 1, 7, none⟩ = false := HMm.out.free 7
        have q8 : wr.cell? ⟨g, 8, none⟩ = some (.int .u8 m.rq.k) := HMm.out.cell 8
        have c8 : wr.cell? ⟨g + 1 + 1, 8, none⟩ = some (.int .u8 x.rq.k) := HMm.out.there 8
        have f8 : wr.frozen? ⟨g + 1 + 1, 8, none⟩ = false := HMm.out.free 8
        have q9 : wr.cell? ⟨g, 9, none⟩ = some (.int .u8 m.rq.y) := HMm.out.cell 9
        have c9 : wr.cell? ⟨g + 1 + 1, 9, none⟩ = some (.int .u8 x.rq.y) := HMm.out.there 9
        have f9 : wr.frozen? ⟨g + 1 + 1, 9, none⟩ = false := HMm.out.free 9
        have q10 : wr.cell? ⟨g, 10, none⟩ = some (.int .u16 m.rq.v) := HMm.out.cell 10
        have c10 : wr.cell? ⟨g + 1 + 1, 10, none⟩ = some (.int .u16 x.rq.v) := HMm.out.there 10
        have f10 : wr.frozen? ⟨g + 1 + 1, 10, none⟩ = false := HMm.out.free 10
        go_wp2_with fail
        go_round
        case measure => simp [intOf]; omega
        case rel => exact ⟨j + 1, { x with rq := m.rq }, by omega, by go_num, Lib.hid (((((HMm.out.set 6 (.int .u8 m.rq.c)).set 7 (.int .u32 m.rq.t)).set 8 (.int .u8 m.rq.k)).set 9 (.int .u8 m.rq.y)).set 10 (.int .u16 m.rq.v)), Lib.hid HNX.out.symm⟩
      · skip
        have q11 : wr.cell? ⟨g, 11, none⟩ = some (.int .u64 m.ro) := HMm.out.cell 11
        have c11 : wr.cell? ⟨g + 1 + 1, 11, none⟩ = some (.int .u64 x.ro) := HMm.out.there 11
        have f11 : wr.frozen? ⟨g + 1 + 1, 11, none⟩ = false := HMm.out.free 11
        go_wp2_with fail
        go_round
        case measure => simp [intOf]; omega
        case rel => exact ⟨j + 1, { x with ro := m.ro }, by omega, by go_num, Lib.hid (HMm.out.set 11 (.int .u64 m.ro)), Lib.hid HNX.out.symm⟩
      · skip
        have q12 : wr.cell? ⟨g, 12, none⟩ = some (.int .u8 m.ct) := HMm.out.cell 12
        have c12 : wr.cell? ⟨g + 1 + 1, 12, none⟩ = some (.int .u8 x.ct) := HMm.out.there 12
        have f12 : wr.frozen? ⟨g + 1 + 1, 12, none⟩ = false := HMm.out.free 12
        go_wp2_with fail
        go_round
        case measure => simp [intOf]; omega
        case rel => exact ⟨j + 1, { x with ct := m.ct }, by omega, by go_num, Lib.hid (HMm.out.set 12 (.int .u8 m.ct)), Lib.hid HNX.out.symm⟩
      · skip
        have q13 : wr.cell? ⟨g, 13, none⟩ = some (.int .u8 m.pg) := HMm.out.cell 13
        have c13 : wr.cell? ⟨g + 1 + 1, 13, none⟩ = some (.int .u8 x.pg) := HMm.out.there 13
        have f13 : wr.frozen? ⟨g + 1 + 1, 13, none⟩ = false := HMm.out.free 13
        go_wp2_with fail
        go_round
        case measure => simp [intOf]; omega
        case rel => exact ⟨j + 1, { x with pg := m.pg }, by omega, by go_num, Lib.hid (HMm.out.set 13 (.int .u8 m.pg)), Lib.hid HNX.out.symm⟩
      · skip
        have q14 : wr.cell? ⟨g, 14, none⟩ = some (.int .u32 m.rs) := HMm.out.cell 14
        have c14 : wr.cell? ⟨g + 1 + 1, 14, none⟩ = some (.int .u32 x.rs) := HMm.out.there 14
        have f14 : wr.frozen? ⟨g + 1 + 1, 14, none⟩ = false := HMm.out.free 14
        go_wp2_with fail
        go_round
        case measure => simp [intOf]; omega
        case rel => exact ⟨j + 1, { x with rs := m.rs }, by omega, by go_num, Lib.hid (HMm.out.set 14 (.int .u32 m.rs)), Lib.hid HNX.out.symm⟩
      · skip
        have q15 : wr.cell? ⟨g, 15, none⟩ = some (.int .u8 m.vt.f) := HMm.out.cell 15
        have c15 : wr.cell? ⟨g + 1 + 1, 15, none⟩ = some (.int .u8 x.vt.f) := HMm.out.there 15
        have f15 : wr.frozen? ⟨g + 1 + 1, 15, none⟩ = false := HMm.out.free 15
        have q16 : wr.cell? ⟨g, 16, none⟩ = some (.int .u8 m.vt.e) := HMm.out.cell 16
        have c16 : wr.cell? ⟨g + 1 + 1, 16, none⟩ = some (.int .u8 x.vt.e) := HMm.out.there 16
        have f16 : wr.frozen? ⟨g + 1 + 1, 16, none⟩ = false := HMm.out.free 16
        have q17 : wr.cell? ⟨g, 17, none⟩ = some (.int .u32 m.vt.vw) := HMm.out.cell 17
        have c17 : wr.cell? ⟨g + 1 + 1, 17, none⟩ = some (.int .u32 x.vt.vw) := HMm.out.there 17
        have f17 : wr.frozen? ⟨g + 1 + 1, 17, none⟩ = false := HMm.out.free 17
        have q18 : wr.cell? ⟨g, 18, none⟩ = some (.int .u32 m.vt.lo) := HMm.out.cell 18
        have c18 : wr.cell? ⟨g + 1 + 1, 18, none⟩ = some (.int .u32 x.vt.lo) := HMm.out.there 18
        have f18 : wr.frozen? ⟨g + 1 + 1, 18, none⟩ = false := HMm.out.free 18
        have q19 : wr.cell? ⟨g, 19, none⟩ = some (.slice m.vt.ms.a m.vt.ms.n m.vt.ms.c) := HMm.out.cell 19
        have c19 : wr.cell? ⟨g + 1 + 1, 19, none⟩ = some (.slice x.vt.ms.a x.vt.ms.n x.vt.ms.c) := HMm.out.there 19
        have f19 : wr.frozen? ⟨g + 1 + 1, 19, none⟩ = false := HMm.out.free 19
        have q20 : wr.cell? ⟨g, 20, none⟩ = some (.slice m.vt.p.a m.vt.p.n m.vt.p.c) := HMm.out.cell 20
        have c20 : wr.cell? ⟨g + 1 + 1, 20, none⟩ = some (.slice x.vt.p.a x.vt.p.n x.vt.p.c) := HMm.out.there 20
        have f20 : wr.frozen? ⟨g + 1 + 1, 20, none⟩ = false := HMm.out.free 20
        have q21 : wr.cell? ⟨g, 21, none⟩ = some (.slice m.vt.q.a m.vt.q.n m.vt.q.c) := HMm.out.cell 21
        have c21 : wr.cell? ⟨g + 1 + 1, 21, none⟩ = some (.slice x.vt.q.a x.vt.q.n x.vt.q.c) := HMm.out.there 21
        have f21 : wr.frozen? ⟨g + 1 + 1, 21, none⟩ = false := HMm.out.free 21
        go_wp2_with fail
        go_round
        case measure => simp [intOf]; omega
        case rel => exact ⟨j + 1, { x with vt := m.vt }, by omega, by go_num, Lib.hid (((((((HMm.out.set 15 (.int .u8 m.vt.f)).set 16 (.int .u8 m.vt.e)).set 17 (.int .u32 m.vt.vw)).set 18 (.int .u32 m.vt.lo)).set 19 (.slice m.vt.ms.a m.vt.ms.n m.vt.ms.c)).set 20 (.slice m.vt.p.a m.vt.p.n m.vt.p.c)).set 21 (.slice m.vt.q.a m.vt.q.n m.vt.q.c)), Lib.hid HNX.out.symm⟩
      · skip
        have q22 : wr.cell? ⟨g, 22, none⟩ = some (.slice m.vs.a m.vs.n m.vs.c) := HMm.out.cell 22
        have c22 : wr.cell? ⟨g + 1 + 1, 22, none⟩ = some (.slice x.vs.a x.vs.n x.vs.c) := HMm.out.there 22
        have f22 : wr.frozen? ⟨g + 1 + 1, 22, none⟩ = false := HMm.out.free 22
        go_wp2_with fail
        go_round
        case measure => simp [intOf]; omega
        case rel => exact ⟨j + 1, { x with vs := m.vs }, by omega, by go_num, Lib.hid (HMm.out.set 22 (.slice m.vs.a m.vs.n m.vs.c)), Lib.hid HNX.out.symm⟩
      · skip
        have q23 : wr.cell? ⟨g, 23, none⟩ = some (.slice m.sm.a m.sm.n m.sm.c) := HMm.out.cell 23
        have c23 : wr.cell? ⟨g + 1 + 1, 23, none⟩ = some (.slice x.sm.a x.sm.n x.sm.c) := HMm.out.there 23
        have f23 : wr.frozen? ⟨g + 1 + 1, 23, none⟩ = false := HMm.out.free 23
        go_wp2_with fail
        go_round
        case measure => simp [intOf]; omega
        case rel => exact ⟨j + 1, { x with sm := m.sm }, by omega, by go_num, Lib.hid (HMm.out.set 23 (.slice m.sm.a m.sm.n m.sm.c)), Lib.hid HNX.out.symm⟩
      · skip
        have q24 : wr.cell? ⟨g, 24, none⟩ = some (.slice m.dt.a m.dt.n m.dt.c) := HMm.out.cell 24
        have c24 : wr.cell? ⟨g + 1 + 1, 24, none⟩ = some (.slice x.dt.a x.dt.n x.dt.c) := HMm.out.there 24
        have f24 : wr.frozen? ⟨g + 1 + 1, 24, none⟩ = false := HMm.out.free 24
        go_wp2_with fail
        go_round
        case measure => simp [intOf]; omega
        case rel => exact ⟨j + 1, { x with dt := m.dt }, by omega, by go_num, Lib.hid (HMm.out.set 24 (.slice m.dt.a m.dt.n m.dt.c)), Lib.hid HNX.out.symm⟩
    · obtain rfl : j = n := by omega
      have hx : x = B := by rw [HX.out, HBB.out, Mg.bare, List.take_of_length_le (by rw [HM.out]; exact Nat.le_refl _)]
      subst hx
      have hr := HMm.out.res
      have hth : wr.there (g + 1) 0 25 := fun i hi => by
        refine ⟨?_, frozen_of_row _ _ _ _ _ hr⟩
        rw [cell_of_row _ _ _ _ _ _ hr]; simp [Vz]; omega
      have HT := Lib.hid hth
      have HMade := Lib.hid HMm.out.made
      obtain ⟨w2, hw2⟩ : ∃ w2, w2 = wr.setCells (g + 1) 0 x.cells := ⟨_, rfl⟩
      have hk := fun k (h : k ≠ g + 1) => setCells_kept (g + 1) x.cells 0 wr k h
      have hbel : Below g w w2 := HMm.out.bel.trans (by rw [hw2]; exact ⟨(hk g (by omega)).2.2.1, (hk g (by omega)).2.2.2.1, (hk g (by omega)).2.2.2.2, by rw [(hk g (by omega)).2.1]; exact Nat.le_refl _, fun k h => (hk k (by omega)).1⟩)
      have hblk : w2.heap[g + 1]? = some (.cells x.cells.toArray 37 (0, 0)) := by rw [hw2, setCells_block _ 37 _ _ _ _ hr, over_zero]
      have HBEL := Lib.hid hbel
      have HBLK := Lib.hid hblk
      have HW2 := Lib.hid hw2
      clear hth hr hbel hblk hw2 hk
      go_upto_region 29 with fail
      refine wp_region_lit ?_
      refine wpList_load_row rfl 37 (.tmp 5) rfl (g + 1 + 1) rfl 37 _ (0, 0) _ HMade.out Tryz.underlying37 rfl size37 ?_
      refine wpList_store_mid rfl 37 (.tmp 4) (.tmp 80) rfl (g + 1) 0 x.cells.toArray rfl rfl HT.out size37 (all_oneCell_toArray x.one) ?_
      dsimp only
      rw [← HW2.out]
      go_wp2_with fail
      (try simp only [Exit.inBlock, Exit.then])
      refine bodyPost_ret (results_cell_row (P := Tryz.prog) rfl _ _ (g + 1) 37 _ (0, 0) _ rfl HBLK.out Tryz.underlying37 rfl size37) rfl ?_
      rw [hg]; exact ⟨rfl, HBEL.out⟩

def headB (m : Mg) : Bool := if m.k = 1 then isRp m.t && decide (m.e = 0) else if m.k = 14 then isRp m.f && isEp m.e else isRp m.f && (isRp m.t && isEp m.e)
def realB (r : Rq) (a : Int) : Bool := !decide (r = Rq.zero) && (r.is && decide ((10 + r.c) % 256 = a))
def reqB (m : Mg) : Bool := if m.k = 1 then realB m.rq m.f else if m.k = 14 then realB m.rq m.t else m.rq.is
def fitB (m : Mg) (vb vsb : Bool) (p : Int) : Bool :=
  if p = 0 then isVw m.vw && (decide (m.k ≠ 7) || isNv m.vw)
  else if p = 1 then isSq m.sq && (!isPh m.k || isPl m.sq)
  else if p = 2 then reqB m
  else if p = 4 then decide (m.k = 10) || decide (m.ct = m.e)
  else if p = 5 then decide (m.pg < 8) || (decide (m.k = 11) && decide (m.pg = 8))
  else if p = 7 then vb && (decide (m.vt.f = m.f) && decide (m.vt.e = m.e))
  else if p = 8 then vsb
  else if p = 9 then decide (m.sm.n = 8)
  else if p = 10 then decide (m.dt.n ≤ 64)
  else true

theorem size37' : (Tryz.prog.info? 37).map (·.size) = some 25 := by kernel_rfl

set_option maxHeartbeats 1600000 in
theorem isRealReq_any (r : Rq) (a : Int) (w : World) : Calls Tryz.prog 97 #[.agg r.cells.toArray, .int .u8 a] w fun e w' => e = .returned (.bool (realB r a)) ∧ Below w.heap.size w w' := by
  obtain ⟨b, hb⟩ : ∃ b, b = realB r a := ⟨_, rfl⟩
  rw [← hb]
  unfold realB at hb
  have HB := Lib.hid hb
  have hq := neq27 r Rq.zero
  have hg := fun op a b w => guard27 op a b r Rq.zero w
  have C := isReq_any r (w.alloc (.cells r.cells.toArray 27))
  have hbl : Below w.heap.size w (w.alloc (.cells r.cells.toArray 27)) := (Below.refl _ _).alloc (Nat.le_refl _) _
  have HBL := Lib.hid hbl
  obtain ⟨W, hW⟩ : ∃ W, W = w.alloc (.cells r.cells.toArray 27) := ⟨_, rfl⟩
  have hws : W.heap.size = w.heap.size + 1 := by rw [hW]; simp
  have q0 : W.cell? ⟨w.heap.size, 0, none⟩ = some (.int .u8 r.c) := by rw [hW]; simp [Rq.cells]
  rw [← hW] at C HBL
  generalize decide (r = Rq.zero) = z at HB hq
  simp only [Rq.cells, Rq.zero] at hq hg C hW ⊢
  have HW := Lib.hid hW
  have HWS := Lib.hid hws
  generalize hi : r.is = ib at HB C
  have HC := Lib.hid C
  have HQ0 := Lib.hid q0
  clear hb hbl hW C hws q0 hi
  cases z
  · go_enter Tryz.func97, Tryz.ntmps97
    go_wp2_with fail
    rw [← HW.out]
    refine Calls.mono HC.out ?_
    rintro e w1 ⟨rfl, hb1⟩
    have p0 := (hb1.cell (p := ⟨w.heap.size, 0, none⟩) (by show w.heap.size < _; rw [HWS.out]; omega)).trans HQ0.out
    have HB1 := Lib.hid (HBL.out.trans (hb1.mono (by rw [HWS.out]; omega)))
    clear hb1
    cases ib
    · go_wp2_with fail
      go_ret
      exact ⟨by rw [HB.out]; rfl, HB1.out⟩
    · by_cases ha : (10 + r.c) % 256 = a
      · have d : ((10 + r.c) % 256 == a) = true := by simp [ha]
        have HA := Lib.hid ha
        clear ha
        go_wp2_with fail
        go_ret
        exact ⟨by rw [HB.out]; simp [HA.out], HB1.out⟩
      · have d : ((10 + r.c) % 256 == a) = false := by simp [ha]
        have HA := Lib.hid ha
        clear ha
        go_wp2_with fail
        go_ret
        exact ⟨by rw [HB.out]; simp [HA.out], HB1.out⟩
  · go_enter Tryz.func97, Tryz.ntmps97
    go_wp2_with fail
    go_ret
    refine ⟨by rw [HB.out]; rfl, ?_⟩
    rw [← HW.out]; exact HBL.out

set_option maxHeartbeats 1600000 in
theorem isHead_any (w : World) (m : Mg) : Calls Tryz.prog 31 #[.agg m.cells.toArray] w fun e w' => e = .returned (.bool (headB m)) ∧ Below w.heap.size w w' := by
  obtain ⟨b, hb⟩ : ∃ b, b = headB m := ⟨_, rfl⟩
  rw [← hb]
  unfold headB at hb
  have HB := Lib.hid hb
  have C1 := Lib.hid (isReplica_any m.f)
  have C2 := Lib.hid (isReplica_any m.t)
  have C3 := Lib.hid (isEpoch_any m.e)
  generalize isRp m.f = b1 at C1 HB
  generalize isRp m.t = b2 at C2 HB
  generalize isEp m.e = b3 at C3 HB
  clear hb
  obtain ⟨W, hW⟩ : ∃ W, W = w.alloc (.cells m.cells.toArray 37) := ⟨_, rfl⟩
  have hbx := bx1 hW
  have hbl := bl1 hW
  have q0 : W.cell? ⟨w.heap.size, 0, none⟩ = some (.int .u8 m.k) := cell_box hbx 0
  have q1 : W.cell? ⟨w.heap.size, 1, none⟩ = some (.int .u8 m.f) := cell_box hbx 1
  have q2 : W.cell? ⟨w.heap.size, 2, none⟩ = some (.int .u8 m.t) := cell_box hbx 2
  have q3 : W.cell? ⟨w.heap.size, 3, none⟩ = some (.int .u8 m.e) := cell_box hbx 3
  have HBX := Lib.hid hbx
  have HBL := Lib.hid hbl
  have HW := Lib.hid hW
  clear hW hbx hbl
  simp only [Mg.cells] at HW ⊢
  go_enter Tryz.func31, Tryz.ntmps31
  go_upto_region 1 with fail
  rw [← HW.out]
  have eA := mgA m
  rw [eA]
  clear eA HW
  have hsz : m.cells.toArray.size = 25 := rfl
  generalize hA : m.cells.toArray = A at *
  have HSZ := Lib.hid hsz
  clear hA hsz
  by_cases h1 : m.k = 1
  · by_cases h0 : m.e = 0
    · have H1 := Lib.hid h1
      have H0 := Lib.hid h0
      go_wp2_with fail
      refine Calls.mono (C2.out _) ?_
      rintro e w' ⟨rfl, rfl⟩
      cases b2 <;>
      · go_wp2_with fail
        go_ret
        exact ⟨by rw [HB.out]; simp [H1.out, H0.out], HBL.out⟩
    · have H1 := Lib.hid h1
      have H0 := Lib.hid h0
      go_wp2_with fail
      refine Calls.mono (C2.out _) ?_
      rintro e w' ⟨rfl, rfl⟩
      cases b2 <;>
      · go_wp2_with fail
        go_ret
        exact ⟨by rw [HB.out]; simp [H1.out, H0.out], HBL.out⟩
  · by_cases h2 : m.k = 14
    · have H1 := Lib.hid h1
      have H2 := Lib.hid h2
      go_wp2_with fail
      refine Calls.mono (C1.out _) ?_
      rintro e w' ⟨rfl, rfl⟩
      cases b1
      · go_wp2_with fail
        go_ret
        exact ⟨by rw [HB.out]; simp [H2.out], HBL.out⟩
      · go_wp2_with fail
        refine Calls.mono (C3.out _) ?_
        rintro e w' ⟨rfl, rfl⟩
        go_wp2_with fail
        go_ret
        exact ⟨by rw [HB.out]; simp [H2.out], HBL.out⟩
    · have H1 := Lib.hid h1
      have H2 := Lib.hid h2
      go_wp2_with fail
      refine Calls.mono (C1.out _) ?_
      rintro e w' ⟨rfl, rfl⟩
      cases b1
      · go_wp2_with fail
        go_ret
        exact ⟨by rw [HB.out]; simp [H1.out, H2.out], HBL.out⟩
      · go_wp2_with fail
        refine Calls.mono (C2.out _) ?_
        rintro e w' ⟨rfl, rfl⟩
        cases b2
        · go_wp2_with fail
          go_ret
          exact ⟨by rw [HB.out]; simp [H1.out, H2.out], HBL.out⟩
        · go_wp2_with fail
          refine Calls.mono (C3.out _) ?_
          rintro e w' ⟨rfl, rfl⟩
          go_wp2_with fail
          go_ret
          exact ⟨by rw [HB.out]; simp [H1.out, H2.out], HBL.out⟩

set_option maxHeartbeats 1600000 in
theorem fitsReq_any (w : World) (m : Mg) : Calls Tryz.prog 76 #[.agg m.cells.toArray] w fun e w' => e = .returned (.bool (reqB m)) ∧ Below w.heap.size w w' := by
  obtain ⟨b, hb⟩ : ∃ b, b = reqB m := ⟨_, rfl⟩
  rw [← hb]
  unfold reqB at hb
  have HB := Lib.hid hb
  have C1 := Lib.hid (isRealReq_any m.rq m.f)
  have C2 := Lib.hid (isRealReq_any m.rq m.t)
  have C3 := Lib.hid (isReq_any m.rq)
  generalize realB m.rq m.f = b1 at C1 HB
  generalize realB m.rq m.t = b2 at C2 HB
  generalize m.rq.is = b3 at C3 HB
  simp only [Rq.cells] at C1 C2 C3
  clear hb
  obtain ⟨W, hW⟩ : ∃ W, W = w.alloc (.cells m.cells.toArray 37) := ⟨_, rfl⟩
  have hbx := bx1 hW
  have hbl := bl1 hW
  have q0 : W.cell? ⟨w.heap.size, 0, none⟩ = some (.int .u8 m.k) := cell_box hbx 0
  have q1 : W.cell? ⟨w.heap.size, 1, none⟩ = some (.int .u8 m.f) := cell_box hbx 1
  have q2 : W.cell? ⟨w.heap.size, 2, none⟩ = some (.int .u8 m.t) := cell_box hbx 2
  have q6 : W.cell? ⟨w.heap.size, 6, none⟩ = some (.int .u8 m.rq.c) := cell_box hbx 6
  have q7 : W.cell? ⟨w.heap.size, 7, none⟩ = some (.int .u32 m.rq.t) := cell_box hbx 7
  have q8 : W.cell? ⟨w.heap.size, 8, none⟩ = some (.int .u8 m.rq.k) := cell_box hbx 8
  have q9 : W.cell? ⟨w.heap.size, 9, none⟩ = some (.int .u8 m.rq.y) := cell_box hbx 9
  have q10 : W.cell? ⟨w.heap.size, 10, none⟩ = some (.int .u16 m.rq.v) := cell_box hbx 10
  have HBX := Lib.hid hbx
  have HBL := Lib.hid hbl
  have HW := Lib.hid hW
  clear hW hbx hbl
  simp only [Mg.cells] at HW ⊢
  go_enter Tryz.func76, Tryz.ntmps76
  go_upto_region 1 with fail
  rw [← HW.out]
  have eA := mgA m
  rw [eA]
  clear eA HW
  have hsz : m.cells.toArray.size = 25 := rfl
  generalize hA : m.cells.toArray = A at *
  have HSZ := Lib.hid hsz
  clear hA hsz
  by_cases h1 : m.k = 1
  · have H1 := Lib.hid h1
    go_wp2_with fail
    refine Calls.mono (C1.out _) ?_
    rintro e w1 ⟨rfl, hb1⟩
    have HB1 := Lib.hid (HBL.out.trans (hb1.mono HBL.out.size))
    clear hb1
    go_wp2_with fail
    go_ret
    exact ⟨by rw [HB.out]; simp [H1.out], HB1.out⟩
  · by_cases h2 : m.k = 14
    · have H1 := Lib.hid h1
      have H2 := Lib.hid h2
      go_wp2_with fail
      refine Calls.mono (C2.out _) ?_
      rintro e w1 ⟨rfl, hb1⟩
      have HB1 := Lib.hid (HBL.out.trans (hb1.mono HBL.out.size))
      clear hb1
      go_wp2_with fail
      go_ret
      exact ⟨by rw [HB.out]; simp [H2.out], HB1.out⟩
    · have H1 := Lib.hid h1
      have H2 := Lib.hid h2
      go_wp2_with fail
      refine Calls.mono (C3.out _) ?_
      rintro e w1 ⟨rfl, hb1⟩
      have HB1 := Lib.hid (HBL.out.trans (hb1.mono HBL.out.size))
      clear hb1
      go_wp2_with fail
      go_ret
      exact ⟨by rw [HB.out]; simp [H1.out, H2.out], HB1.out⟩

set_option maxHeartbeats 8000000 in
theorem fits_any (w : World) (m : Mg) (vb vsb : Bool) (p : Int) (hp0 : 0 ≤ p) (hp1 : p ≤ 10) (hv : p = 7 → ∀ w1, Below w.heap.size w w1 → Calls Tryz.prog 14 #[.agg m.vt.cells.toArray] w1 fun e w2 => e = .returned (.bool vb) ∧ Below w1.heap.size w1 w2) (hvs : p = 8 → ∀ w1, Below w.heap.size w w1 → Calls Tryz.prog 77 #[.slice m.vs.a m.vs.n m.vs.c, .int .u32 m.vw] w1 fun e w2 => e = .returned (.bool vsb) ∧ Below w1.heap.size w1 w2) :
    Calls Tryz.prog 33 #[.agg m.cells.toArray, .int .u8 p] w fun e w' => e = .returned (.bool (fitB m vb vsb p)) ∧ Below w.heap.size w w' := by
  obtain ⟨b, hb⟩ : ∃ b, b = fitB m vb vsb p := ⟨_, rfl⟩
  rw [← hb]
  unfold fitB at hb
  have HB := Lib.hid hb
  have CV := Lib.hid (isView_any m.vw)
  have CN := Lib.hid (isNewView_any m.vw)
  have CS := Lib.hid (isSeq_any m.sq)
  have CH := Lib.hid (isPhase_any m.k)
  have CP := Lib.hid (isPlace_any m.sq)
  have CR := Lib.hid (fun w => fitsReq_any w m)
  generalize isVw m.vw = v1 at CV HB
  generalize isNv m.vw = v2 at CN HB
  generalize isSq m.sq = v3 at CS HB
  generalize isPh m.k = v4 at CH HB
  generalize isPl m.sq = v5 at CP HB
  generalize reqB m = v6 at CR HB
  have HV := Lib.hid hv
  have HVS := Lib.hid hvs
  clear hb hv hvs
  obtain ⟨W, hW⟩ : ∃ W, W = w.alloc (.cells m.cells.toArray 37) := ⟨_, rfl⟩
  have hbx := bx1 hW
  have hbl := bl1 hW
  have q0 : W.cell? ⟨w.heap.size, 0, none⟩ = some (.int .u8 m.k) := cell_box hbx 0
  have q1 : W.cell? ⟨w.heap.size, 1, none⟩ = some (.int .u8 m.f) := cell_box hbx 1
  have q3 : W.cell? ⟨w.heap.size, 3, none⟩ = some (.int .u8 m.e) := cell_box hbx 3
  have q4 : W.cell? ⟨w.heap.size, 4, none⟩ = some (.int .u32 m.vw) := cell_box hbx 4
  have q5 : W.cell? ⟨w.heap.size, 5, none⟩ = some (.int .u32 m.sq) := cell_box hbx 5
  have q12 : W.cell? ⟨w.heap.size, 12, none⟩ = some (.int .u8 m.ct) := cell_box hbx 12
  have q13 : W.cell? ⟨w.heap.size, 13, none⟩ = some (.int .u8 m.pg) := cell_box hbx 13
  have q15 : W.cell? ⟨w.heap.size, 15, none⟩ = some (.int .u8 m.vt.f) := cell_box hbx 15
  have q16 : W.cell? ⟨w.heap.size, 16, none⟩ = some (.int .u8 m.vt.e) := cell_box hbx 16
  have q17 : W.cell? ⟨w.heap.size, 17, none⟩ = some (.int .u32 m.vt.vw) := cell_box hbx 17
  have q18 : W.cell? ⟨w.heap.size, 18, none⟩ = some (.int .u32 m.vt.lo) := cell_box hbx 18
  have q19 : W.cell? ⟨w.heap.size, 19, none⟩ = some (.slice m.vt.ms.a m.vt.ms.n m.vt.ms.c) := cell_box hbx 19
  have q20 : W.cell? ⟨w.heap.size, 20, none⟩ = some (.slice m.vt.p.a m.vt.p.n m.vt.p.c) := cell_box hbx 20
  have q21 : W.cell? ⟨w.heap.size, 21, none⟩ = some (.slice m.vt.q.a m.vt.q.n m.vt.q.c) := cell_box hbx 21
  have q22 : W.cell? ⟨w.heap.size, 22, none⟩ = some (.slice m.vs.a m.vs.n m.vs.c) := cell_box hbx 22
  have q23 : W.cell? ⟨w.heap.size, 23, none⟩ = some (.slice m.sm.a m.sm.n m.sm.c) := cell_box hbx 23
  have q24 : W.cell? ⟨w.heap.size, 24, none⟩ = some (.slice m.dt.a m.dt.n m.dt.c) := cell_box hbx 24
  have HBX := Lib.hid hbx
  have HBL := Lib.hid hbl
  have HW := Lib.hid hW
  clear hW hbx hbl
  simp only [Mg.cells] at HW ⊢
  go_enter Tryz.func33, Tryz.ntmps33
  go_upto_region 1 with fail
  rw [← HW.out]
  have eA := mgA m
  rw [eA]
  clear eA HW
  have hcase : p = 0 ∨ p = 1 ∨ p = 2 ∨ p = 3 ∨ p = 4 ∨ p = 5 ∨ p = 6 ∨ p = 7 ∨ p = 8 ∨ p = 9 ∨ p = 10 := by omega
  have hsz : m.cells.toArray.size = 25 := rfl
  generalize hA : m.cells.toArray = A at *
  have HSZ := Lib.hid hsz
  clear hA hsz
  rcases hcase with rfl | rfl | rfl | rfl | rfl | rfl | rfl | rfl | rfl | rfl | rfl
  · by_cases h7 : m.k = 7
    · have H7 := Lib.hid h7
      go_wp2_with fail
      refine Calls.mono (CV.out _) ?_
      rintro e w' ⟨rfl, rfl⟩
      cases v1
      · go_wp2_with fail
        go_ret
        exact ⟨by rw [HB.out]; simp [H7.out], HBL.out⟩
      · go_wp2_with fail
        refine Calls.mono (CN.out _) ?_
        rintro e w' ⟨rfl, rfl⟩
        go_wp2_with fail
        go_ret
        exact ⟨by rw [HB.out]; simp [H7.out], HBL.out⟩
    · have H7 := Lib.hid h7
      go_wp2_with fail
      refine Calls.mono (CV.out _) ?_
      rintro e w' ⟨rfl, rfl⟩
      cases v1
      · go_wp2_with fail
        go_ret
        exact ⟨by rw [HB.out]; simp [H7.out], HBL.out⟩
      · go_wp2_with fail
        go_ret
        exact ⟨by rw [HB.out]; simp [H7.out], HBL.out⟩
  · go_wp2_with fail
    refine Calls.mono (CS.out _) ?_
    rintro e w' ⟨rfl, rfl⟩
    cases v3
    · go_wp2_with fail
      go_ret
      exact ⟨by rw [HB.out]; simp, HBL.out⟩
    · go_wp2_with fail
      refine Calls.mono (CH.out _) ?_
      rintro e w' ⟨rfl, rfl⟩
      cases v4
      · go_wp2_with fail
        go_ret
        exact ⟨by rw [HB.out]; simp, HBL.out⟩
      · go_wp2_with fail
        refine Calls.mono (CP.out _) ?_
        rintro e w' ⟨rfl, rfl⟩
        go_wp2_with fail
        go_ret
        exact ⟨by rw [HB.out]; simp, HBL.out⟩
  · go_upto_region 7 with fail
    refine wp_region_lit ?_
    refine wpList_load_row rfl 37 (.tmp 2) rfl w.heap.size rfl 37 _ (0, 0) _ HBX.out Tryz.underlying37 rfl (by rw [HSZ.out]; exact size37') ?_
    go_wp2_with fail
    refine Calls.mono (CR.out _) ?_
    rintro e w1 ⟨rfl, hb1⟩
    have HB1 := Lib.hid (HBL.out.trans (hb1.mono HBL.out.size))
    clear hb1
    go_wp2_with fail
    go_ret
    exact ⟨by rw [HB.out]; simp, HB1.out⟩
  · go_wp2_with fail
    go_ret
    exact ⟨by rw [HB.out]; simp, HBL.out⟩
  · by_cases h10 : m.k = 10
    · have H10 := Lib.hid h10
      go_wp2_with fail
      go_ret
      exact ⟨by rw [HB.out]; simp [H10.out], HBL.out⟩
    · have H10 := Lib.hid h10
      by_cases hc : m.ct = m.e
      · have HC := Lib.hid hc
        go_wp2_with fail
        go_ret
        exact ⟨by rw [HB.out]; simp [H10.out, HC.out], HBL.out⟩
      · have HC := Lib.hid hc
        go_wp2_with fail
        go_ret
        exact ⟨by rw [HB.out]; simp [H10.out, HC.out], HBL.out⟩
  · by_cases h8 : m.pg < 8
    · have H8 := Lib.hid h8
      go_wp2_with fail
      go_ret
      exact ⟨by rw [HB.out]; simp [H8.out], HBL.out⟩
    · have H8 := Lib.hid h8
      by_cases h11 : m.k = 11
      · have H11 := Lib.hid h11
        by_cases he : m.pg = 8
        · have HE := Lib.hid he
          go_wp2_with fail
          go_ret
          exact ⟨by rw [HB.out]; simp [H11.out, HE.out], HBL.out⟩
        · have HE := Lib.hid he
          go_wp2_with fail
          go_ret
          have e1 : (m.pg == 8) = false := by simp [HE.out]
          have e2 : decide (m.pg < 8) = false := by simp; omega
          exact ⟨by rw [HB.out]; simp [e2, H11.out, HE.out], HBL.out⟩
      · have H11 := Lib.hid h11
        go_wp2_with fail
        go_ret
        exact ⟨by rw [HB.out]; simp [H8.out, H11.out], HBL.out⟩
  · go_wp2_with fail
    go_ret
    exact ⟨by rw [HB.out]; simp, HBL.out⟩
  · simp only [Vt.cells] at HV
    go_wp2_with fail
    refine Calls.mono (HV.out (by first | rfl | trivial) _ HBL.out) ?_
    rintro e w1 ⟨rfl, hb1⟩
    have hsw : w.heap.size < W.heap.size := lt_of_block HBX.out
    have p15 := (hb1.cell (p := ⟨w.heap.size, 15, none⟩) hsw).trans q15
    have p16 := (hb1.cell (p := ⟨w.heap.size, 16, none⟩) hsw).trans q16
    have p1 := (hb1.cell (p := ⟨w.heap.size, 1, none⟩) hsw).trans q1
    have p3 := (hb1.cell (p := ⟨w.heap.size, 3, none⟩) hsw).trans q3
    have HB1 := Lib.hid (HBL.out.trans (hb1.mono HBL.out.size))
    clear hb1 hsw
    cases vb
    · go_wp2_with fail
      go_ret
      exact ⟨by rw [HB.out]; simp, HB1.out⟩
    · by_cases hf : m.vt.f = m.f
      · have d1 : (m.vt.f == m.f) = true := by simp [hf]
        have HF := Lib.hid hf
        clear hf
        by_cases he : m.vt.e = m.e
        · have d2 : (m.vt.e == m.e) = true := by simp [he]
          have HE := Lib.hid he
          clear he
          go_wp2_with fail
          go_ret
          exact ⟨by rw [HB.out]; simp [HF.out, HE.out], HB1.out⟩
        · have d2 : (m.vt.e == m.e) = false := by simp [he]
          have HE := Lib.hid he
          clear he
          go_wp2_with fail
          go_ret
          exact ⟨by rw [HB.out]; simp [HE.out], HB1.out⟩
      · have d1 : (m.vt.f == m.f) = false := by simp [hf]
        have HF := Lib.hid hf
        clear hf
        go_wp2_with fail
        go_ret
        exact ⟨by rw [HB.out]; simp [HF.out], HB1.out⟩
  · go_wp2_with fail
    refine Calls.mono (HVS.out (by first | rfl | trivial) _ HBL.out) ?_
    rintro e w1 ⟨rfl, hb1⟩
    have HB1 := Lib.hid (HBL.out.trans (hb1.mono HBL.out.size))
    clear hb1
    go_wp2_with fail
    go_ret
    exact ⟨by rw [HB.out]; simp, HB1.out⟩
  · by_cases h8 : m.sm.n = 8
    · have H8 := Lib.hid h8
      go_wp2_with fail
      go_ret
      exact ⟨by rw [HB.out]; simp [H8.out], HBL.out⟩
    · have H8 := Lib.hid h8
      have h8' : ¬ (m.sm.n : Int) = 8 := by omega
      clear h8
      go_wp2_with fail
      go_ret
      exact ⟨by rw [HB.out]; simp [H8.out]; have := H8.out; omega, HBL.out⟩
  · by_cases h8 : m.dt.n ≤ 64
    · have H8 := Lib.hid h8
      have h8' : (m.dt.n : Int) ≤ 64 := by omega
      clear h8
      go_wp2_with fail
      go_ret
      exact ⟨by rw [HB.out]; simp [H8.out], HBL.out⟩
    · have H8 := Lib.hid h8
      have h8' : ¬ (m.dt.n : Int) ≤ 64 := by omega
      clear h8
      go_wp2_with fail
      go_ret
      exact ⟨by rw [HB.out]; simp [H8.out], HBL.out⟩

def Mc.nil : Mc := ⟨⟨[], [], []⟩, [], [], []⟩
def Mc.step (c x : Mc) (p : Int) : Mc := if p = 7 then { x with vt := c.vt } else if p = 8 then { x with vs := c.vs } else if p = 9 then { x with sm := c.sm } else if p = 10 then { x with dt := c.dt } else x
def Mc.bare (c : Mc) (ps : List Int) : Mc := ps.foldl c.step Mc.nil

theorem MgAt.head (w : World) (m : Mg) : MgAt w m.head Mc.nil :=
  ⟨⟨Row.nil _ _ _, Row.nil _ _ _, Row.nil _ _ _⟩, ⟨Row.nil _ _ _, fun x hx => by cases hx⟩, Row.nil _ _ _, ⟨rfl, (fun i hi => by simp [Mc.nil] at hi), fun _ => rfl, Nat.le_refl _, by simp [Mc.nil], fun x hx => by simp [Mc.nil] at hx⟩⟩

theorem MgAt.step {w : World} {m x : Mg} {c d : Mc} (h : MgAt w m c) (hx : MgAt w x d) (p : Int) (h0 : 0 ≤ p) (h1 : p ≤ 10) : MgAt w (m.step x p) (c.step d p) := by
  have hcase : p = 0 ∨ p = 1 ∨ p = 2 ∨ p = 3 ∨ p = 4 ∨ p = 5 ∨ p = 6 ∨ p = 7 ∨ p = 8 ∨ p = 9 ∨ p = 10 := by omega
  obtain ⟨a1, a2, a3, a4⟩ := h
  obtain ⟨b1, b2, b3, b4⟩ := hx
  rcases hcase with rfl | rfl | rfl | rfl | rfl | rfl | rfl | rfl | rfl | rfl | rfl
  all_goals first | exact ⟨b1, b2, b3, b4⟩ | exact ⟨a1, b2, b3, b4⟩ | exact ⟨b1, a2, b3, b4⟩ | exact ⟨b1, b2, a3, b4⟩ | exact ⟨b1, b2, b3, a4⟩

theorem MgAt.bare {w : World} {m : Mg} {c : Mc} (h : MgAt w m c) : ∀ (ps : List Int), (∀ p ∈ ps, 0 ≤ p ∧ p ≤ 10) → MgAt w (m.bare ps) (c.bare ps) := by
  have key : ∀ (ps : List Int) (x : Mg) (d : Mc), MgAt w x d → (∀ p ∈ ps, 0 ≤ p ∧ p ≤ 10) → MgAt w (ps.foldl m.step x) (ps.foldl c.step d) := by
    intro ps
    induction ps with
    | nil => intro x d hx _; exact hx
    | cons p r ih => intro x d hx hp; exact ih _ _ (h.step hx p (hp p (by simp)).1 (hp p (by simp)).2) (fun q hq => hp q (by simp [hq]))
  intro ps hp
  exact key ps _ _ (MgAt.head w m) hp

def isB (m : Mg) (c : Mc) (vb vsb : Bool) : Bool := !decide (partsOf m.k = []) && (headB m && (sameM m c (m.bare (partsOf m.k)) (c.bare (partsOf m.k)) && (partsOf m.k).all (fitB m vb vsb)))

theorem partsOf_len (k : Int) : (partsOf k).length ≤ 3 := by
  by_cases h1 : k = 1
  · subst h1; decide
  by_cases h2 : k = 2
  · subst h2; decide
  by_cases h3 : k = 3
  · subst h3; decide
  by_cases h4 : k = 4
  · subst h4; decide
  by_cases h5 : k = 5
  · subst h5; decide
  by_cases h6 : k = 6
  · subst h6; decide
  by_cases h7 : k = 7
  · subst h7; decide
  by_cases h8 : k = 8
  · subst h8; decide
  by_cases h9 : k = 9
  · subst h9; decide
  by_cases h10 : k = 10
  · subst h10; decide
  by_cases h11 : k = 11
  · subst h11; decide
  by_cases h12 : k = 12
  · subst h12; decide
  by_cases h13 : k = 13
  · subst h13; decide
  by_cases h14 : k = 14
  · subst h14; decide
  · simp [partsOf, h1, h2, h3, h4, h5, h6, h7, h8, h9, h10, h11, h12, h13, h14]

set_option maxHeartbeats 8000000 in
theorem is_any (w : World) (m : Mg) (c : Mc) (hm : MgAt w m c) (vb vsb : Bool) (hv : 7 ∈ partsOf m.k → ∀ w1, Below w.heap.size w w1 → Calls Tryz.prog 14 #[.agg m.vt.cells.toArray] w1 fun e w2 => e = .returned (.bool vb) ∧ Below w1.heap.size w1 w2) (hvs : 8 ∈ partsOf m.k → ∀ w1, Below w.heap.size w w1 → Calls Tryz.prog 77 #[.slice m.vs.a m.vs.n m.vs.c, .int .u32 m.vw] w1 fun e w2 => e = .returned (.bool vsb) ∧ Below w1.heap.size w1 w2) :
    Calls Tryz.prog 10 #[.agg m.cells.toArray] w fun e w' => e = .returned (.bool (isB m c vb vsb)) ∧ Below w.heap.size w w' := by
  obtain ⟨b, hb⟩ : ∃ b, b = isB m c vb vsb := ⟨_, rfl⟩
  rw [← hb]
  unfold isB at hb
  have hps := partsOf_le m.k
  have hpl := partsOf_len m.k
  have CP := Lib.hid (parts_any m.k)
  have CH := Lib.hid (fun w' => isHead_any w' m)
  have CB := Lib.hid (fun w' ao cap h1 => bare_any w' m ao (partsOf m.k) cap h1 (by omega) hps)
  have CS := Lib.hid (fun w' (h : Below w.heap.size w w') => same_any w' m (m.bare (partsOf m.k)) _ _ (hm.below h) ((hm.below h).bare (partsOf m.k) hps))
  have CF := Lib.hid (fun w' (h : Below w.heap.size w w') p (hp : p ∈ partsOf m.k) => fits_any w' m vb vsb p (hps p hp).1 (hps p hp).2 (fun e w1 h1 => hv (e ▸ hp) w1 (Below.up h h1)) (fun e w1 h1 => hvs (e ▸ hp) w1 (Below.up h h1)))
  generalize hPS : partsOf m.k = ps at *
  generalize headB m = hd at CH hb
  generalize sameM m c (m.bare ps) (c.bare ps) = sb at CS hb
  generalize hbr : m.bare ps = br at CB CS
  have HB := Lib.hid hb
  have HPL := Lib.hid hpl
  obtain ⟨W, hW⟩ : ∃ W, W = w.alloc (.cells m.cells.toArray 37) := ⟨_, rfl⟩
  have hbx := bx1 hW
  have hbl := bl1 hW
  have q0 : W.cell? ⟨w.heap.size, 0, none⟩ = some (.int .u8 m.k) := cell_box hbx 0
  have HBX := Lib.hid hbx
  have HBL := Lib.hid hbl
  have HW := Lib.hid hW
  clear hW hbx hbl hb hv hvs hps hm hbr hPS
  simp only [Mg.cells] at HW ⊢
  go_enter Tryz.func10, Tryz.ntmps10
  go_upto_region 1 with fail
  rw [← HW.out]
  have eA := mgA m
  rw [eA]
  clear eA HW
  have hsz : m.cells.toArray.size = 25 := rfl
  generalize hA : m.cells.toArray = A at *
  generalize hBA : br.cells.toArray = BA at CB CS
  have HSZ := Lib.hid hsz
  clear hA hsz hBA
  generalize hln : ps.length = n at *
  have HLN := Lib.hid hln
  clear hln
  go_wp2_with fail
  refine Calls.mono (CP.out _) ?_
  rintro e w1 ⟨ao, rfl, hby, hno, hb1⟩
  have B1 := Lib.hid (HBL.out.trans (hb1.mono HBL.out.size))
  have HBY := Lib.hid hby
  have HNO := Lib.hid hno
  have X1 := Lib.hid ((hb1.block w.heap.size (lt_of_block HBX.out)).trans HBX.out)
  clear hb1 hby hno q0 CP
  go_wp2_with fail
  have hS0 := Below.refl w1.heap.size w1
  generalize hg : w.heap.size = g at *
  have XL := Lib.hid (fun w' (h : Below w1.heap.size w1 w') => (h.block g (lt_of_block X1.out)).trans X1.out)
  have LD := Lib.hid (fun w' h => by
    have := run_loadVar_row (P := Tryz.prog) w' g 37 37 A (0, 0) _ (XL.out w' h) Tryz.underlying37 rfl (by rw [HSZ.out]; exact size37)
    show (Instr.loadAt 37 (.pointer (some ⟨g, 0, none⟩))).run Tryz.prog w' = .ok (.agg A) w'
    simp only [Instr.loadAt, Instr.sureAddr, Sem.run_bind, Sem.run_pure, Result.andThen_ok, this])
  refine wp_region_held_drew (S := fun w' => Below w1.heap.size w1 w') (by kernel_rfl) hS0.drew (fun hS => ?_)
  by_cases hn0 : n = 0
  · have hnI : (n : Int) = 0 := by omega
    refine tm 0 (.slice ao n n) rfl hS ?_
    refine tg 1 (.int .i64 (n : Int)) rfl hS ?_
    refine tg 2 (.bool true) rfl hS ?_
    refine tm 3 (.bool true) rfl hS ?_
    refine tn 4 rfl hS ?_
    refine tn 5 rfl hS ?_
    refine tn 6 rfl hS ?_
    refine tm 7 (.bool true) rfl hS ?_
    refine tm 8 (.bool true) rfl hS ?_
    refine tn 9 rfl hS ?_
    refine tn 10 rfl hS ?_
    refine tn 11 rfl hS ?_
    refine tn 12 rfl hS ?_
    refine tn 13 rfl hS ?_
    refine tn 14 rfl hS ?_
    refine tm 15 (.bool true) rfl hS ?_
    refine wpAnyH_done (by kernel_rfl) ?_ _
    go_wp2_with fail
    go_ret
    refine ⟨?_, by rw [hg]; exact B1.out.trans (hS.mono (lt_of_block X1.out |> Nat.le_of_lt))⟩
    have he : ps = [] := List.eq_nil_of_length_eq_zero (by rw [HLN.out]; exact hn0)
    rw [HB.out]; simp [he]
  · have hnI : ¬ (n : Int) = 0 := by omega
    have HN0 := Lib.hid hn0
    have hne : decide (ps = []) = false := by simp; intro e; apply hn0; rw [← HLN.out, e]; rfl
    have HNE := Lib.hid hne
    clear hn0 hne
    refine tm 0 (.slice ao n n) rfl hS ?_
    refine tg 1 (.int .i64 (n : Int)) rfl hS ?_
    refine tk 2 (.bool false) rfl (.inl ⟨rfl, fun w' _ => by go_simp; omega⟩) hS ?_
    refine tm 3 (.bool false) rfl hS ?_
    refine tk 4 (.agg A) rfl (yi_load 37 (.tmp 1) _ rfl rfl rfl LD.out) hS ?_
    refine rdy1 5 rfl (fun K hK => ?_)
    rw [if_pos (by rfl)]
    go_simp
    refine Calls.mono (CH.out _) ?_
    rintro e w2 ⟨rfl, hb⟩
    refine hK.out _ w2 (Below.up hS hb) (fun hS => ?_)
    clear hK K
    cases hd
    · skip
      refine tg 6 (.bool true) rfl hS ?_
      refine tm 7 (.bool true) rfl hS ?_
      refine tm 8 (.bool true) rfl hS ?_
      refine tn 9 rfl hS ?_
      refine tn 10 rfl hS ?_
      refine tn 11 rfl hS ?_
      refine tn 12 rfl hS ?_
      refine tn 13 rfl hS ?_
      refine tn 14 rfl hS ?_
      refine tm 15 (.bool true) rfl hS ?_
      refine wpAnyH_done (by kernel_rfl) ?_ _
      go_wp2_with fail
      go_ret
      refine ⟨?_, by rw [hg]; exact B1.out.trans (hS.mono (lt_of_block X1.out |> Nat.le_of_lt))⟩
      rw [HB.out]; simp
    · skip
      refine tg 6 (.bool false) rfl hS ?_
      refine tm 7 (.bool false) rfl hS ?_
      refine tm 8 (.bool false) rfl hS ?_
      refine tk 9 (.agg A) rfl (yi_load 37 (.tmp 1) _ rfl rfl rfl LD.out) hS ?_
      refine tk 10 (.agg A) rfl (yi_load 37 (.tmp 1) _ rfl rfl rfl LD.out) hS ?_
      refine tm 11 (.slice ao n n) rfl hS ?_
      refine rdy1 12 rfl (fun K hK => ?_)
      rw [if_pos (by rfl)]
      go_simp
      refine Calls.mono (CB.out _ ao n (bytes_below HBY.out hS (Nat.le_refl _))) ?_
      rintro e w3 ⟨rfl, hb⟩
      refine hK.out _ w3 (Below.up hS hb) (fun hS => ?_)
      clear hK K
      refine rdy1 13 rfl (fun K hK => ?_)
      rw [if_pos (by rfl)]
      go_simp
      refine Calls.mono (CS.out _ (B1.out.trans (hS.mono (lt_of_block X1.out |> Nat.le_of_lt)))) ?_
      rintro e w4 ⟨rfl, hb⟩
      refine hK.out _ w4 (Below.up hS hb) (fun hS => ?_)
      clear hK K
      cases sb
      · skip
        refine tg 14 (.bool true) rfl hS ?_
        refine tm 15 (.bool true) rfl hS ?_
        refine wpAnyH_done (by kernel_rfl) ?_ _
        go_wp2_with fail
        go_ret
        refine ⟨?_, by rw [hg]; exact B1.out.trans (hS.mono (lt_of_block X1.out |> Nat.le_of_lt))⟩
        rw [HB.out]; simp
      · skip
        refine tg 14 (.bool false) rfl hS ?_
        refine tm 15 (.bool false) rfl hS ?_
        refine wpAnyH_done (by kernel_rfl) ?_ _
        have BW := Lib.hid hS
        clear hS hS0 hnI
        go_wp2_with fail
        go_loopw [27] (fun vi wr => ∃ j : Nat, j ≤ n ∧ vi = .int .i64 j ∧ Hid (Below w1.heap.size w1 wr) ∧ Hid ((ps.take j).all (fitB m vb vsb) = true)) (fun i _ => n - (intOf i).toNat)
        case atStart => exact ⟨0, by omega, rfl, BW, Lib.hid rfl⟩
        case round =>
          obtain ⟨j, hj, rfl, HR, HA⟩ := hrel
          by_cases hlt : j < n
          · obtain ⟨ad, rfl, hc⟩ := HBY.out j (by rw [HLN.out]; exact hlt)
            obtain ⟨p, hpd⟩ : ∃ p, p = ps.getD j 0 := ⟨_, rfl⟩
            rw [← hpd] at hc
            have hj' : ps[j]? = some p := by rw [hpd, List.getD_eq_getElem?_getD, List.getElem?_eq_getElem (by rw [HLN.out]; exact hlt)]; rfl
            have hmem : p ∈ ps := List.mem_of_getElem? hj'
            have hcc : wr.cell? (ad.add j) = some (.int .u8 p) := (HR.out.cell (cell_block hc)).trans hc
            have hs : ps.take (j + 1) = ps.take j ++ [p] := by rw [List.take_add_one, hj']; rfl
            have HS := Lib.hid hs
            have HMEM := Lib.hid hmem
            have F := Lib.hid (CF.out wr (B1.out.trans (HR.out.mono (lt_of_block X1.out |> Nat.le_of_lt))) p hmem)
            have XW := Lib.hid (XL.out wr HR.out)
            generalize hfp : fitB m vb vsb p = fp at F
            have HFP := Lib.hid hfp
            clear hpd hj' hmem hs hc hfp
            go_upto_region 7 with fail
            refine wp_region_lit ?_
            refine wpList_load_row rfl 37 (.tmp 1) rfl g rfl 37 _ (0, 0) _ XW.out Tryz.underlying37 rfl (by rw [HSZ.out]; exact size37) ?_
            go_wp2_with fail
            refine Calls.mono F.out ?_
            rintro e w5 ⟨rfl, hb5⟩
            have B5 := Lib.hid (HR.out.trans (hb5.mono HR.out.size))
            clear hb5
            cases fp
            · go_wp2_with fail
              go_ret
              refine ⟨?_, by rw [hg]; exact B1.out.trans (B5.out.mono (lt_of_block X1.out |> Nat.le_of_lt))⟩
              rw [HB.out]
              have : ps.all (fitB m vb vsb) = false := by rw [List.all_eq_false]; exact ⟨p, HMEM.out, by simp [HFP.out]⟩
              simp [this]
            · go_wp2_with fail
              go_round
              case measure => simp [intOf]; omega
              case rel => exact ⟨j + 1, by omega, by go_num, B5, Lib.hid (by rw [HS.out, List.all_append, HA.out]; simp [HFP.out])⟩
          · obtain rfl : j = n := by omega
            go_wp2_with fail
            go_ret
            refine ⟨?_, by rw [hg]; exact B1.out.trans (HR.out.mono (lt_of_block X1.out |> Nat.le_of_lt))⟩
            have hall := HA.out
            rw [List.take_of_length_le (by rw [HLN.out]; exact Nat.le_refl _)] at hall
            rw [HB.out, HNE.out, hall]; rfl
end Go.Proofs.YtbpfkeeikhhlnaaGreatDoor
