/- The votes of a new view, one by one: what stands behind each. -/
import Derived.Test.YtigpfaecbmnklaaDoorVo7
import Derived.Test.YtigpfaecbmnklaaDoorKnow7
import Derived.Test.YtigpfaecbmnklaaDoorVotesB
import Derived.Deep.CutBlock
import Derived.Deep.CutRange
import Derived.Maps.AppendAt
namespace Go.Proofs.YtigpfaecbmnklaaDoor
open Go.RowKit Go.Maps
set_option maxRecDepth 100000

theorem info32 : (Tryd.prog.info? 32).map (fun i => (i.zero, i.size, i.bytes)) = some (some (.agg #[.int .u8 0, .int .u8 0, .int .u32 0, .int .u32 0, .slice none 0 0, .slice none 0 0, .slice none 0 0]), 7, 88) := by kernel_rfl

/-- the vote of the i-th replica -/
def vI (i : Int) : Vt := ⟨i, 1, 1, 4, ⟨none, 0, 0⟩, ⟨none, 0, 0⟩, ⟨none, 0, 0⟩⟩
def vcN : Vc := ⟨[], [], []⟩
/-- the new view, as it is laid, its votes at s -/
def nV (s : Sl) : Mg := { hm 7 1 2 1 with vw := 1, vs := s }
/-- the message that casts the i-th vote, to the last replica -/
def cV (i : Int) : Mg := { hm 6 i 3 1 with vt := vI i }
def vsI (j : Nat) : List (Vt × Vc) := (List.range j).map fun (i : Nat) => (vI (i : Int), vcN)
def mcI (j : Nat) : Mc := { Mc.nil with vs := vsI j }

/-- what is known behind j votes: hb: whose key is there, sb: whose vote was seen -/
def stK (hb sb : Nat → Bool) : Nat → Kn
  | 0 => Kn.none
  | j + 1 => if sb j then seeV (if hb j then learnK (stK hb sb j) ⟨(j : Int), 1⟩ else stK hb sb j) (cV j) Mc.nil else if hb j then learnK (stK hb sb j) ⟨(j : Int), 1⟩ else stK hb sb j
/-- whether the new view can be made -/
def okJ (hb sb : Nat → Bool) : Nat → Bool
  | 0 => hb 1
  | j + 1 => okJ hb sb j && (hb j || sb j)

theorem ten (a0 a1 a2 b0 b1 b2 : Bool) : let hb : Nat → Bool := fun i => if i = 0 then a0 else if i = 1 then a1 else a2
    let sb : Nat → Bool := fun i => if i = 0 then b0 else if i = 1 then b1 else b2
    canV (stK hb sb 3) (nV ⟨none, 0, 0⟩) (mcI 3) = if okJ hb sb 3 then 0 else 40 := by
  revert a0 a1 a2 b0 b1 b2
  decide +kernel

theorem ownV_form {w : World} {n : Nat} {v : Value} {xs : List Value} (h : w.ownsRow 0 32 7 v n xs) : ∃ ao cap, v = .slice ao n cap := by
  rcases h.2 with ⟨rfl, rfl⟩ | ⟨g, cap, cur, rfl, _⟩
  · exact ⟨none, 0, rfl⟩
  · exact ⟨_, cap, rfl⟩
theorem ownV_kept {S : Nat → Prop} {w w' : World} {n : Nat} {v : Value} {xs : List Value} (h : w.ownsRow 0 32 7 v n xs) (hk : Kept S w w') (hS : ∀ g, v.ownBlock = some g → ¬ S g) : w'.ownsRow 0 32 7 v n xs := by
  refine ⟨h.1, ?_⟩
  rcases h.2 with hn | ⟨g, cap, cur, rfl, hb, hgg, rest⟩
  · exact .inl hn
  · refine .inr ⟨g, cap, cur, rfl, hb, ?_, rest⟩
    rw [hk.block g (lt_of_block hgg) (hS g rfl)]
    exact hgg
theorem ownV_stay {w w' : World} {n B : Nat} {v : Value} {xs : List Value} (h : w.ownsRow 0 32 7 v n xs) (hs : ∀ (g : Nat) (A : Array Value) (t : TypeId) (fr : Nat × Nat), g ≠ B → w.heap[g]? = some (Obj.cells A t fr) → w'.heap[g]? = some (Obj.cells A t fr)) (hne : ∀ g, v.ownBlock = some g → g ≠ B) : w'.ownsRow 0 32 7 v n xs := by
  refine ⟨h.1, ?_⟩
  rcases h.2 with hn | ⟨g, cap, cur, rfl, hb, hgg, rest⟩
  · exact .inl hn
  · exact .inr ⟨g, cap, cur, rfl, hb, hs _ _ _ _ (hne g rfl) hgg, rest⟩
theorem newsV (X : World) (cs : List Value) (e : TypeId) : ∀ j u, cs[j]? = some u → (X.alloc (.cells cs.toArray e)).cell? ((⟨X.heap.size, 0, none⟩ : Addr).add j) = some u := by
  intro j u hu
  have e7 : (⟨X.heap.size, 0, none⟩ : Addr).add j = ⟨X.heap.size, j, none⟩ := by
    unfold Addr.add
    split
    · rename_i h8; subst h8; rfl
    · simp
  rw [e7, cell_of_row _ _ _ _ _ _ (heap_alloc_new _ _)]
  simpa using hu

/-- behind j votes -/
def LayV (w wr : World) (B M j : Nat) (S : Kn) : Prop :=
  ∃ ao cap, wr.heap[M]? = some (.cells (nV ⟨ao, j, cap⟩).cells.toArray 37 (0, 0)) ∧ wr.ownsRow 0 32 7 (.slice ao j cap) j (((List.range j).map fun (i : Nat) => vI (i : Int)).flatMap Vt.cells) ∧ (∀ g, (Value.slice ao j cap).ownBlock = some g → M < g) ∧ Kw w.heap.size wr B S ∧ Below w.heap.size w wr ∧ w.heap.size ≤ M ∧ B < M
theorem LayV.on {w wr wx : World} {B M j : Nat} {S : Kn} (h : LayV w wr B M j S) (hb : Below wr.heap.size wr wx) : LayV w wx B M j S := by
  obtain ⟨ao, cap, h1, h2, h3, h4, h5, h6, h7⟩ := h
  exact ⟨ao, cap, (hb.block _ (lt_of_block h1)).trans h1, ownV_kept h2 (Kept.ofBelow (S := fun _ => False) hb) (fun _ _ h => h), h3, h4.on hb, h5.trans (hb.mono h5.size), h6, h7⟩
theorem LayV.step {w wr wx : World} {B M j : Nat} {S S' : Kn} (h : LayV w wr B M j S) (hk : Kw w.heap.size wx B S') (hs : KStep w.heap.size B wr wx) : LayV w wx B M j S' := by
  obtain ⟨ao, cap, h1, h2, h3, h4, h5, h6, h7⟩ := h
  exact ⟨ao, cap, hs.stay _ _ _ _ (by omega) h1, ownV_stay h2 hs.stay (fun g e => by have := h3 g e; omega), h3, hk, h5.trans hs.bel, h6, h7⟩
theorem LayV.kw {w wr : World} {B M j : Nat} {S : Kn} (h : LayV w wr B M j S) : Kw w.heap.size wr B S := by obtain ⟨ao, cap, h1, h2, h3, h4, h5, h6, h7⟩ := h; exact h4
theorem LayV.bel {w wr : World} {B M j : Nat} {S : Kn} (h : LayV w wr B M j S) : Below w.heap.size w wr := by obtain ⟨ao, cap, h1, h2, h3, h4, h5, h6, h7⟩ := h; exact h5

/-- the i-th bit -/
def bitB (a : Int) (i : Nat) : Bool := decide (a / 2 ^ i % 2 = 1)

theorem KwAt.keptC {H : Nat} {T : Nat → Prop} {w w' : World} {B : Nat} {S : Kn} {o : Nat → Option Nat} (h : KwAt H w B S o) (hk : Kept T w w') (hB : ¬ T B) (hT : ∀ k, T k → ∃ A t fr, w.heap[k]? = some (.cells A t fr)) : KwAt H w' B S o := by
  have hn : ∀ {α : Type} {enc : α → Value} {K : TypeId} {oo : Option Nat} {xs : List α}, SetIs enc w K oo xs → ∀ b, oo = some b → ¬ T b := fun hs b e hb => by
    obtain ⟨ls, _, _, h3⟩ := hs
    obtain ⟨es, clock, hb2, _⟩ := h3 b e
    obtain ⟨A, t, fr, h4⟩ := hT b hb
    rw [h4] at hb2; cases hb2
  exact ⟨by rw [hk.block B (lt_of_block h.box) hB]; exact h.box, h.k.kept hk (hn h.k), h.r.kept hk (hn h.r), h.m.kept hk (hn h.m), h.v.kept hk (hn h.v), h.hB, h.ne, h.sep⟩
theorem Kw.keptC {H : Nat} {T : Nat → Prop} {w w' : World} {B : Nat} {S : Kn} (h : Kw H w B S) (hk : Kept T w w') (hB : ¬ T B) (hT : ∀ k, T k → ∃ A t fr, w.heap[k]? = some (.cells A t fr)) : Kw H w' B S := let ⟨o, h⟩ := h; ⟨o, h.keptC hk hB hT⟩
theorem ownV_cells {w : World} {n : Nat} {v : Value} {xs : List Value} (h : w.ownsRow 0 32 7 v n xs) : ∀ k, some k = v.ownBlock → ∃ A t fr, w.heap[k]? = some (.cells A t fr) := by
  intro k e
  rcases h.2 with ⟨rfl, _⟩ | ⟨g', cap, cur, rfl, hb, hgg, rest⟩
  · simp [Value.ownBlock] at e
  · simp [Value.ownBlock] at e
    subst e
    exact ⟨_, _, _, hgg⟩
theorem ownV_lt {w : World} {n : Nat} {v : Value} {xs : List Value} (h : w.ownsRow 0 32 7 v n xs) : ∀ k, some k = v.ownBlock → k < w.heap.size := fun k e => by
  obtain ⟨A, t, fr, h⟩ := ownV_cells h k e
  exact lt_of_block h
theorem nV_set (ao ao5 : Option Addr) (j j5 cap cap5 : Nat) : (nV ⟨ao, j, cap⟩).cells.toArray.setIfInBounds 22 (.slice ao5 j5 cap5) = (nV ⟨ao5, j5, cap5⟩).cells.toArray := by
  simp [nV, hm, Mg.cells]
theorem LayV.app {w V w5 : World} {B M j : Nat} {S : Kn} {ao ao5 : Option Addr} {cap cap5 : Nat} (g1 : V.heap[M]? = some (.cells (nV ⟨ao, j, cap⟩).cells.toArray 37 (0, 0))) (g2 : V.ownsRow 0 32 7 (.slice ao j cap) j (((List.range j).map fun (i : Nat) => vI (i : Int)).flatMap Vt.cells))
    (g3 : ∀ g, (Value.slice ao j cap).ownBlock = some g → M < g) (g4 : Kw w.heap.size V B S) (g5 : Below w.heap.size w V) (g6 : w.heap.size ≤ M) (g7 : B < M)
    (ho5 : w5.ownsRow 0 32 7 (.slice ao5 (j + 1) cap5) (j + 1) ((((List.range j).map fun (i : Nat) => vI (i : Int)).flatMap Vt.cells) ++ (vI (j : Int)).cells)) (hg5 : V.grownBy w5 (Value.slice ao j cap).ownBlock) (hl5 : (Value.slice ao5 (j + 1) cap5).ownBlock = (Value.slice ao j cap).ownBlock ∨ (Value.slice ao5 (j + 1) cap5).ownBlock = some V.heap.size) :
    LayV w (w5.setCell ⟨M, 22, none⟩ (.slice ao5 (j + 1) cap5)) B M (j + 1) S ∧ w5.cell? ⟨M, 22, none⟩ = some (.slice ao j cap) ∧ w5.frozen? ⟨M, 22, none⟩ = false ∧
      ∀ g, g ≠ M → (∀ k, some k = (Value.slice ao j cap).ownBlock → g ≠ k) → g < V.heap.size → (w5.setCell ⟨M, 22, none⟩ (.slice ao5 (j + 1) cap5)).heap[g]? = V.heap[g]? := by
  have hk5 := Kept.ofGrown hg5
  have hMne : ¬ (some M = (Value.slice ao j cap).ownBlock) := fun e => by have := g3 M e.symm; omega
  have hM5 : w5.heap[M]? = some (.cells (nV ⟨ao, j, cap⟩).cells.toArray 37 (0, 0)) := by rw [hk5.block M (lt_of_block g1) hMne]; exact g1
  have hown5 : ∀ g, (Value.slice ao5 (j + 1) cap5).ownBlock = some g → M < g := fun g e => by
    rcases hl5 with e' | e'
    · exact g3 g (e'.symm.trans e)
    · rw [e'] at e; injection e with e; have := lt_of_block g1; omega
  have hbel5 : Below w.heap.size w w5 := g5.trans (hk5.below (B := w.heap.size) g5.size (fun g e => by have h7 := g3 g e.symm; omega))
  have hkw5 : Kw w.heap.size w5 B S := g4.keptC hk5 (fun e => by have := g3 B e.symm; omega) (fun k e => ownV_cells g2 k e)
  have hkM : Kept (fun b => b = M) w5 (w5.setCell ⟨M, 22, none⟩ (.slice ao5 (j + 1) cap5)) := (Kept.refl (fun b => b = M) w5).setCell ⟨M, 22, none⟩ _ (fun _ => rfl)
  refine ⟨⟨ao5, cap5, ?_, ?_, hown5, hkw5.keptC hkM (by omega) (fun k e => by subst e; exact ⟨_, _, _, hM5⟩), hbel5.setCell g6 _, g6, g7⟩, by rw [cell_of_row _ _ _ _ _ _ hM5]; rfl, frozen_of_row _ _ _ _ _ hM5, ?_⟩
  · rw [← nV_set ao ao5 j (j + 1) cap cap5]
    exact heap_setCell_same _ _ _ _ _ _ hM5
  · rw [List.range_succ, List.map_append, List.flatMap_append]
    simp only [List.map_cons, List.map_nil, List.flatMap_cons, List.flatMap_nil, List.append_nil]
    exact ownV_kept ho5 hkM (fun g e h => by have := hown5 g e; omega)
  · intro g hg hgk hlt
    exact (hkM.block g (Nat.lt_of_lt_of_le hlt hk5.size) hg).trans (hk5.block g hlt (fun e => hgk g e rfl))

def hbF (a : Int) : Nat → Bool := fun i => if i = 0 then (bits .and .u8 a 1 == 1) else if i = 1 then (bits .and .u8 (a / 2) 1 == 1) else (bits .and .u8 (a / 4) 1 == 1)

theorem learn_len (S : Kn) (k : Ky) : (learnK S k).k.length ≤ S.k.length + 1 ∧ (learnK S k).m = S.m ∧ (learnK S k).v = S.v := by
  unfold learnK
  split
  · simp
  · simp
theorem see_len (S : Kn) (m : Mg) (c : Mc) : (seeV S m c).k = S.k ∧ (seeV S m c).m.length ≤ S.m.length + 1 ∧ (seeV S m c).v.length ≤ S.v.length + 1 := by
  unfold seeV
  split
  · simp
  · simp
theorem stK_len (hb sb : Nat → Bool) (j : Nat) : (stK hb sb j).k.length ≤ j ∧ (stK hb sb j).m.length ≤ j ∧ (stK hb sb j).v.length ≤ j := by
  induction j with
  | zero => simp [stK, Kn.none]
  | succ j ih =>
    obtain ⟨i1, i2, i3⟩ := ih
    have l := learn_len (stK hb sb j) ⟨(j : Int), 1⟩
    obtain ⟨l1, l2, l3⟩ := l
    have s1 := see_len (learnK (stK hb sb j) ⟨(j : Int), 1⟩) (cV j) Mc.nil
    have s2 := see_len (stK hb sb j) (cV j) Mc.nil
    rw [l2, l3] at s1
    obtain ⟨a1, a2, a3⟩ := s1
    obtain ⟨b1, b2, b3⟩ := s2
    unfold stK
    cases hb j <;> cases sb j
    · simp; omega
    · simp; rw [b1]; omega
    · simp; rw [l2, l3]; omega
    · simp; rw [a1]; omega
theorem cV_at (w : World) (i : Int) : MgAt w (cV i) Mc.nil := nil_at w _ ⟨rfl, rfl, rfl⟩ rfl rfl rfl
theorem ten' (a0 a1 : Int) (s : Sl) : canV (stK (hbF a0) (hbF a1) 3) (nV s) (mcI 3) = if okJ (hbF a0) (hbF a1) 3 then 0 else 40 :=
  ten (bits .and .u8 a0 1 == 1) (bits .and .u8 (a0 / 2) 1 == 1) (bits .and .u8 (a0 / 4) 1 == 1) (bits .and .u8 a1 1 == 1) (bits .and .u8 (a1 / 2) 1 == 1) (bits .and .u8 (a1 / 4) 1 == 1)
theorem vsI_flat : (vsI 3).flatMap vcell = ((List.range 3).map fun (i : Nat) => vI (i : Int)).flatMap Vt.cells := rfl
theorem nV_at {w wr : World} {B M : Nat} {S : Kn} (h : LayV w wr B M 3 S) : ∃ s : Sl, wr.heap[M]? = some (.cells (nV s).cells.toArray 37 (0, 0)) ∧ MgAt wr (nV s) (mcI 3) := by
  obtain ⟨ao, cap, g1, g2, g3, g4, g5, g6, g7⟩ := h
  refine ⟨⟨ao, 3, cap⟩, g1, ?_⟩
  have hn := nil_at wr (hm 0 0 0 0) ⟨rfl, rfl, rfl⟩ rfl rfl rfl
  refine ⟨hn.vt, ⟨?_, fun x hx => ?_⟩, hn.sm, hn.dt⟩
  · rw [← vsI_flat] at g2
    exact row_of_own (fun x hx => rfl) g2 rfl (by decide : 3 ≤ 1000000)
  · simp only [mcI, vsI, List.mem_map] at hx
    obtain ⟨i, _, rfl⟩ := hx
    exact ⟨Row.nil _ _ _, Row.nil _ _ _, Row.nil _ _ _⟩
theorem mcI_ok : McOk (mcI 3) := ⟨⟨fun x hx => (by cases hx), fun x hx => (by cases hx)⟩, fun x hx => by
  simp only [mcI, vsI, List.mem_map] at hx
  obtain ⟨i, _, rfl⟩ := hx
  exact ⟨fun x hx => (by cases hx), fun x hx => (by cases hx)⟩⟩
theorem nV_no (s : Sl) : NoEn (vsOf (nV s) ((mcI 3).vs.map (·.1))) := by
  intro x hx
  have h6 : ¬ (nV s).k = 6 := (by decide : ¬ (7 : Int) = 6)
  unfold vsOf at hx
  rw [if_neg h6] at hx
  simp only [mcI, vsI, List.map_map, List.mem_map] at hx
  obtain ⟨i, _, rfl⟩ := hx
  exact ⟨rfl, rfl⟩
theorem nV_ky : ∀ x ∈ (mcI 3).vs, Ky.ok ⟨x.1.f, x.1.e⟩ := by
  intro x hx
  simp only [mcI, vsI, List.mem_map, List.mem_range] at hx
  obtain ⟨i, hi, rfl⟩ := hx
  unfold Ky.ok
  simp only [vI]
  omega
end Go.Proofs.YtigpfaecbmnklaaDoor
