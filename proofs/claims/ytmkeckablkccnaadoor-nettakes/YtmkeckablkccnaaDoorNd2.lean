/- NetDoubles: the bag and the row beside it; the walk. -/
import Derived.Test.YtmkeckablkccnaaDoorNc12
import Derived.BigQuiet
namespace Go.Proofs.YtmkeckablkccnaaDoor
open Go.RowKit
set_option maxRecDepth 100000

def ckM (s : Int) : Mg := { zeroM with k := 5, f := 0, t := 1, e := 1, sq := s }
theorem ckM_nil (t : Int) : Mnil (ckM t) := ⟨⟨rfl, rfl, rfl⟩, rfl, rfl, rfl⟩
theorem ckM_is20 : ∀ i : Fin 20, isM (ckM (i.val : Int)) Mc.nil = true := by decide +kernel
theorem ckM_is {j : Nat} (h : j < 20) : isM (ckM (j : Int)) Mc.nil = true := ckM_is20 ⟨j, h⟩
def us (l : List Int) : List Value := l.map (Value.int .u32)
def rng (j : Nat) : List Int := (List.range j).map Int.ofNat
theorem rng_succ (j : Nat) : rng (j + 1) = rng j ++ [(j : Int)] := by simp [rng, List.range_succ]
theorem rng_len (j : Nat) : (rng j).length = j := by simp [rng]

theorem Bo.kept {S : Nat → Prop} {w0 w w' : World} {B : Nat} {g : Option Nat} {l : List Mg} (h : Bo w0 w B g l) (hk : Kept S w w') (hS : ∀ k, S k → w0.heap.size ≤ k) (hB : ¬ S B) (hg : ∀ x, g = some x → ¬ S x) : Bo w0 w' B g l :=
  ⟨h.bag.kept hk hB hg, h.bel.trans (hk.below h.bel.size hS), h.hB, h.hg⟩

/-- a bag of xs; beside it a row v that holds ys -/
structure Dbl (w0 w : World) (B : Nat) (g : Option Nat) (v : Value) (xs ys : List Int) : Prop where
  bo : Bo w0 w B g (xs.map ckM)
  own : w.ownsRow 0 22 1 v ys.length (us ys)
  ge : ∀ k, v.ownBlock = some k → w0.heap.size ≤ k ∧ k ≠ B ∧ g ≠ some k

theorem Dbl.step {w0 w w' : World} {B : Nat} {g g' : Option Nat} {v : Value} {xs xs' ys : List Int} (h : Dbl w0 w B g v xs ys) (hb : Bag w' B g' (xs'.map ckM)) (hk : Gone w B g w' g') : Dbl w0 w' B g' v xs' ys := by
  refine ⟨h.bo.step hb hk, own_kept' h.own hk.1 (fun k e hS => ?_), fun k e => ?_⟩
  · obtain ⟨_, h2, h3⟩ := h.ge k e
    rcases hS with hS | hS
    · exact h2 hS
    · exact h3 hS.symm
  · obtain ⟨h1, h2, h3⟩ := h.ge k e
    exact ⟨h1, h2, (hk.far (own_lt' h.own e) h2 h3).2⟩
theorem Dbl.below {w0 w w' : World} {B : Nat} {g : Option Nat} {v : Value} {xs ys : List Int} (h : Dbl w0 w B g v xs ys) (hb : Below w.heap.size w w') : Dbl w0 w' B g v xs ys :=
  h.step (h.bo.bag.below hb) (Gone.below hb)
theorem Dbl.grow {w0 w w' : World} {B : Nat} {g : Option Nat} {v v' : Value} {n : Nat} {xs ys ys' : List Int} (h : Dbl w0 w B g v xs ys) (ho : w'.ownsRow 0 22 1 v' n (us ys')) (hk : Kept (fun k => some k = v.ownBlock) w w')
    (hg : v'.ownBlock = v.ownBlock ∨ v'.ownBlock = some w.heap.size) : Dbl w0 w' B g v' xs ys' := by
  have hl := h.bo.bag.lt
  have hs := h.bo.bel.size
  have hn : n = ys'.length := by have := ho.1; simp [us] at this; omega
  subst hn
  refine ⟨h.bo.kept hk (fun k e => (h.ge k e.symm).1) (fun e => (h.ge B e.symm).2.1 rfl) (fun x e e2 => (h.ge x e2.symm).2.2 e), ho, fun k e => ?_⟩
  rcases hg with e1 | e1
  · exact h.ge k (by rw [← e1, e])
  · rw [e1] at e
    injection e with e
    subst e
    exact ⟨hs, by omega, fun e => by have := hl.2 _ e; omega⟩
theorem Dbl.at {w0 w : World} {B : Nat} {g : Option Nat} {v : Value} {xs ys : List Int} {p : Nat} {x : Int} (h : Dbl w0 w B g v xs ys) (hp : ys[p]? = some x) : ∃ b cap, v = .slice (some ⟨b, 0, none⟩) ys.length cap ∧ w.cell? ⟨b, p, none⟩ = some (.int .u32 x) := by
  have hlt : p < ys.length := (List.getElem?_eq_some_iff.1 hp).1
  have ho := h.own
  rcases h.own.2 with ⟨e, e0⟩ | ⟨b, cap', cur, e, _, hb, r1, r2, r3, r4⟩
  · omega
  · subst e
    refine ⟨b, cap', rfl, ?_⟩
    have := ho.cells (g := b) rfl p (.int .u32 x) (by simp [us, hp])
    rw [Addr.add_lit, Nat.zero_add] at this
    exact this

theorem row_u32 (w : World) (s : Int) : Row (w.alloc (.cells #[.int .u32 s] 22)) 1 (fun x => [Value.int .u32 x]) (.slice (some ⟨w.heap.size, 0, none⟩) 1 1) [s] := by
  refine ⟨some ⟨w.heap.size, 0, none⟩, 1, rfl, (fun e => by cases e), by simp, by simp, fun j x hj => ⟨w.heap.size, 0, rfl, fun i u hu => ?_⟩⟩
  have hb : (w.alloc (.cells #[.int .u32 s] 22)).heap[w.heap.size]? = some (.cells #[.int .u32 s] 22 (0, 0)) := heap_alloc_new _ _
  match j, hj with
  | 0, hj =>
    simp at hj
    subst hj
    match i, hu with
    | 0, hu =>
      simp at hu
      subst hu
      rw [cell_of_row _ _ _ _ _ _ hb]
      rfl
    | i + 1, hu => simp at hu
  | j + 1, hj => simp at hj
theorem info22 : (Tryd.prog.info? 22).map (fun i => (i.zero, i.size, i.bytes)) = some (some (.int .u32 0), 1, 4) := by kernel_rfl
end Go.Proofs.YtmkeckablkccnaaDoor
