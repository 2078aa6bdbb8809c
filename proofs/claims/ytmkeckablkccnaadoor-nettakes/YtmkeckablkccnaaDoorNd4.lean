/- NetTakes: which are still in the bag; the bag and the array beside it. -/
import Derived.Test.YtmkeckablkccnaaDoorNd3
namespace Go.Proofs.YtmkeckablkccnaaDoor
open Go.RowKit
set_option maxRecDepth 100000

def cmM (s : Int) : Mg := { zeroM with k := 4, f := 1, t := 2, e := 1, sq := s }
theorem cmM_nil (t : Int) : Mnil (cmM t) := ⟨⟨rfl, rfl, rfl⟩, rfl, rfl, rfl⟩
def tkM (i : Nat) : Mg := cmM ((i : Int) + 1)
theorem tkM_is60 : ∀ i : Fin 60, isM (tkM i.val) Mc.nil = true := by decide +kernel
theorem tkM_is {j : Nat} (h : j < 60) : isM (tkM j) Mc.nil = true := tkM_is60 ⟨j, h⟩

def cnt (un : Nat → Bool) : Nat → Nat
  | 0 => 0
  | k + 1 => cnt un k + (if un k then 1 else 0)
theorem cnt_all {un : Nat → Bool} : ∀ {k : Nat}, (∀ j, j < k → un j = true) → cnt un k = k
  | 0, _ => rfl
  | k + 1, h => by
    unfold cnt
    rw [cnt_all (fun j hj => h j (by omega)), h k (by omega)]
    rfl
theorem cnt_congr {f g : Nat → Bool} : ∀ {k : Nat}, (∀ j, j < k → f j = g j) → cnt f k = cnt g k
  | 0, _ => rfl
  | k + 1, h => by
    unfold cnt
    rw [cnt_congr (fun j hj => h j (by omega)), h k (by omega)]
def less (un : Nat → Bool) (s : Nat) : Nat → Bool := fun j => un j && decide (j ≠ s)
theorem cnt_less {un : Nat → Bool} {s : Nat} (hu : un s = true) : ∀ {k : Nat}, s < k → cnt (less un s) k + 1 = cnt un k
  | 0, h => by omega
  | k + 1, h => by
    unfold cnt
    by_cases e : s = k
    · subst e
      rw [cnt_congr (f := less un s) (g := un) (fun j hj => by simp [less, show j ≠ s by omega]), hu]
      simp [less]
    · have := cnt_less hu (k := k) (by omega)
      have e2 : less un s k = un k := by simp [less, show ¬ k = s by omega]
      rw [e2]
      omega

/-- those that are left: no one twice, each of them not seen yet; as many as aren't seen -/
structure Pk (k : Nat) (ss : List Nat) (un : Nat → Bool) : Prop where
  nd : ss.Nodup
  inn : ∀ s ∈ ss, s < k ∧ un s = true
  cn : cnt un k = ss.length
theorem Pk.next {k : Nat} {ss : List Nat} {un : Nat → Bool} {p s : Nat} (h : Pk k ss un) (hp : ss[p]? = some s) : Pk k (ss.eraseIdx p) (less un s) := by
  obtain ⟨hlt, hs⟩ := List.getElem?_eq_some_iff.1 hp
  have hm := h.inn s (List.mem_of_getElem? hp)
  refine ⟨h.nd.sublist (List.eraseIdx_sublist ..), fun t ht => ?_, ?_⟩
  · have ht1 := h.inn t (List.mem_of_mem_eraseIdx ht)
    refine ⟨ht1.1, ?_⟩
    have hne : t ≠ s := by
      intro e
      obtain ⟨i, hi, hne, hti⟩ := List.mem_eraseIdx_iff_getElem.1 ht
      exact hne ((List.getElem_inj h.nd).1 (by rw [hti, hs, e]))
    simp [less, ht1.2, hne]
  · have := cnt_less hm.2 hm.1
    have := h.cn
    rw [List.length_eraseIdx_of_lt hlt]
    omega
theorem Pk.first (k : Nat) : Pk k (List.range k) (fun _ => true) := ⟨List.nodup_range, fun s hs => ⟨List.mem_range.1 hs, rfl⟩, by rw [cnt_all (fun _ _ => rfl), List.length_range]⟩

/-- a bag; beside it the array of those that were seen -/
structure Ts (w0 w : World) (B : Nat) (g : Option Nat) (S T : Nat) (L : List Mg) (un : Nat → Bool) : Prop where
  bo : Bo w0 w B g L
  blk : ∃ Z : Array Value, w.heap[S]? = some (.cells Z T (0, 0)) ∧ ∀ j, j < 60 → Z[j]? = some (.bool (!un j))
  ge : w0.heap.size ≤ S
  neB : S ≠ B
  neg : g ≠ some S
theorem Ts.lt {w0 w : World} {B : Nat} {g : Option Nat} {S T : Nat} {L : List Mg} {un : Nat → Bool} (h : Ts w0 w B g S T L un) : S < w.heap.size := by
  obtain ⟨Z, hZ, _⟩ := h.blk
  exact lt_of_block hZ
theorem Ts.step {w0 w w' : World} {B : Nat} {g g' : Option Nat} {S T : Nat} {L L' : List Mg} {un : Nat → Bool} (h : Ts w0 w B g S T L un) (hb : Bag w' B g' L') (hk : Gone w B g w' g') : Ts w0 w' B g' S T L' un := by
  obtain ⟨f1, f2⟩ := hk.far h.lt h.neB h.neg
  obtain ⟨Z, hZ, hc⟩ := h.blk
  exact ⟨h.bo.step hb hk, ⟨Z, by rw [f1]; exact hZ, hc⟩, h.ge, h.neB, f2⟩
theorem Ts.below {w0 w w' : World} {B : Nat} {g : Option Nat} {S T : Nat} {L : List Mg} {un : Nat → Bool} (h : Ts w0 w B g S T L un) (hb : Below w.heap.size w w') : Ts w0 w' B g S T L un := h.step (h.bo.bag.below hb) (Gone.below hb)
theorem Ts.cell {w0 w : World} {B : Nat} {g : Option Nat} {S T : Nat} {L : List Mg} {un : Nat → Bool} (h : Ts w0 w B g S T L un) {j : Nat} (hj : j < 60) : w.cell? ⟨S, j, none⟩ = some (.bool (!un j)) := by
  obtain ⟨Z, hZ, hc⟩ := h.blk
  rw [cell_of_row _ _ _ _ _ _ hZ]; exact hc j hj
theorem Ts.free {w0 w : World} {B : Nat} {g : Option Nat} {S T : Nat} {L : List Mg} {un : Nat → Bool} (h : Ts w0 w B g S T L un) (j : Nat) : w.frozen? ⟨S, j, none⟩ = false := by
  obtain ⟨Z, hZ, hc⟩ := h.blk
  exact frozen_of_row _ _ _ _ _ hZ
theorem Ts.set {w0 w : World} {B : Nat} {g : Option Nat} {S T : Nat} {L : List Mg} {un : Nat → Bool} (h : Ts w0 w B g S T L un) {s : Nat} (_hs : s < 60) : Ts w0 (w.setCell ⟨S, s, none⟩ (.bool true)) B g S T L (less un s) := by
  have hk : Kept (fun k => k = S) w (w.setCell ⟨S, s, none⟩ (.bool true)) := (Kept.refl _ w).setCell _ _ (fun _ => rfl)
  obtain ⟨Z, hZ, hc⟩ := h.blk
  refine ⟨h.bo.kept hk (fun k e => by rw [e]; exact h.ge) (fun e => h.neB e.symm) (fun x e e2 => h.neg (by rw [e, e2])), ⟨Z.setIfInBounds s (.bool true), heap_setCell_same _ _ _ _ _ _ hZ, fun j hj => ?_⟩, h.ge, h.neB, h.neg⟩
  by_cases e : s = j
  · subst e
    have hlt : s < Z.size := (Array.getElem?_eq_some_iff.1 (hc s hj)).1
    rw [Array.getElem?_setIfInBounds_self_of_lt hlt]
    simp [less]
  · rw [Array.getElem?_setIfInBounds_ne e, hc j hj]
    simp [less, show j ≠ s from fun h => e h.symm]
/-- a struct of a message laid in a block of its own -/
theorem tk_seq {U : World} {gy : Nat} {s : Nat} {m1 : Mg} (h : U.heap[gy]? = some (.cells m1.cells.toArray 37 (0, 0))) (e : m1 = tkM s) : U.cell? ⟨gy, 5, none⟩ = some (.int .u32 ((s : Int) + 1)) := by
  rw [cell_box h, e]; rfl
end Go.Proofs.YtmkeckablkccnaaDoor
