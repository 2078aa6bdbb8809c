/- What comes in: the cells of a struct, whatever structs are in it; rows of structs. -/
import Derived.Test.YtphakceboohbhaaReads
import Derived.ProofKit
import Derived.OpenShut
import Derived.ChangeOld
import Derived.Deep.Slices
import Derived.WalkKit
namespace Go.Proofs.Ytphakceboohbhaa
open Go.ChangeShapes Go.WideShapes Go.ChangeAt Go.RowKit

/-- the type of the cell at place i of a value of type t -/
def leafAt (P : Program) : Nat → TypeId → Nat → Option TypeId
  | 0, _, _ => none
  | k + 1, t, i => match P.underlying t with
    | some (.struct fs) => match fs.toList.find? (fun f => decide (f.offset ≤ i) && decide (i < f.offset + P.cellsOf f.type)) with
      | some f => leafAt P k f.type (i - f.offset)
      | none => none
    | _ => if i = 0 ∧ P.cellsOf t = 1 then some t else none

theorem trod_leaf {H : Type} {enc : TypeId × Value → H} {P : Program} {w : World} {base : Nat} {spare : Nat → Bool} {held : Bool} : ∀ (k : Nat) {t : TypeId} {i : Nat} {u : TypeId} {fuel : Nat} {cs : List Value} {x : DataW H × List MemPlace},
    leafAt P k t i = some u → DataW.trod enc P w base spare held fuel t cs = some x → i < cs.length → cs.length ≤ P.cellsOf t → ∃ n y v, cs[i]? = some v ∧ DataW.trod enc P w base spare held n u [v] = some y
  | 0, t, i, u, fuel, cs, x, h, _, _, _ => by cases h
  | k + 1, t, i, u, fuel, cs, x, h, hx, hi, hc => by
    unfold leafAt at h
    split at h
    · rename_i fs hfs
      split at h
      · rename_i f hf
        obtain ⟨xs, n, _, _, hl, hxl, hat⟩ := DataW.trod_struct hfs hx
        have hm := List.mem_of_find?_eq_some hf
        have hp := List.find?_some hf
        simp only [Bool.and_eq_true, decide_eq_true_eq] at hp
        obtain ⟨j, hj⟩ := List.getElem?_of_mem hm
        have hj' : fs[j]? = some f := by rw [← Array.getElem?_toList]; exact hj
        have ht := hat j f hj'
        have hjl : j < xs.length := by
          rw [hxl]
          exact (Array.getElem?_eq_some_iff.1 hj').1
        rw [List.getElem?_eq_getElem hjl] at ht
        obtain ⟨n', y, v, h1, h2⟩ := trod_leaf k h ht (by rw [List.length_take, List.length_drop]; omega) (by rw [List.length_take]; omega)
        refine ⟨n', y, v, ?_, h2⟩
        rw [List.getElem?_take_of_lt (by omega), List.getElem?_drop, show f.offset + (i - f.offset) = i by omega] at h1
        exact h1
      · cases h
    · split at h
      · rename_i h0
        injection h with h
        subst h
        obtain ⟨rfl, h1⟩ := h0
        match cs, hi, hc with
        | [v], _, _ => exact ⟨fuel, x, v, rfl, hx⟩
        | a :: b :: r, _, hc => simp at hc; omega
      · cases h

/-- a row of elements of k cells each, of whatever length -/
def RowU {α : Type} (w : World) (k : Nat) (enc : α → List Value) (v : Value) (xs : List α) : Prop :=
  ∃ ao cap, v = .slice ao xs.length cap ∧ (ao = none → cap = 0) ∧ xs.length ≤ cap ∧ cap ≤ maxLen ∧
    ∀ (j : Nat) (x : α), xs[j]? = some x → ∃ b off, ao = some ⟨b, off, none⟩ ∧ ∀ i u, (enc x)[i]? = some u → w.cell? ⟨b, off + j * k + i, none⟩ = some u

theorem open_row {H : Type} {en : TypeId × Value → H} {P : Program} {w : World} {held : Bool} {α : Type} [Inhabited α] (enc : α → List Value) (k : Nat) (ok : α → Prop) {t e : TypeId} {fuel : Nat} {v : Value} {x : DataW H × List MemPlace}
    (ht : P.underlying t = some (.slice e)) (hk : P.cellsOf e = k) (hk0 : 0 < k) (hE : ∀ n cs y, cs.length = k → DataW.trod en P w 0 (fun _ => true) held n e cs = some y → ∃ a, cs = enc a ∧ ok a)
    (h : DataW.trod en P w 0 (fun _ => true) held fuel t [v] = some x) : ∃ xs, RowU w k enc v xs ∧ ∀ a ∈ xs, ok a := by
  rcases Deep.open_slice ht h with ⟨hcs, _⟩ | ⟨ad, len, cap, m, n, D, Pl, hcs, hb, hl, hm, hmm, _, hi⟩
  · injection hcs with hcs
    subst hcs
    exact ⟨[], ⟨none, 0, rfl, fun _ => rfl, Nat.le_refl _, Nat.zero_le _, fun j x hj => by simp at hj⟩, fun a ha => by simp at ha⟩
  · injection hcs with hcs
    subst hcs
    simp only [if_true] at hmm
    subst hmm
    rcases Nat.eq_zero_or_pos len with h0 | h0
    · subst h0
      exact ⟨[], ⟨some ad, m, rfl, fun e => (by cases e), Nat.zero_le _, hm, fun j x hj => by simp at hj⟩, fun a ha => by simp at ha⟩
    · rw [hk] at hi
      obtain ⟨b, off, spot⟩ := ad
      have hs : spot = none := by
        obtain ⟨cs0, hc0, _⟩ := hi 0 (by omega)
        obtain ⟨_, hl0, hat0⟩ := World.cells?_some hc0
        have b0 := hat0 0 (by omega)
        rw [List.getElem?_eq_getElem (by omega)] at b0
        simpa [Addr.add] using World.cell?_spot b0
      subst hs
      have each : ∀ i, i < len → ∃ a : α, ok a ∧ ∀ j u, (enc a)[j]? = some u → w.cell? ⟨b, off + i * k + j, none⟩ = some u := by
        intro i him
        obtain ⟨cs', hc, htt⟩ := hi i (by omega)
        obtain ⟨_, hcl, hat⟩ := World.cells?_some hc
        obtain ⟨a, rfl, hok⟩ := hE n cs' _ hcl htt
        refine ⟨a, hok, fun j u hu => ?_⟩
        have hj : j < k := by
          rw [← hcl]
          exact (List.getElem?_eq_some_iff.1 hu).1
        have := hat j hj
        rw [Deep.add_add, Addr.add_lit, hu] at this
        rw [Nat.add_assoc]
        exact this
      obtain ⟨f, hf⟩ := Deep.choose_lt each
      have hlen : ((List.range len).map f).length = len := by simp
      refine ⟨(List.range len).map f, ⟨some ⟨b, off, none⟩, m, by rw [hlen], fun e => (by cases e), by rw [hlen]; exact hl, hm, fun j x hj => ⟨b, off, rfl, ?_⟩⟩, fun a ha => ?_⟩
      · obtain ⟨hj1, hj2⟩ := List.getElem?_eq_some_iff.1 hj
        rw [hlen] at hj1
        simp at hj2
        subst hj2
        exact (hf j hj1).2
      · obtain ⟨i, hi1, rfl⟩ := List.mem_map.1 ha
        exact (hf i (List.mem_range.1 hi1)).1
theorem open_bytes {H : Type} {enc : TypeId × Value → H} {W : World} {fuel : Nat} {v : Value} {x : DataW H × List MemPlace} (h : DataW.trod enc Try.prog W 0 (fun _ => true) true fuel 43 [v] = some x) :
    ∃ (ao : Option Addr) (l : List Int) (cap : Nat), v = .slice ao l.length cap ∧ Bytes W ao l ∧ (∀ y ∈ l, isByte y) ∧ l.length ≤ cap ∧ (ao = none → cap = 0) := by
  rcases open_ints Try.underlying43 Try.underlying5 (by kernel_rfl) h with ⟨hcs, _⟩ | ⟨a, len, cap, zs, hcs, _, hl, hm, hz, _, hcell, hwz⟩
  · injection hcs with hcs
    exact ⟨none, [], 0, hcs, fun i h => by simp at h, fun y hy => by simp at hy, Nat.le_refl _, fun _ => rfl⟩
  · injection hcs with hcs
    have hz' : zs.length = cap := by simpa using hz
    have hlen : (zs.take len).length = len := by rw [List.length_take]; omega
    refine ⟨some a, zs.take len, cap, by rw [hlen]; exact hcs, fun i hi => ?_, fun y hy => ?_, by omega, fun e => by cases e⟩
    · rw [hlen] at hi
      exact ⟨a, rfl, by rw [hcell i (by omega), getD_take zs len i hi]⟩
    · have := hwz y (List.mem_of_mem_take hy)
      simpa [isByte, Lit.wf, IntKind.min, IntKind.max, IntKind.signed, IntKind.bits] using this
end Go.Proofs.Ytphakceboohbhaa
