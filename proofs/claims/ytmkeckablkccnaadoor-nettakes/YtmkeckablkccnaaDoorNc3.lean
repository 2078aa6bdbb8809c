/- A message is struck out of a row (slices.Delete of one). -/
import Derived.Test.YtmkeckablkccnaaDoorNc2
namespace Go.Proofs.YtmkeckablkccnaaDoor
open Go.RowKit
set_option maxRecDepth 100000

theorem over_toList : ∀ (vs : List Value) (o : Nat) (Z : Array Value), o + vs.length ≤ Z.size → (over Z o vs).toList = Z.toList.take o ++ vs ++ Z.toList.drop (o + vs.length)
  | [], o, Z, _ => by simp [over]
  | v :: r, o, Z, h => by
    simp only [List.length_cons] at h
    unfold over
    rw [over_toList r (o + 1) (Z.setIfInBounds o v) (by simp; omega)]
    have ho : o < Z.toList.length := by simp; omega
    rw [Array.toList_setIfInBounds, List.drop_set_of_lt (by omega), List.take_add_one, List.take_set_of_le (Nat.le_refl _), List.getElem?_set_self ho]
    simp only [Option.toList_some, List.append_assoc, List.singleton_append, List.length_cons]
    rw [show o + 1 + r.length = o + (r.length + 1) by omega]
theorem over_size (vs : List Value) (o : Nat) (Z : Array Value) (h : o + vs.length ≤ Z.size) : (over Z o vs).size = Z.size := by
  have := congrArg List.length (over_toList vs o Z h)
  simp at this
  omega

theorem run_clear_cells {P : Program} (w : World) (t e ty : TypeId) (z : Value) (ht : P.underlying t = some (.slice e)) (hv : ∀ w, (zeroValue e).run P w = .ok z w) (h1 : ∀ v ∈ z.cells, v.oneCell' = true) (hk : 0 < z.cells.size) (b o n c : Nat) (hn : 0 < n)
    (hc : w.there b o (n * z.cells.size)) :
    (Builtin.clear_ #[t] ty #[.slice (some ⟨b, o, none⟩) n c]).run P w = .ok (.tuple #[]) (w.setCells b o (Builtin.zeroCells z.cells n).toList) := by
  have hlen : (Builtin.zeroCells z.cells n).toList.length = n * z.cells.size := by simp [Builtin.zeroCells]
  have hst := run_storeCells_cells (P := P) b o (Builtin.zeroCells z.cells n).toList 0 w (by rw [hlen]; intro j hj; simpa using (hc j hj).1) (by rw [hlen]; intro j hj; simpa using (hc j hj).2) (by
    intro v hv'
    simp only [Builtin.zeroCells, Array.toList_map, List.mem_map] at hv'
    obtain ⟨i, _, rfl⟩ := hv'
    have hi : i % z.cells.size < z.cells.size := Nat.mod_lt _ hk
    rw [getElem!_pos z.cells _ hi]
    exact h1 _ (Array.getElem_mem hi))
  simp only [Nat.add_zero] at hst
  obtain ⟨m, rfl⟩ : ∃ m, n = m + 1 := ⟨n - 1, by omega⟩
  simp [Builtin.clear_, run_underlying ht, hv, hst]

theorem flatM_len (l : List Mg) : (l.flatMap Mg.cells).length = l.length * 25 := flatE_len l (fun _ _ => rfl)
theorem flatM_take (l : List Mg) (i : Nat) (hi : i ≤ l.length) : (l.flatMap Mg.cells).take (i * 25) = (l.take i).flatMap Mg.cells := by
  conv => lhs; rw [← List.take_append_drop i l]
  rw [List.flatMap_append, List.take_append_of_le_length (by rw [flatM_len]; simp; omega)]
  exact List.take_of_length_le (by rw [flatM_len]; simp; omega)

theorem del_row {w : World} {g cap n i : Nat} {cur : Array Value} {l : List Mg} {Z : List Value} (hg : w.heap[g]? = some (.cells cur 37 (0, 0))) (hn : l.length = n) (hnc : n ≤ cap) (hcm : cap ≤ maxLen) (hs : cur.size = cap * 25) (ht : cur.toList.take (n * 25) = l.flatMap Mg.cells) (hi : i < n) (hZ : Z.length = 25) :
    ((w.setCells g (i * 25) ((l.drop (i + 1)).flatMap Mg.cells)).setCells g ((n - 1) * 25) Z).ownsRow 0 37 25 (.slice (some ⟨g, 0, none⟩) (n - 1) cap) (n - 1) ((l.eraseIdx i).flatMap Mg.cells) ∧ Kept (fun k => k = g) w ((w.setCells g (i * 25) ((l.drop (i + 1)).flatMap Mg.cells)).setCells g ((n - 1) * 25) Z) := by
  have hnl : ((l.drop (i + 1)).flatMap Mg.cells).length = (n - (i + 1)) * 25 := by rw [flatM_len, List.length_drop, hn]
  have b1 := setCells_block g 37 ((l.drop (i + 1)).flatMap Mg.cells) (i * 25) w cur hg
  have b2 := setCells_block g 37 Z ((n - 1) * 25) _ _ b1
  have hle : i * 25 + ((l.drop (i + 1)).flatMap Mg.cells).length ≤ cur.size := by rw [hnl, hs]; omega
  have z1 := over_size ((l.drop (i + 1)).flatMap Mg.cells) (i * 25) cur hle
  have hle2 : (n - 1) * 25 + Z.length ≤ (over cur (i * 25) ((l.drop (i + 1)).flatMap Mg.cells)).size := by rw [z1, hs, hZ]; omega
  have z2 := over_size Z ((n - 1) * 25) _ hle2
  refine ⟨⟨?_, .inr ⟨g, cap, _, rfl, Nat.zero_le _, b2, by omega, hcm, by rw [z2, z1, hs], ?_⟩⟩, ?_⟩
  · rw [flatM_len, List.length_eraseIdx_of_lt (by omega), hn]
  · rw [over_toList _ _ _ hle2, List.append_assoc, List.take_append_of_le_length (by rw [List.length_take]; simp [z1, hs]; omega), List.take_take, Nat.min_self, over_toList _ _ _ hle]
    have e1 : cur.toList.take (i * 25) = (l.take i).flatMap Mg.cells := by
      rw [← flatM_take l i (by omega), ← ht, List.take_take, Nat.min_eq_left (by omega)]
    rw [e1, ← List.flatMap_append, ← List.eraseIdx_eq_take_drop_succ, List.take_append_of_le_length (by rw [flatM_len, List.length_eraseIdx_of_lt (by omega)]; omega)]
    exact List.take_of_length_le (by rw [flatM_len, List.length_eraseIdx_of_lt (by omega)]; omega)
  · exact (kept_setCells).trans kept_setCells (fun i _ e => e)

theorem info37d : (Tryd.prog.info? 37).map (fun i => (i.zero, i.size, i.bytes)) = some (some (.agg Vz.toArray), 25, 200) := by kernel_rfl
theorem zero37 (w : World) : (zeroValue 37).run Tryd.prog w = .ok (.agg Vz.toArray) w := by
  obtain ⟨i0, hi0, hz0, hz1, hz2⟩ := info_parts info37d
  simp [zeroValue, typeInfo, hi0, hz0]
theorem Vz.one : ∀ v ∈ (Value.agg Vz.toArray).cells, v.oneCell' = true := by
  intro v hv
  simp only [Value.cells, Vz, List.mem_toArray, List.mem_cons, List.not_mem_nil, or_false] at hv
  rcases hv with rfl | rfl | rfl | rfl | rfl | rfl | rfl | rfl | rfl | rfl | rfl | rfl | rfl | rfl | rfl | rfl | rfl | rfl | rfl | rfl | rfl | rfl | rfl | rfl | rfl <;> rfl
end Go.Proofs.YtmkeckablkccnaaDoor
