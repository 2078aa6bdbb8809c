/- slices.Delete of one message. -/
import Derived.Test.YtmkeckablkccnaaDoorNc3
import Derived.Deep.RegionLaw
namespace Go.Proofs.YtmkeckablkccnaaDoor
open Go.RowKit
set_option maxRecDepth 100000

set_option maxHeartbeats 4000000 in
theorem del55 (w : World) (l : List Mg) (g cap i j n p : Nat) (cur : Array Value) (hg : w.heap[g]? = some (.cells cur 37 (0, 0))) (hn : l.length = n) (hnc : n ≤ cap) (hcm : cap ≤ maxLen) (hs : cur.size = cap * 25) (ht : cur.toList.take (n * 25) = l.flatMap Mg.cells) (hi : i < n) (hj : j = i + 1) (hp : n = p + 1) :
    Calls Tryd.prog 55 #[.slice (some ⟨g, 0, none⟩) n cap, .int .i64 i, .int .i64 j] w fun e w' => e = .returned (.slice (some ⟨g, 0, none⟩) p cap) ∧ w'.ownsRow 0 37 25 (.slice (some ⟨g, 0, none⟩) p cap) p ((l.eraseIdx i).flatMap Mg.cells) ∧ Kept (fun k => k = g) w w' := by
  obtain ⟨i0, hi0, hz0, hz1, hz2⟩ := info_parts info37d
  have hcm' : cap ≤ 9223372036854775807 := hcm
  obtain ⟨news, hnews⟩ : ∃ news, news = (l.drop j).flatMap Mg.cells := ⟨_, rfl⟩
  have hlen : news.length = (n - j) * 25 := by rw [hnews, flatM_len, List.length_drop, hn]
  have hcell : ∀ k, w.drew.cell? ⟨g, k, none⟩ = cur[k]? := fun k => cell_of_row w g k _ _ _ hg
  have hfz : ∀ k, w.drew.frozen? ⟨g, k, none⟩ = false := fun k => frozen_of_row w g k _ _ hg
  have hget : ∀ t u, news[t]? = some u → cur[j * 25 + t]? = some u := by
    intro t u hu
    have e : l.flatMap Mg.cells = (l.take j).flatMap Mg.cells ++ news := by rw [hnews, ← List.flatMap_append, List.take_append_drop]
    have hlj : ((l.take j).flatMap Mg.cells).length = j * 25 := by rw [flatM_len, List.length_take, hn, Nat.min_eq_left (by omega)]
    have h1 : (l.flatMap Mg.cells)[j * 25 + t]? = some u := by rw [e, List.getElem?_append_right (by omega), hlj, Nat.add_sub_cancel_left]; exact hu
    rw [← ht] at h1
    have hlt : j * 25 + t < n * 25 := by
      rcases Nat.lt_or_ge (j * 25 + t) (n * 25) with h | h
      · exact h
      · rw [List.getElem?_eq_none (by rw [List.length_take]; omega)] at h1; cases h1
    rw [List.getElem?_take_of_lt hlt, Array.getElem?_toList] at h1
    exact h1
  obtain ⟨A, hA, hsrc⟩ : ∃ A : Addr, (if cap = j then some (⟨g, 0, none⟩ : Addr) else some ⟨g, j * 25, none⟩) = some A ∧ Hid (∀ t u, news[t]? = some u → w.drew.cell? (A.add t) = some u) := by
    by_cases h : cap = j
    · refine ⟨⟨g, 0, none⟩, by simp [h], fun t u hu => ?_⟩
      have h0 : news.length = 0 := by rw [hlen]; omega
      rw [List.length_eq_zero_iff.1 h0] at hu
      simp at hu
    · refine ⟨⟨g, j * 25, none⟩, by simp [h], fun t u hu => ?_⟩
      rw [Addr.add_lit, hcell]
      exact hget t u hu
  have s1 : Hid (news.length = (n - j) * 25) := hlen
  have s2 : Hid (∀ u ∈ news, u.oneCell' = true) := by
    intro u hu
    rw [hnews] at hu
    obtain ⟨x, _, hx⟩ := List.mem_flatMap.1 hu
    exact Mg.one x u hx
  have s3 : Hid (∀ t, t < news.length → (w.drew.cell? ⟨g, 0 + i * 25 + t, none⟩).isSome = true ∧ w.drew.frozen? ⟨g, 0 + i * 25 + t, none⟩ = false) := by
    intro t ht
    refine ⟨?_, hfz _⟩
    rw [hcell, Array.getElem?_eq_getElem (by rw [hlen] at ht; rw [hs]; omega)]
    rfl
  obtain ⟨W1, hW1⟩ : ∃ W1, W1 = w.drew.setCells g (0 + i * 25) news := ⟨_, rfl⟩
  have hW : Hid (W1 = w.drew.setCells g (0 + i * 25) news) := hW1
  have hic : i ≤ cap := by omega
  have hjc : j ≤ cap := by omega
  have hjn : j ≤ n := by omega
  have hij : i ≤ j := by omega
  have hne : (i : Int) ≠ (j : Int) := by omega
  have hp1 : n - 1 = p := by omega
  obtain ⟨Zl, hZl⟩ : ∃ Zl, Zl = (Builtin.zeroCells (Value.agg Vz.toArray).cells (n - p)).toList := ⟨_, rfl⟩
  have hZ : Zl.length = 25 := by rw [hZl, show n - p = 1 by omega]; simp [Builtin.zeroCells, Value.cells, Vz]
  have hend := del_row (w := w.drew) (Z := Zl) (show w.drew.heap[g]? = _ from hg) hn hnc hcm hs ht hi hZ
  rw [hp1] at hend
  have hth : W1.there g (p * 25) ((n - p) * 25) := by
    have hb : W1.heap[g]? = some (.cells (over cur (0 + i * 25) news) 37 (0, 0)) := by rw [hW1]; exact setCells_block g 37 news _ _ cur hg
    refine there_part (o := p * 25) (k := (n - p) * 25) (there_row hb (n := cap * 25) (by rw [over_size _ _ _ (by rw [hlen, hs]; omega), hs])) (by omega)
  have hcl : ∀ ty c, (Builtin.clear_ #[50] ty #[.slice (some ⟨g, p * 25, none⟩) (n - p) c]).run Tryd.prog W1 = .ok (.tuple #[]) (W1.setCells g (p * 25) Zl) :=
    fun ty c => by rw [hZl]; exact run_clear_cells W1 50 37 ty (.agg Vz.toArray) Tryd.underlying50 zero37 Vz.one (by decide) g _ (n - p) c (by omega) hth
  rw [← hj, ← hnews, show i * 25 = 0 + i * 25 by omega, ← hW1] at hend
  have HEND := Lib.hid hend
  have HCL := Lib.hid hcl
  have HI := Lib.hid hi0
  have HZ1 := Lib.hid hz1
  have HJ := Lib.hid hj
  have hsum : i + (n - j) = p := by omega
  have HSUM := Lib.hid hsum
  have hpn : p ≤ n := by omega
  have hpc : p ≤ cap := by omega
  have hpx : ¬ cap = p := by omega
  have HP := Lib.hid hp
  clear hp hp1 hZ hZl
  clear hi0 hz0 hz1 hz2 hcell hfz hget hlen hnews hend hcl hth hj hsum
  clear hW1 hg hs ht hn hcm
  go_enter Tryd.func55, Tryd.ntmps55
  go_wp2_with fail
  go_region_law (refine step_append_room rfl (.tmp 22) (.tmp 25) 50 rfl 37 i0 25 Tryd.underlying50 HI.out HZ1.out g 0 i cap (by simp [Act.eval, Act.put]) A (n - j) (cap - j) news (by simp [Act.eval, Act.put]) s1.out hsrc.out s2.out (by have := HJ.out; omega) s3.out ?_; rw [← hW.out, HSUM.out])
  clear s1 s2 s3 hsrc hA HSUM
  have hcl := HCL.out
  go_wp2
  go_ret
  exact ⟨rfl, HEND.out.1, ((Kept.refl (fun k => k = g) w).drewN 1).trans HEND.out.2 (fun _ _ e => e)⟩
end Go.Proofs.YtmkeckablkccnaaDoor
