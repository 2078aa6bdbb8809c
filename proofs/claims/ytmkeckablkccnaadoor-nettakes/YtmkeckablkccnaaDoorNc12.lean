/- The bag: All. -/
import Derived.Test.YtmkeckablkccnaaDoorNc11
namespace Go.Proofs.YtmkeckablkccnaaDoor
open Go.RowKit
set_option maxRecDepth 100000

/-- the row of All, behind j of n -/
structure RowA (w wr : World) (B : Nat) (g : Option Nat) (l : List Mg) (ao : Option Addr) (cap gr n j : Nat) : Prop where
  th : wr.there gr 0 (n * 25)
  ra : wr.rangeAt gr 0 ((l.take j).flatMap Mg.cells)
  bag : Bg wr B g l ao cap
  bel : Below w.heap.size w wr
  lt : gr < wr.heap.size
theorem RowA.next {w wr w1 : World} {B : Nat} {g : Option Nat} {l : List Mg} {ao : Option Addr} {cap gr n j : Nat} {m : Mg} (h : RowA w wr B g l ao cap gr n j) (hb : Below wr.heap.size wr w1) (hm : l[j]? = some m) (hn : l.length = n) (hgr : w.heap.size ≤ gr) (hB : B ≠ gr) (hg : g ≠ some gr) :
    w1.there gr (j * 25) 25 ∧ RowA w (w1.setCells gr (j * 25) m.cells) B g l ao cap gr n (j + 1) := by
  have hj : j < l.length := (List.getElem?_eq_some_iff.1 hm).1
  have hk1 : Kept (fun _ => False) wr w1 := Kept.ofBelow hb
  have ht1 := there_kept h.th hk1 (fun e => e) h.lt
  have htj := there_part (o := j * 25) (k := 25) ht1 (by omega)
  have hk : Kept (fun k => k = gr) w1 (w1.setCells gr (j * 25) m.cells) := kept_setCells
  have hs : l.take (j + 1) = l.take j ++ [m] := by rw [List.take_add_one, hm]; rfl
  have hlt1 : gr < w1.heap.size := Nat.lt_of_lt_of_le h.lt hb.size
  refine ⟨htj, World.there_setCells ht1 _ _ _, ?_, (h.bag.below hb).kept hk hB (fun x e hx => hg (by rw [e, hx])), ?_, Nat.lt_of_lt_of_le hlt1 hk.size⟩
  · rw [hs]
    exact flat_next (enc := Mg.cells) (k := 25) (fun x => rfl) m (by rw [List.length_take]; omega) (range_kept h.ra hk1 (fun e => e)) htj
  · exact (h.bel.trans (hb.mono h.bel.size)).trans (hk.below (by have := h.bel.size; have := hb.size; omega) (fun k e => by omega))

set_option maxHeartbeats 8000000 in
theorem all24 (w : World) (B : Nat) (g : Option Nat) (l : List Mg) (h : Bag w B g l) :
    Calls Tryd.prog 24 #[.pointer (some ⟨B, 0, none⟩)] w fun e w' => ∃ gr, e = .returned (.slice (some ⟨gr, 0, none⟩) l.length l.length) ∧ Row w' 25 Mg.cells (.slice (some ⟨gr, 0, none⟩) l.length l.length) l ∧ w.heap.size ≤ gr ∧ Below w.heap.size w w' := by
  have hlt := h.lt
  obtain ⟨ao, cap, h⟩ := h
  have q := h.cell
  obtain ⟨n, hn⟩ : ∃ n, n = l.length := ⟨_, rfl⟩
  have hn400 : n ≤ 400 := by rw [hn]; exact h.len
  rw [← hn] at q ⊢
  obtain ⟨i0, hi, hz0, hz1, hz2⟩ := info_parts info37d
  have hmk : (Instr.makeSlice 50 (.int .i64 (n : Int)) (.int .i64 (n : Int))).run Tryd.prog w = .ok (.slice (some ⟨w.heap.size, 0, none⟩) n n) (w.alloc (.cells (madeCells (.agg Vz.toArray : Value).cells (n * 25)) 37)) := by
    have := run_makeSlice (P := Tryd.prog) w 50 37 i0 _ Tryd.underlying50 hi hz0 .i64 .i64 n n (by omega) (by omega) (by rw [hz1]; simp; omega) (by rw [hz2]; omega) (by omega)
    rw [hz1] at this
    simpa using this
  obtain ⟨V, hV⟩ : ∃ V, V = w.alloc (.cells (madeCells (.agg Vz.toArray : Value).cells (n * 25)) 37) := ⟨_, rfl⟩
  rw [← hV] at hmk
  have hbl : Below w.heap.size w V := by rw [hV]; exact (Below.refl _ _).alloc (Nat.le_refl _) _
  have hbx : V.heap[w.heap.size]? = some (.cells (madeCells (.agg Vz.toArray : Value).cells (n * 25)) 37 (0, 0)) := by rw [hV]; exact heap_alloc_new _ _
  have HJ0 : Hid (RowA w V B g l ao cap w.heap.size n 0) := Lib.hid ⟨there_row hbx (made_size _ _), (fun j v hj => by simp at hj), h.below hbl, hbl, lt_of_block hbx⟩
  obtain ⟨gr, hgr⟩ : ∃ gr, gr = w.heap.size := ⟨_, rfl⟩
  have HG := Lib.hid (show w.heap.size ≤ gr by omega)
  have HNB := Lib.hid (show B ≠ gr by have := hlt.1; omega)
  have HNG := Lib.hid (show g ≠ some gr by intro e; have := hlt.2 gr e; omega)
  rw [← hgr] at hmk HJ0
  have HN := Lib.hid hn
  have qV := (h.below hbl).cell
  rw [← hn] at qV
  have SZ := Lib.hid (fun (m : Mg) => (show (Tryd.prog.info? 37).map (·.size) = some m.cells.length from size37))
  clear h hV hbl hbx hi hz0 hz1 hz2 hgr hn hlt
  go_enter Tryd.func24, Tryd.ntmps24
  go_wp2_with fail
  go_loopw [17] (fun vi wr => ∃ j : Nat, j ≤ n ∧ vi = .int .i64 j ∧ Hid (RowA w wr B g l ao cap gr n j)) (fun i _ => n - (intOf i).toNat)
  case atStart => exact ⟨0, Nat.zero_le _, rfl, HJ0⟩
  case round =>
    obtain ⟨j, hj, rfl, HJ⟩ := hrel
    clear HJ0 q qV
    by_cases hlt : j < n
    · obtain ⟨m, hm⟩ : ∃ m, l[j]? = some m := ⟨_, List.getElem?_eq_getElem (by rw [← HN.out]; exact hlt)⟩
      obtain ⟨b, rfl, hg, hr, _⟩ := HJ.out.bag.at hm
      have HM := Lib.hid hm
      have HR := Lib.hid hr
      have HNI := Lib.hid (HJ.out.bag.nil m (List.mem_of_getElem? hm))
      clear hm hr hg
      obtain ⟨V1, hV⟩ : ∃ V1, V1 = wr.alloc (.cells Vz.toArray 37) := ⟨_, rfl⟩
      obtain ⟨U, hU⟩ : ∃ U, U = V1.setCells wr.heap.size 0 m.cells := ⟨_, rfl⟩
      obtain ⟨u1, u2, u3⟩ := msg_new wr m (show U = (wr.alloc (.cells Vz.toArray 37)).setCells wr.heap.size 0 m.cells by rw [hU, hV])
      rw [← hV] at u3
      have HV := Lib.hid hV
      obtain ⟨gy, hgy⟩ : ∃ gy, gy = wr.heap.size := ⟨_, rfl⟩
      have HGYE := Lib.hid hgy
      rw [← hgy] at hU u3 u1
      have HU := Lib.hid hU
      have HT1 := Lib.hid u3
      have HY := Lib.hid u1
      have HUB := Lib.hid u2
      clear hU u1 u2 u3 hV hgy
      go_wp2_with (first | (refine wpList_load_mid rfl 37 (.tmp 20) rfl b (j * 25) (by first | rfl | simp) m.cells _ HR.out Tryd.underlying37 rfl (SZ.out m) ?_; refine Hid.out ?_) | go_in)
      refine Lib.hid ?_
      refine wpl_val (v := .pointer (some ⟨gy, 0, none⟩)) (w1 := V1) rfl (by have e1 := HV.out; simp only [Vz] at e1; rw [e1, HGYE.out]; go_simp) _ rfl ?_
      refine wpl_val (v := .int .i64 j) (w1 := V1) rfl (by go_simp) _ rfl ?_
      refine wpList_store_mid rfl 37 (.tmp 5) (.tmp 21) rfl gy 0 m.cells.toArray rfl rfl HT1.out size37 (all_oneCell_toArray (Mg.one _)) ?_
      dsimp only
      rw [← HU.out]
      clear HU HT1 HV HR HGYE
      go_wp2_with (first | (refine wpList_load_row rfl 37 (.tmp 5) rfl gy rfl 37 _ (0, 0) _ HY.out Tryd.underlying37 rfl size37 ?_; refine Hid.out ?_) | go_in)
      refine Lib.hid ?_
      go_wp2_with fail
      refine Calls.mono (copyNil U m HNI.out) ?_
      rintro e w1 ⟨rfl, hb⟩
      obtain ⟨ht, hj1⟩ := HJ.out.next (HUB.out.trans (hb.mono HUB.out.size)) HM.out HN.out.symm HG.out HNB.out HNG.out
      have HTH := Lib.hid ht
      have HJ1 := Lib.hid hj1
      clear ht hj1 HJ hb HY HUB HM HNI
      go_wp2_with (first | (refine wpList_store_mid rfl 37 (.tmp 26) (.tmp 25) rfl gr (j * 25) m.cells.toArray (by first | rfl | simp) rfl HTH.out size37 (all_oneCell_toArray (Mg.one m)) ?_; refine Hid.out ?_) | go_in)
      refine Lib.hid ?_
      generalize w1.setCells gr (j * 25) m.cells = w9 at *
      clear HTH
      go_wp2_with fail
      go_round
      case rel => exact ⟨j + 1, by omega, by go_num, HJ1⟩
      case measure => simp [intOf]; omega
    · obtain rfl : j = n := by omega
      go_wp2_with fail
      go_ret
      have e : l.take j = l := List.take_of_length_le (by rw [← HN.out]; exact Nat.le_refl _)
      have hra := HJ.out.ra
      rw [e] at hra
      exact ⟨gr, rfl, row_of_range (enc := Mg.cells) (k := 25) (fun x => rfl) HN.out.symm hra (by omega), HG.out, HJ.out.bel⟩
end Go.Proofs.YtmkeckablkccnaaDoor
