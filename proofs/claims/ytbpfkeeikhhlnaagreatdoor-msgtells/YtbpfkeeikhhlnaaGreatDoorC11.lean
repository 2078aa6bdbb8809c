/- The document's votes of a new view: which there may be. -/
import Derived.Test.YtbpfkeeikhhlnaaGreatDoorC10
import Derived.Test.YtbpfkeeikhhlnaaGreatDoorC07
import Derived.Test.YtbpfkeeikhhlnaaGreatDoorC03
namespace Go.Proofs.YtbpfkeeikhhlnaaGreatDoor
open Go.RowKit
set_option maxRecDepth 100000

/-- a vote of that view -/
def okV (n : Int) (x : Vt × Vc) : Bool := voteB x.1 x.2 && decide (x.1.vw = n)
theorem votes_is (l : List (Vt × Vc)) (n : Int) : ((List.range l.length).all (stepB (okV n) vAb l) && decide (l.length ≤ 4)) = fitVsB l n := by
  unfold fitVsB
  rw [Bool.and_comm]
  congr 1
  rw [Bool.eq_iff_iff]
  simp only [Bool.and_eq_true, List.all_eq_true, List.mem_range, Bool.not_eq_true', List.any_eq_false]
  constructor
  · intro h
    refine ⟨fun i hi => ?_, fun x hx => ?_⟩
    · have := h i hi
      unfold stepB at this ⊢
      obtain ⟨x, hx⟩ : ∃ x, l[i]? = some x := ⟨_, List.getElem?_eq_getElem hi⟩
      rw [hx] at this ⊢
      simp only [Bool.and_eq_true] at this ⊢
      exact ⟨rfl, this.2⟩
    · obtain ⟨i, hi, e⟩ := List.getElem_of_mem hx
      have := h i hi
      unfold stepB at this
      rw [List.getElem?_eq_getElem hi, e] at this
      simp only [Bool.and_eq_true, okV] at this
      unfold vBad
      simp [this.1.1, this.1.2]
  · rintro ⟨h1, h2⟩ i hi
    have := h1 i hi
    unfold stepB at this ⊢
    obtain ⟨x, hx⟩ : ∃ x, l[i]? = some x := ⟨_, List.getElem?_eq_getElem hi⟩
    rw [hx] at this ⊢
    simp only [Bool.and_eq_true] at this ⊢
    refine ⟨?_, this.2⟩
    have q := h2 x (List.mem_of_getElem? hx)
    unfold vBad at q
    unfold okV
    simp at q
    simp [q.1, q.2]
theorem wrap_fit (i : Int) (_ : 0 ≤ i) (_ : i ≤ 1000000) : IntKind.i64.wrap i = i := by
  rw [IntKind.wrap_i64]; omega
theorem all_not {l : List (Vt × Vc)} {ok : Vt × Vc → Bool} {ab : Vt × Vc → Vt × Vc → Bool} {j : Nat} (hj : j < l.length) (h : stepB ok ab l j = false) : (List.range l.length).all (stepB ok ab l) = false :=
  List.all_eq_false.2 ⟨j, List.mem_range.2 hj, by simp [h]⟩
theorem all_yes {l : List (Vt × Vc)} {ok : Vt × Vc → Bool} {ab : Vt × Vc → Vt × Vc → Bool} (h : ∀ i, i < l.length → stepB ok ab l i = true) : (List.range l.length).all (stepB ok ab l) = true :=
  List.all_eq_true.2 fun i hi => h i (List.mem_range.1 hi)

set_option maxHeartbeats 8000000 in
theorem refVotes_any (w : World) (m : Mg) (c : Mc) (hm : MgAt w m c) (hok : ∀ x ∈ c.vs, (∀ y ∈ x.2.p, 0 ≤ y.s ∧ y.rq.ok) ∧ ∀ y ∈ x.2.q, 0 ≤ y.s ∧ y.rq.ok) :
    Calls Tryz.prog 34 #[.agg m.cells.toArray] w fun e w' => e = .returned (.bool (fitVsB c.vs m.vw)) ∧ Below w.heap.size w w' := by
  obtain ⟨r, hr⟩ : ∃ r, r = fitVsB c.vs m.vw := ⟨_, rfl⟩
  rw [← hr]
  rw [← votes_is] at hr
  have HR := Lib.hid hr
  obtain ⟨W, hW⟩ : ∃ W, W = w.alloc (.cells m.cells.toArray 37) := ⟨_, rfl⟩
  have hbx := bx1 hW
  have hbl := bl1 hW
  have q22 : W.cell? ⟨w.heap.size, 22, none⟩ = some (.slice m.vs.a m.vs.n m.vs.c) := cell_box hbx 22
  have q4 : W.cell? ⟨w.heap.size, 4, none⟩ = some (.int .u32 m.vw) := cell_box hbx 4
  obtain ⟨⟨a1, c1, e1, -, -, hn1, hr1⟩, hvt⟩ := hm.vs
  simp only [Sl.val, Value.slice.injEq] at e1
  obtain ⟨ea, en, ec⟩ := e1
  have hlen : m.vs.n = c.vs.length := by rw [en]
  have hnb : (m.vs.n : Int) ≤ 1000000 := by omega
  have HVT := Lib.hid hvt
  have HOK := Lib.hid hok
  have HROW := Lib.hid hr1
  have HBL := Lib.hid hbl
  have HQ := Lib.hid (And.intro q22 q4)
  rw [ea] at q22
  have HEA := Lib.hid ea
  have HN := Lib.hid hlen
  have HWQ := Lib.hid hW
  have hws : W.heap.size = w.heap.size + 1 := by rw [hW]; simp
  have HWS := Lib.hid hws
  have hq : ∀ wx, Below W.heap.size W wx → wx.cell? ⟨w.heap.size, 22, none⟩ = some (.slice a1 m.vs.n m.vs.c) ∧ wx.cell? ⟨w.heap.size, 4, none⟩ = some (.int .u32 m.vw) := fun wx h =>
    ⟨by rw [h.cell (cell_block q22)]; exact q22, by rw [h.cell (cell_block q4)]; exact q4⟩
  have HQQ := Lib.hid hq
  generalize hvw : m.vw = vw at *
  generalize hnn : m.vs.n = n at *
  generalize hcc : m.vs.c = cc at *
  clear hr hW hbx hbl hm hok hr1 hvt ea en ec hn1 hlen hvw hnn hcc hq hws q22 q4
  generalize m.cells.toArray = A at *
  go_enter Tryz.func34, Tryz.ntmps34
  go_wp2_with fail
  rw [← HWQ.out]
  go_loopw [3] (fun v3 wr => ∃ j : Nat, v3 = .int .i64 j ∧ j ≤ n ∧ Hid (Below W.heap.size W wr ∧ ∀ i, i < j → stepB (okV vw) vAb c.vs i = true)) (fun v3 _ => n - (intOf v3).toNat)
  case atStart => exact ⟨0, rfl, by omega, Lib.hid ⟨Below.refl _ _, fun i h => by omega⟩⟩
  case round =>
    obtain ⟨j, rfl, hj, I⟩ := hrel
    have q22 := (HQQ.out wr I.out.1).1
    have q4 := (HQQ.out wr I.out.1).2
    by_cases hjn : j < n
    · have hjn' : (j : Int) < n := by omega
      obtain ⟨x, hx⟩ : ∃ x, c.vs[j]? = some x := ⟨_, List.getElem?_eq_getElem (by rw [← HN.out]; exact hjn)⟩
      obtain ⟨b, o, ha, g1⟩ := HROW.out j x hx
      have HG := Lib.hid (fun wx (h : Below W.heap.size W wx) i u (hu : (vcell x)[i]? = some u) => show wx.cell? ⟨b, o + j * 7 + i, none⟩ = some u by
        have h3 := g1 i u hu
        have h4 : W.cell? ⟨b, o + j * 7 + i, none⟩ = some u := by rw [HBL.out.cell (cell_block h3)]; exact h3
        rw [h.cell (cell_block h4)]; exact h4)
      have HC := Lib.hid (fun wx (h : Below W.heap.size W wx) => refIsVote_any wx x.1 x.2 (((HVT.out x (List.mem_of_getElem? hx)).below HBL.out).below h) (HOK.out x (List.mem_of_getElem? hx)))
      have HX := Lib.hid hx
      have HA := Lib.hid ha
      clear g1 hx
      subst ha
      go_wp2_with fail
      cases hvb : voteB x.1 x.2 with
      | false =>
        have C := Lib.hid (fun wx h => by have q := HC.out wx h; rwa [hvb] at q)
        refine wp_region_held_drew (S := fun wx => Below W.heap.size W wx) (by kernel_rfl) (I.out.1.drew) (fun hS => ?_)
        refine tg 0 (.pointer (some ⟨w.heap.size, 22, none⟩)) rfl hS ?_
        refine tk 1 (.slice (some ⟨b, o, none⟩) n cc) rfl (yi_load 33 (.tmp 11) (.pointer (some ⟨w.heap.size, 22, none⟩)) rfl rfl rfl (fun wq hw => by have q : wq.cell? ⟨w.heap.size, 22, none⟩ = some (.slice (some ⟨b, o, none⟩) n cc) := (HQQ.out wq hw).1; go_simp)) hS ?_
        refine tm 2 (.int .i64 ↑j) rfl hS ?_
        refine tg 3 (.pointer (some ⟨b, o + j * 7, none⟩)) rfl hS ?_
        refine tk 4 (.agg x.1.cells.toArray) rfl (yi_load 32 (.tmp 14) (.pointer (some ⟨b, o + j * 7, none⟩)) rfl rfl rfl (fun wq hw => vt_load (HG.out wq hw))) hS ?_
        refine rdy1 5 rfl (fun K hK => ?_)
        rw [if_pos (by rfl)]
        go_simp
        refine Calls.mono (C.out _ hS) ?_
        rintro e w4 ⟨rfl, b4⟩
        have h4 : Below W.heap.size W w4 := hS.trans (b4.mono hS.size)
        refine hK.out _ _ (h4) (fun hS => ?_)
        clear hK K
        refine tm 6 (.bool true) rfl hS ?_
        refine tm 7 (.bool true) rfl hS ?_
        refine tn 8 rfl hS ?_
        refine tn 9 rfl hS ?_
        refine tn 10 rfl hS ?_
        refine tn 11 rfl hS ?_
        refine tn 12 rfl hS ?_
        refine tn 13 rfl hS ?_
        refine tn 14 rfl hS ?_
        refine tn 15 rfl hS ?_
        refine tn 16 rfl hS ?_
        refine tm 17 (.bool true) rfl hS ?_
        refine tm 18 (.bool true) rfl hS ?_
        refine tn 19 rfl hS ?_
        refine tn 20 rfl hS ?_
        refine tn 21 rfl hS ?_
        refine tn 22 rfl hS ?_
        refine tn 23 rfl hS ?_
        refine tn 24 rfl hS ?_
        refine tn 25 rfl hS ?_
        refine tn 26 rfl hS ?_
        refine tn 27 rfl hS ?_
        refine tn 28 rfl hS ?_
        refine tn 29 rfl hS ?_
        refine tn 30 rfl hS ?_
        refine tn 31 rfl hS ?_
        refine tn 32 rfl hS ?_
        refine tn 33 rfl hS ?_
        refine tn 34 rfl hS ?_
        refine tn 35 rfl hS ?_
        refine tn 36 rfl hS ?_
        refine tm 37 (.bool true) rfl hS ?_
        refine wpAnyH_done (by kernel_rfl) ?_ _
        go_wp2_with fail
        go_ret
        refine ⟨?_, ?_⟩
        · rw [HR.out, all_not (j := j) (by rw [← HN.out]; exact hjn) (by unfold stepB; rw [HX.out]; simp [okV, hvb])]; rfl
        · exact HBL.out.trans (hS.mono (by have := HWS.out; omega))
      | true =>
        have C := Lib.hid (fun wx h => by have q := HC.out wx h; rwa [hvb] at q)
        by_cases hv : x.1.vw = vw
        · have HV := Lib.hid hv
          clear hv
          by_cases hj0 : j = 0
          · have HJ0 := Lib.hid hj0
            have hj0' : ¬ (0 : Int) < j := by omega
            clear hj0
            refine wp_region_held_drew (S := fun wx => Below W.heap.size W wx) (by kernel_rfl) (I.out.1.drew) (fun hS => ?_)
            refine tg 0 (.pointer (some ⟨w.heap.size, 22, none⟩)) rfl hS ?_
            refine tk 1 (.slice (some ⟨b, o, none⟩) n cc) rfl (yi_load 33 (.tmp 11) (.pointer (some ⟨w.heap.size, 22, none⟩)) rfl rfl rfl (fun wq hw => by have q : wq.cell? ⟨w.heap.size, 22, none⟩ = some (.slice (some ⟨b, o, none⟩) n cc) := (HQQ.out wq hw).1; go_simp)) hS ?_
            refine tm 2 (.int .i64 ↑j) rfl hS ?_
            refine tg 3 (.pointer (some ⟨b, o + j * 7, none⟩)) rfl hS ?_
            refine tk 4 (.agg x.1.cells.toArray) rfl (yi_load 32 (.tmp 14) (.pointer (some ⟨b, o + j * 7, none⟩)) rfl rfl rfl (fun wq hw => vt_load (HG.out wq hw))) hS ?_
            refine rdy1 5 rfl (fun K hK => ?_)
            rw [if_pos (by rfl)]
            go_simp
            refine Calls.mono (C.out _ hS) ?_
            rintro e w4 ⟨rfl, b4⟩
            have h4 : Below W.heap.size W w4 := hS.trans (b4.mono hS.size)
            refine hK.out _ _ (h4) (fun hS => ?_)
            clear hK K
            refine tm 6 (.bool false) rfl hS ?_
            refine tm 7 (.bool false) rfl hS ?_
            refine tg 8 (.pointer (some ⟨w.heap.size, 22, none⟩)) rfl hS ?_
            refine tk 9 (.slice (some ⟨b, o, none⟩) n cc) rfl (yi_load 33 (.tmp 19) (.pointer (some ⟨w.heap.size, 22, none⟩)) rfl rfl rfl (fun wq hw => by have q : wq.cell? ⟨w.heap.size, 22, none⟩ = some (.slice (some ⟨b, o, none⟩) n cc) := (HQQ.out wq hw).1; go_simp)) hS ?_
            refine tm 10 (.int .i64 ↑j) rfl hS ?_
            refine tg 11 (.pointer (some ⟨b, o + j * 7, none⟩)) rfl hS ?_
            refine tg 12 (.pointer (some ⟨b, o + j * 7 + 2, none⟩)) rfl hS ?_
            refine tk 13 (.int .u32 x.1.vw) rfl (yi_load 22 (.tmp 23) (.pointer (some ⟨b, o + j * 7 + 2, none⟩)) rfl rfl rfl (fun wq hw => by have q : wq.cell? ⟨b, o + j * 7 + 2, none⟩ = some (.int .u32 x.1.vw) := HG.out wq hw 2 _ rfl; go_simp)) hS ?_
            refine tg 14 (.pointer (some ⟨w.heap.size, 4, none⟩)) rfl hS ?_
            refine tk 15 (.int .u32 vw) rfl (yi_load 22 (.tmp 25) (.pointer (some ⟨w.heap.size, 4, none⟩)) rfl rfl rfl (fun wq hw => by have q : wq.cell? ⟨w.heap.size, 4, none⟩ = some (.int .u32 vw) := (HQQ.out wq hw).2; go_simp)) hS ?_
            refine tk 16 (.bool false) rfl (.inl ⟨rfl, fun _ _ => by go_simp; simp [HV.out]⟩) hS ?_
            refine tm 17 (.bool false) rfl hS ?_
            refine tm 18 (.bool false) rfl hS ?_
            refine tm 19 (.int .i64 ↑j) rfl hS ?_
            refine tk 20 (.bool false) rfl (.inl ⟨rfl, fun _ _ => by go_simp; exact HJ0.out⟩) hS ?_
            refine tm 21 (.bool false) rfl hS ?_
            refine tn 22 rfl hS ?_
            refine tn 23 rfl hS ?_
            refine tn 24 rfl hS ?_
            refine tn 25 rfl hS ?_
            refine tn 26 rfl hS ?_
            refine tn 27 rfl hS ?_
            refine tn 28 rfl hS ?_
            refine tn 29 rfl hS ?_
            refine tn 30 rfl hS ?_
            refine tn 31 rfl hS ?_
            refine tn 32 rfl hS ?_
            refine tn 33 rfl hS ?_
            refine tn 34 rfl hS ?_
            refine tn 35 rfl hS ?_
            refine tm 36 (.bool false) rfl hS ?_
            refine tm 37 (.bool false) rfl hS ?_
            refine wpAnyH_done (by kernel_rfl) ?_ _
            go_wp2_with fail
            refine ⟨⟨j + 1, by go_num, by omega, Lib.hid ⟨hS, fun i hi => ?_⟩⟩, by simp [intOf]; omega⟩
            by_cases e : i = j
            · subst e; exact (by unfold stepB; rw [HX.out]; simp [okV, hvb, HV.out, HJ0.out])
            · exact I.out.2 i (by omega)
          · obtain ⟨i, hji⟩ : ∃ i, j = i + 1 := ⟨j - 1, by omega⟩
            have hj0' : (0 : Int) < j := by omega
            have hs1 : (j : Int) - 1 = i := by omega
            have hin : (i : Int) < n := by omega
            have hib : (i : Int) ≤ 1000000 := by omega
            have hi0 : (0 : Int) ≤ i := by omega
            have hwi : IntKind.i64.wrap (i : Int) = i := wrap_fit _ hi0 hib
            obtain ⟨y, hy⟩ : ∃ y, c.vs[i]? = some y := ⟨_, List.getElem?_eq_getElem (by rw [← HN.out]; omega)⟩
            obtain ⟨b2, o2, ha2, g2⟩ := HROW.out i y hy
            have e2 := ha2
            injection e2 with e2
            injection e2 with eb eo _
            subst eb eo
            have HG2 := Lib.hid (fun wx (h : Below W.heap.size W wx) k u (hu : (vcell y)[k]? = some u) => show wx.cell? ⟨b, o + i * 7 + k, none⟩ = some u by
              have h3 := g2 k u hu
              have h4 : W.cell? ⟨b, o + i * 7 + k, none⟩ = some u := by rw [HBL.out.cell (cell_block h3)]; exact h3
              rw [h.cell (cell_block h4)]; exact h4)
            have HY := Lib.hid hy
            have HJI := Lib.hid hji
            have hst : stepB (okV vw) vAb c.vs j = decide (y.1.f < x.1.f) := by
              rw [hji] at HX ⊢
              unfold stepB
              rw [HX.out]
              simp [okV, hvb, HV.out, HY.out, vAb]
            have HST := Lib.hid hst
            clear g2 hy hji ha2 hst hj0
            by_cases hf : y.1.f < x.1.f
            · have HF := Lib.hid hf
              clear hf
              refine wp_region_held_drew (S := fun wx => Below W.heap.size W wx) (by kernel_rfl) (I.out.1.drew) (fun hS => ?_)
              refine tg 0 (.pointer (some ⟨w.heap.size, 22, none⟩)) rfl hS ?_
              refine tk 1 (.slice (some ⟨b, o, none⟩) n cc) rfl (yi_load 33 (.tmp 11) (.pointer (some ⟨w.heap.size, 22, none⟩)) rfl rfl rfl (fun wq hw => by have q : wq.cell? ⟨w.heap.size, 22, none⟩ = some (.slice (some ⟨b, o, none⟩) n cc) := (HQQ.out wq hw).1; go_simp)) hS ?_
              refine tm 2 (.int .i64 ↑j) rfl hS ?_
              refine tg 3 (.pointer (some ⟨b, o + j * 7, none⟩)) rfl hS ?_
              refine tk 4 (.agg x.1.cells.toArray) rfl (yi_load 32 (.tmp 14) (.pointer (some ⟨b, o + j * 7, none⟩)) rfl rfl rfl (fun wq hw => vt_load (HG.out wq hw))) hS ?_
              refine rdy1 5 rfl (fun K hK => ?_)
              rw [if_pos (by rfl)]
              go_simp
              refine Calls.mono (C.out _ hS) ?_
              rintro e w4 ⟨rfl, b4⟩
              have h4 : Below W.heap.size W w4 := hS.trans (b4.mono hS.size)
              refine hK.out _ _ (h4) (fun hS => ?_)
              clear hK K
              refine tm 6 (.bool false) rfl hS ?_
              refine tm 7 (.bool false) rfl hS ?_
              refine tg 8 (.pointer (some ⟨w.heap.size, 22, none⟩)) rfl hS ?_
              refine tk 9 (.slice (some ⟨b, o, none⟩) n cc) rfl (yi_load 33 (.tmp 19) (.pointer (some ⟨w.heap.size, 22, none⟩)) rfl rfl rfl (fun wq hw => by have q : wq.cell? ⟨w.heap.size, 22, none⟩ = some (.slice (some ⟨b, o, none⟩) n cc) := (HQQ.out wq hw).1; go_simp)) hS ?_
              refine tm 10 (.int .i64 ↑j) rfl hS ?_
              refine tg 11 (.pointer (some ⟨b, o + j * 7, none⟩)) rfl hS ?_
              refine tg 12 (.pointer (some ⟨b, o + j * 7 + 2, none⟩)) rfl hS ?_
              refine tk 13 (.int .u32 x.1.vw) rfl (yi_load 22 (.tmp 23) (.pointer (some ⟨b, o + j * 7 + 2, none⟩)) rfl rfl rfl (fun wq hw => by have q : wq.cell? ⟨b, o + j * 7 + 2, none⟩ = some (.int .u32 x.1.vw) := HG.out wq hw 2 _ rfl; go_simp)) hS ?_
              refine tg 14 (.pointer (some ⟨w.heap.size, 4, none⟩)) rfl hS ?_
              refine tk 15 (.int .u32 vw) rfl (yi_load 22 (.tmp 25) (.pointer (some ⟨w.heap.size, 4, none⟩)) rfl rfl rfl (fun wq hw => by have q : wq.cell? ⟨w.heap.size, 4, none⟩ = some (.int .u32 vw) := (HQQ.out wq hw).2; go_simp)) hS ?_
              refine tk 16 (.bool false) rfl (.inl ⟨rfl, fun _ _ => by go_simp; simp [HV.out]⟩) hS ?_
              refine tm 17 (.bool false) rfl hS ?_
              refine tm 18 (.bool false) rfl hS ?_
              refine tm 19 (.int .i64 ↑j) rfl hS ?_
              refine tk 20 (.bool true) rfl (.inl ⟨rfl, fun _ _ => by go_simp; omega⟩) hS ?_
              refine tm 21 (.bool true) rfl hS ?_
              refine tg 22 (.pointer (some ⟨w.heap.size, 22, none⟩)) rfl hS ?_
              refine tk 23 (.slice (some ⟨b, o, none⟩) n cc) rfl (yi_load 33 (.tmp 33) (.pointer (some ⟨w.heap.size, 22, none⟩)) rfl rfl rfl (fun wq hw => by have q : wq.cell? ⟨w.heap.size, 22, none⟩ = some (.slice (some ⟨b, o, none⟩) n cc) := (HQQ.out wq hw).1; go_simp)) hS ?_
              refine tm 24 (.int .i64 ↑j) rfl hS ?_
              refine tg 25 (.int .i64 ↑i) rfl hS ?_
              refine tg 26 (.pointer (some ⟨b, o + i * 7, none⟩)) rfl hS ?_
              refine tg 27 (.pointer (some ⟨b, o + i * 7, none⟩)) rfl hS ?_
              refine tk 28 (.int .u8 y.1.f) rfl (yi_load 5 (.tmp 38) (.pointer (some ⟨b, o + i * 7, none⟩)) rfl rfl rfl (fun wq hw => by have q : wq.cell? ⟨b, o + i * 7, none⟩ = some (.int .u8 y.1.f) := HG2.out wq hw 0 _ rfl; go_simp)) hS ?_
              refine tg 29 (.pointer (some ⟨w.heap.size, 22, none⟩)) rfl hS ?_
              refine tk 30 (.slice (some ⟨b, o, none⟩) n cc) rfl (yi_load 33 (.tmp 40) (.pointer (some ⟨w.heap.size, 22, none⟩)) rfl rfl rfl (fun wq hw => by have q : wq.cell? ⟨w.heap.size, 22, none⟩ = some (.slice (some ⟨b, o, none⟩) n cc) := (HQQ.out wq hw).1; go_simp)) hS ?_
              refine tm 31 (.int .i64 ↑j) rfl hS ?_
              refine tg 32 (.pointer (some ⟨b, o + j * 7, none⟩)) rfl hS ?_
              refine tg 33 (.pointer (some ⟨b, o + j * 7, none⟩)) rfl hS ?_
              refine tk 34 (.int .u8 x.1.f) rfl (yi_load 5 (.tmp 44) (.pointer (some ⟨b, o + j * 7, none⟩)) rfl rfl rfl (fun wq hw => by have q : wq.cell? ⟨b, o + j * 7, none⟩ = some (.int .u8 x.1.f) := HG.out wq hw 0 _ rfl; go_simp)) hS ?_
              refine tk 35 (.bool false) rfl (.inl ⟨rfl, fun _ _ => by go_simp; have q := HF.out; first | omega | (simp; omega) | simpa using q⟩) hS ?_
              refine tm 36 (.bool false) rfl hS ?_
              refine tm 37 (.bool false) rfl hS ?_
              refine wpAnyH_done (by kernel_rfl) ?_ _
              go_wp2_with fail
              refine ⟨⟨j + 1, by go_num, by omega, Lib.hid ⟨hS, fun i hi => ?_⟩⟩, by simp [intOf]; omega⟩
              by_cases e : i = j
              · subst e; exact (by rw [HST.out, decide_eq_true HF.out])
              · exact I.out.2 i (by omega)
            · have HF := Lib.hid hf
              clear hf
              refine wp_region_held_drew (S := fun wx => Below W.heap.size W wx) (by kernel_rfl) (I.out.1.drew) (fun hS => ?_)
              refine tg 0 (.pointer (some ⟨w.heap.size, 22, none⟩)) rfl hS ?_
              refine tk 1 (.slice (some ⟨b, o, none⟩) n cc) rfl (yi_load 33 (.tmp 11) (.pointer (some ⟨w.heap.size, 22, none⟩)) rfl rfl rfl (fun wq hw => by have q : wq.cell? ⟨w.heap.size, 22, none⟩ = some (.slice (some ⟨b, o, none⟩) n cc) := (HQQ.out wq hw).1; go_simp)) hS ?_
              refine tm 2 (.int .i64 ↑j) rfl hS ?_
              refine tg 3 (.pointer (some ⟨b, o + j * 7, none⟩)) rfl hS ?_
              refine tk 4 (.agg x.1.cells.toArray) rfl (yi_load 32 (.tmp 14) (.pointer (some ⟨b, o + j * 7, none⟩)) rfl rfl rfl (fun wq hw => vt_load (HG.out wq hw))) hS ?_
              refine rdy1 5 rfl (fun K hK => ?_)
              rw [if_pos (by rfl)]
              go_simp
              refine Calls.mono (C.out _ hS) ?_
              rintro e w4 ⟨rfl, b4⟩
              have h4 : Below W.heap.size W w4 := hS.trans (b4.mono hS.size)
              refine hK.out _ _ (h4) (fun hS => ?_)
              clear hK K
              refine tm 6 (.bool false) rfl hS ?_
              refine tm 7 (.bool false) rfl hS ?_
              refine tg 8 (.pointer (some ⟨w.heap.size, 22, none⟩)) rfl hS ?_
              refine tk 9 (.slice (some ⟨b, o, none⟩) n cc) rfl (yi_load 33 (.tmp 19) (.pointer (some ⟨w.heap.size, 22, none⟩)) rfl rfl rfl (fun wq hw => by have q : wq.cell? ⟨w.heap.size, 22, none⟩ = some (.slice (some ⟨b, o, none⟩) n cc) := (HQQ.out wq hw).1; go_simp)) hS ?_
              refine tm 10 (.int .i64 ↑j) rfl hS ?_
              refine tg 11 (.pointer (some ⟨b, o + j * 7, none⟩)) rfl hS ?_
              refine tg 12 (.pointer (some ⟨b, o + j * 7 + 2, none⟩)) rfl hS ?_
              refine tk 13 (.int .u32 x.1.vw) rfl (yi_load 22 (.tmp 23) (.pointer (some ⟨b, o + j * 7 + 2, none⟩)) rfl rfl rfl (fun wq hw => by have q : wq.cell? ⟨b, o + j * 7 + 2, none⟩ = some (.int .u32 x.1.vw) := HG.out wq hw 2 _ rfl; go_simp)) hS ?_
              refine tg 14 (.pointer (some ⟨w.heap.size, 4, none⟩)) rfl hS ?_
              refine tk 15 (.int .u32 vw) rfl (yi_load 22 (.tmp 25) (.pointer (some ⟨w.heap.size, 4, none⟩)) rfl rfl rfl (fun wq hw => by have q : wq.cell? ⟨w.heap.size, 4, none⟩ = some (.int .u32 vw) := (HQQ.out wq hw).2; go_simp)) hS ?_
              refine tk 16 (.bool false) rfl (.inl ⟨rfl, fun _ _ => by go_simp; simp [HV.out]⟩) hS ?_
              refine tm 17 (.bool false) rfl hS ?_
              refine tm 18 (.bool false) rfl hS ?_
              refine tm 19 (.int .i64 ↑j) rfl hS ?_
              refine tk 20 (.bool true) rfl (.inl ⟨rfl, fun _ _ => by go_simp; omega⟩) hS ?_
              refine tm 21 (.bool true) rfl hS ?_
              refine tg 22 (.pointer (some ⟨w.heap.size, 22, none⟩)) rfl hS ?_
              refine tk 23 (.slice (some ⟨b, o, none⟩) n cc) rfl (yi_load 33 (.tmp 33) (.pointer (some ⟨w.heap.size, 22, none⟩)) rfl rfl rfl (fun wq hw => by have q : wq.cell? ⟨w.heap.size, 22, none⟩ = some (.slice (some ⟨b, o, none⟩) n cc) := (HQQ.out wq hw).1; go_simp)) hS ?_
              refine tm 24 (.int .i64 ↑j) rfl hS ?_
              refine tg 25 (.int .i64 ↑i) rfl hS ?_
              refine tg 26 (.pointer (some ⟨b, o + i * 7, none⟩)) rfl hS ?_
              refine tg 27 (.pointer (some ⟨b, o + i * 7, none⟩)) rfl hS ?_
              refine tk 28 (.int .u8 y.1.f) rfl (yi_load 5 (.tmp 38) (.pointer (some ⟨b, o + i * 7, none⟩)) rfl rfl rfl (fun wq hw => by have q : wq.cell? ⟨b, o + i * 7, none⟩ = some (.int .u8 y.1.f) := HG2.out wq hw 0 _ rfl; go_simp)) hS ?_
              refine tg 29 (.pointer (some ⟨w.heap.size, 22, none⟩)) rfl hS ?_
              refine tk 30 (.slice (some ⟨b, o, none⟩) n cc) rfl (yi_load 33 (.tmp 40) (.pointer (some ⟨w.heap.size, 22, none⟩)) rfl rfl rfl (fun wq hw => by have q : wq.cell? ⟨w.heap.size, 22, none⟩ = some (.slice (some ⟨b, o, none⟩) n cc) := (HQQ.out wq hw).1; go_simp)) hS ?_
              refine tm 31 (.int .i64 ↑j) rfl hS ?_
              refine tg 32 (.pointer (some ⟨b, o + j * 7, none⟩)) rfl hS ?_
              refine tg 33 (.pointer (some ⟨b, o + j * 7, none⟩)) rfl hS ?_
              refine tk 34 (.int .u8 x.1.f) rfl (yi_load 5 (.tmp 44) (.pointer (some ⟨b, o + j * 7, none⟩)) rfl rfl rfl (fun wq hw => by have q : wq.cell? ⟨b, o + j * 7, none⟩ = some (.int .u8 x.1.f) := HG.out wq hw 0 _ rfl; go_simp)) hS ?_
              refine tk 35 (.bool true) rfl (.inl ⟨rfl, fun _ _ => by go_simp; have q := HF.out; first | omega | (simp; omega) | simpa using q⟩) hS ?_
              refine tm 36 (.bool true) rfl hS ?_
              refine tm 37 (.bool true) rfl hS ?_
              refine wpAnyH_done (by kernel_rfl) ?_ _
              go_wp2_with fail
              go_ret
              refine ⟨?_, ?_⟩
              · rw [HR.out, all_not (j := j) (by rw [← HN.out]; exact hjn) (by rw [HST.out, decide_eq_false_iff_not]; have := HF.out; omega)]; rfl
              · exact HBL.out.trans (hS.mono (by have := HWS.out; omega))
        · have HV := Lib.hid hv
          clear hv
          refine wp_region_held_drew (S := fun wx => Below W.heap.size W wx) (by kernel_rfl) (I.out.1.drew) (fun hS => ?_)
          refine tg 0 (.pointer (some ⟨w.heap.size, 22, none⟩)) rfl hS ?_
          refine tk 1 (.slice (some ⟨b, o, none⟩) n cc) rfl (yi_load 33 (.tmp 11) (.pointer (some ⟨w.heap.size, 22, none⟩)) rfl rfl rfl (fun wq hw => by have q : wq.cell? ⟨w.heap.size, 22, none⟩ = some (.slice (some ⟨b, o, none⟩) n cc) := (HQQ.out wq hw).1; go_simp)) hS ?_
          refine tm 2 (.int .i64 ↑j) rfl hS ?_
          refine tg 3 (.pointer (some ⟨b, o + j * 7, none⟩)) rfl hS ?_
          refine tk 4 (.agg x.1.cells.toArray) rfl (yi_load 32 (.tmp 14) (.pointer (some ⟨b, o + j * 7, none⟩)) rfl rfl rfl (fun wq hw => vt_load (HG.out wq hw))) hS ?_
          refine rdy1 5 rfl (fun K hK => ?_)
          rw [if_pos (by rfl)]
          go_simp
          refine Calls.mono (C.out _ hS) ?_
          rintro e w4 ⟨rfl, b4⟩
          have h4 : Below W.heap.size W w4 := hS.trans (b4.mono hS.size)
          refine hK.out _ _ (h4) (fun hS => ?_)
          clear hK K
          refine tm 6 (.bool false) rfl hS ?_
          refine tm 7 (.bool false) rfl hS ?_
          refine tg 8 (.pointer (some ⟨w.heap.size, 22, none⟩)) rfl hS ?_
          refine tk 9 (.slice (some ⟨b, o, none⟩) n cc) rfl (yi_load 33 (.tmp 19) (.pointer (some ⟨w.heap.size, 22, none⟩)) rfl rfl rfl (fun wq hw => by have q : wq.cell? ⟨w.heap.size, 22, none⟩ = some (.slice (some ⟨b, o, none⟩) n cc) := (HQQ.out wq hw).1; go_simp)) hS ?_
          refine tm 10 (.int .i64 ↑j) rfl hS ?_
          refine tg 11 (.pointer (some ⟨b, o + j * 7, none⟩)) rfl hS ?_
          refine tg 12 (.pointer (some ⟨b, o + j * 7 + 2, none⟩)) rfl hS ?_
          refine tk 13 (.int .u32 x.1.vw) rfl (yi_load 22 (.tmp 23) (.pointer (some ⟨b, o + j * 7 + 2, none⟩)) rfl rfl rfl (fun wq hw => by have q : wq.cell? ⟨b, o + j * 7 + 2, none⟩ = some (.int .u32 x.1.vw) := HG.out wq hw 2 _ rfl; go_simp)) hS ?_
          refine tg 14 (.pointer (some ⟨w.heap.size, 4, none⟩)) rfl hS ?_
          refine tk 15 (.int .u32 vw) rfl (yi_load 22 (.tmp 25) (.pointer (some ⟨w.heap.size, 4, none⟩)) rfl rfl rfl (fun wq hw => by have q : wq.cell? ⟨w.heap.size, 4, none⟩ = some (.int .u32 vw) := (HQQ.out wq hw).2; go_simp)) hS ?_
          refine tk 16 (.bool true) rfl (.inl ⟨rfl, fun _ _ => by go_simp; simp [HV.out]⟩) hS ?_
          refine tm 17 (.bool true) rfl hS ?_
          refine tm 18 (.bool true) rfl hS ?_
          refine tn 19 rfl hS ?_
          refine tn 20 rfl hS ?_
          refine tn 21 rfl hS ?_
          refine tn 22 rfl hS ?_
          refine tn 23 rfl hS ?_
          refine tn 24 rfl hS ?_
          refine tn 25 rfl hS ?_
          refine tn 26 rfl hS ?_
          refine tn 27 rfl hS ?_
          refine tn 28 rfl hS ?_
          refine tn 29 rfl hS ?_
          refine tn 30 rfl hS ?_
          refine tn 31 rfl hS ?_
          refine tn 32 rfl hS ?_
          refine tn 33 rfl hS ?_
          refine tn 34 rfl hS ?_
          refine tn 35 rfl hS ?_
          refine tn 36 rfl hS ?_
          refine tm 37 (.bool true) rfl hS ?_
          refine wpAnyH_done (by kernel_rfl) ?_ _
          go_wp2_with fail
          go_ret
          refine ⟨?_, ?_⟩
          · rw [HR.out, all_not (j := j) (by rw [← HN.out]; exact hjn) (by unfold stepB; rw [HX.out]; simp [okV, HV.out])]; rfl
          · exact HBL.out.trans (hS.mono (by have := HWS.out; omega))
    · have hjn' : ¬ (j : Int) < n := by omega
      have q4' : decide ((n : Int) ≤ 4) = decide (c.vs.length ≤ 4) := by rw [← HN.out]; simp; omega
      have HD := Lib.hid q4'
      clear q4'
      go_wp2_with fail
      go_ret
      refine ⟨?_, HBL.out.trans (I.out.1.mono (by have := HWS.out; omega))⟩
      rw [HR.out, all_yes (fun i hi => I.out.2 i (by have := HN.out; omega)), ← HD.out]
      simp
end Go.Proofs.YtbpfkeeikhhlnaaGreatDoor
