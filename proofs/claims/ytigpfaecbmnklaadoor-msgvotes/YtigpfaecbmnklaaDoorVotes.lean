/- The walk of MsgVotes. -/
import Derived.Test.YtigpfaecbmnklaaDoorVotesB
import Derived.Deep.CutBlock
import Derived.Deep.CutRange
import Derived.Maps.AppendAt
namespace Go.Proofs.YtigpfaecbmnklaaDoor
open Go.RowKit
set_option maxRecDepth 100000

theorem info51 : (Tryd.prog.info? 51).map (fun i => (i.zero, i.size, i.bytes)) = some (some (.agg #[.int .u32 0, .int .u64 0]), 2, 16) := by kernel_rfl
theorem info49 : (Tryd.prog.info? 49).map (fun i => (i.zero, i.size, i.bytes)) = some (some (.agg #[.int .u32 0, .int .u32 0, .int .u8 0, .int .u32 0, .int .u8 0, .int .u8 0, .int .u16 0]), 7, 20) := by kernel_rfl
theorem ownR_form {w : World} {e k n : Nat} {v : Value} {xs : List Value} (h : w.ownsRow 0 e k v n xs) : ∃ ao cap, v = .slice ao n cap := by
  rcases h.2 with ⟨rfl, rfl⟩ | ⟨g, cap, cur, rfl, _⟩
  · exact ⟨none, 0, rfl⟩
  · exact ⟨_, cap, rfl⟩
theorem ownR_kept {S : Nat → Prop} {w w' : World} {e k n : Nat} {v : Value} {xs : List Value} (h : w.ownsRow 0 e k v n xs) (hk : Kept S w w') (hS : ∀ g, v.ownBlock = some g → ¬ S g) : w'.ownsRow 0 e k v n xs := by
  refine ⟨h.1, ?_⟩
  rcases h.2 with hn | ⟨g, cap, cur, rfl, hb, hgg, rest⟩
  · exact .inl hn
  · refine .inr ⟨g, cap, cur, rfl, hb, ?_, rest⟩
    rw [hk.block g (lt_of_block hgg) (hS g rfl)]
    exact hgg
theorem ownR_lt {w : World} {e k n : Nat} {v : Value} {xs : List Value} (h : w.ownsRow 0 e k v n xs) {g : Nat} (hg : v.ownBlock = some g) : g < w.heap.size := by
  rcases h.2 with ⟨rfl, _⟩ | ⟨g', cap, cur, rfl, hb, hgg, rest⟩
  · simp [Value.ownBlock] at hg
  · simp [Value.ownBlock] at hg
    subst hg
    exact lt_of_block hgg

theorem news_at (X : World) (cs : List Value) (e : TypeId) : ∀ j u, cs[j]? = some u → (X.alloc (.cells cs.toArray e)).cell? ((⟨X.heap.size, 0, none⟩ : Addr).add j) = some u := by
  intro j u hu
  have e7 : (⟨X.heap.size, 0, none⟩ : Addr).add j = ⟨X.heap.size, j, none⟩ := by
    unfold Addr.add
    split
    · rename_i h8; subst h8; rfl
    · simp
  rw [e7, cell_of_row _ _ _ _ _ _ (heap_alloc_new _ _)]
  simpa using hu
theorem flat_step {α : Type} {l : List Int} {j : Nat} {x : Int} (f : Int → α) (enc : α → List Value) (h : l[j]? = some x) : ((l.take (j + 1)).map f).flatMap enc = ((l.take j).map f).flatMap enc ++ enc (f x) := by
  rw [List.take_add_one, h]; simp [List.flatMap_append]

/-- what stands when j places are laid -/
def Lay0 (w wr : World) (V : Nat) (l : List Int) (j : Nat) : Prop :=
  ∃ ao2 cap2, wr.heap[V]? = some (.cells (vv ⟨ao2, j, cap2⟩ ⟨none, 0, 0⟩ ⟨none, 0, 0⟩).cells.toArray 32 (0, 0)) ∧ wr.ownsRow 0 51 2 (.slice ao2 j cap2) j (((l.take j).map vMk).flatMap Mk.cells) ∧ (∀ g, (Value.slice ao2 j cap2).ownBlock = some g → V < g) ∧ Below w.heap.size w wr ∧ w.heap.size ≤ V
theorem Lay0.cut {w wr wx : World} {V : Nat} {l : List Int} {j : Nat} (h : Lay0 w wr V l j) (hb : Below wr.heap.size wr wx) : Lay0 w wx V l j := by
  obtain ⟨ao2, cap2, h1, h2, h3, h4, h5⟩ := h
  exact ⟨ao2, cap2, (hb.block V (lt_of_block h1)).trans h1, ownR_kept h2 (Kept.ofBelow (S := fun _ => False) hb) (fun _ _ h => h), h3, h4.trans (hb.mono h4.size), h5⟩

set_option maxHeartbeats 8000000 in
theorem votes0 (w : World) (ao : Option Addr) (cap : Nat) (l : List Int) (hby : Bytes w ao l) (hby2 : ∀ x ∈ l, isByte x) (wh : Int) (hwh : wh % 3 = 0) (hw0 : 0 ≤ wh) (ht : Tab w) (h50 : l.length ≤ 50) :
    Calls Tryd.prog 4 #[.slice ao l.length cap, .int .u8 wh] w fun e w' => e = .returned (.bool true) ∧ Below w.heap.size w w' := by
  have CK := Lib.hid (known_any w ht)
  have HT := Lib.hid ht
  have HBY := Lib.hid hby
  have HB2 := Lib.hid hby2
  have HOK := Lib.hid (fun a b c => show voteB (vv a b c) (vcT 0 l) = okTo l true l.length by have := vv_vote 0 l hby2 a b c; simpa using this)
  clear ht hby hby2
  obtain ⟨i0, hi, hz0, hz1, hz2⟩ := info_parts info51
  have HINFO := Lib.hid (And.intro hi (And.intro hz0 (And.intro hz1 hz2)))
  clear hi hz0 hz1 hz2
  generalize hn : l.length = n at *
  have HN := Lib.hid hn
  have h50' : ¬ (n : Int) > 50 := by omega
  clear hn
  go_enter Tryd.func4, Tryd.ntmps4
  go_wp2_with fail
  refine Calls.mono CK.out ?_
  rintro e' w1 ⟨rfl, hb1⟩
  have B1 := Lib.hid hb1
  clear hb1 CK
  go_upto_region 6 with fail
  obtain ⟨wv, hwv⟩ : ∃ x, x = w1.alloc (.cells (vv ⟨none, 0, 0⟩ ⟨none, 0, 0⟩ ⟨none, 0, 0⟩).cells.toArray 32) := ⟨_, rfl⟩
  have hlay : Lay0 w wv w1.heap.size l 0 := ⟨none, 0, by rw [hwv]; exact heap_alloc_new _ _, ⟨by simp, .inl ⟨rfl, rfl⟩⟩, (fun g e => by simp [Value.ownBlock] at e), by rw [hwv]; exact B1.out.alloc B1.out.size _, B1.out.size⟩
  have HLAY := Lib.hid hlay
  simp only [vv, Vt.cells] at hwv
  rw [← hwv]
  clear hlay hwv
  generalize hV : w1.heap.size = V at *
  have hok0 : okTo l true 0 = decide ((n : Int) ≤ 40) := by
    simp only [okTo, HN.out]
    by_cases h40 : n ≤ 40
    · rw [decide_eq_true h40, decide_eq_true (by omega)]
    · rw [decide_eq_false h40, decide_eq_false (by omega)]
  have HOK0 := Lib.hid hok0
  clear hok0
  go_wp2_with fail
  go_loopw [6, 7] (fun v6 v7 wr => ∃ j : Nat, j ≤ n ∧ v7 = .int .i64 j ∧ v6 = .bool (okTo l true j) ∧ Hid (Lay0 w wr V l j)) (fun _ i _ => n - (intOf i).toNat)
  case atStart => exact ⟨0, by omega, rfl, by rw [HOK0.out], HLAY⟩
  case round =>
    obtain ⟨j, hj, rfl, rfl, HL⟩ := hrel
    by_cases hlt : j < n
    · have hbw : Bytes wr ao l := by
        obtain ⟨_, _, _, _, _, hb, _⟩ := HL.out
        exact bytes_below HBY.out hb (Nat.le_refl _)
      obtain ⟨ad, rfl, hc⟩ := hbw j (by rw [HN.out]; exact hlt)
      obtain ⟨x, hxd⟩ : ∃ x, x = l.getD j 0 := ⟨_, rfl⟩
      have hxm : isByte x := by
        rw [hxd, List.getD_eq_getElem?_getD, List.getElem?_eq_getElem (by rw [HN.out]; exact hlt)]
        exact HB2.out _ (List.getElem_mem _)
      rw [← hxd] at hc
      obtain ⟨x0, x1⟩ := hxm
      have HXD := Lib.hid hxd
      have HBW := Lib.hid hbw
      obtain ⟨ob, hob⟩ : ∃ b, b = okTo l true j := ⟨_, rfl⟩
      have hst : okTo l true (j + 1) = (ob && ((decide (j = 0) || decide (l.getD (j - 1) 0 < x)) && (decide (0 < x) || true))) := by rw [okTo, ← hob, upS, ← hxd]
      obtain ⟨on, hon⟩ : ∃ b, b = okTo l true (j + 1) := ⟨_, rfl⟩
      rw [← hon] at hst
      have HST := Lib.hid hst
      have HON := Lib.hid hon
      rw [← hob]
      clear hxd hbw hob hst hon
      go_upto_region 11 with fail
      go_cut [6] from 22 to 86 (fun s6 wx => s6 = .bool on ∧ ∃ q, wx = wr.drewN q)
      case first =>
        have d3 : (wh % 3 == 0) = true := by rw [hwh]; rfl
        cases ob
        · go_quiet (fail)
          go_wp2_with fail
          go_meet
          exact ⟨by rw [HST.out]; rfl, _, rfl⟩
        · have hj3 : j = 0 ∨ j = 1 ∨ 2 ≤ j := by omega
          rcases hj3 with h0 | h1 | h2
          · subst h0
            by_cases hx0 : x > 0
            · have HX0 := Lib.hid hx0
              go_quiet (fail)
              go_wp2_with fail
              go_meet
              exact ⟨by rw [HST.out, decide_eq_true HX0.out]; simp, _, rfl⟩
            · have HX0 := Lib.hid (show decide (0 < x) = false from decide_eq_false hx0)
              go_quiet (fail)
              go_wp2_with fail
              go_meet
              exact ⟨by rw [HST.out, HX0.out]; simp, _, rfl⟩
          · subst h1
            obtain ⟨ad2, e2, hcy⟩ := HBW.out (0) (by rw [HN.out]; omega)
            injection e2 with e2
            subst e2
            obtain ⟨y, hyd⟩ : ∃ y, y = l.getD (0) 0 := ⟨_, rfl⟩
            rw [← hyd] at hcy
            have hst2 := HST.out
            have e3 : 1 - 1 = 0 := by omega
            rw [e3, ← hyd] at hst2
            have HST2 := Lib.hid hst2
            rw [add_zero] at hcy
            have hc1 : wr.cell? ⟨ad.block, ad.off + 1, none⟩ = some (.int .u8 x) := hc
            clear hst2 e3 hyd
            by_cases hxy : y < x
            · have HXY := Lib.hid hxy
              by_cases hx0 : x > 0
              · have HX0 := Lib.hid hx0
                go_quiet (fail)
                go_wp2_with fail
                go_meet
                exact ⟨by rw [HST2.out, decide_eq_true HX0.out, decide_eq_true HXY.out]; simp, _, rfl⟩
              · have HX0 := Lib.hid (show decide (0 < x) = false from decide_eq_false hx0)
                go_quiet (fail)
                go_wp2_with fail
                go_meet
                exact ⟨by rw [HST2.out, HX0.out, decide_eq_true HXY.out]; simp, _, rfl⟩
            · have HXY := Lib.hid (show decide (y < x) = false from decide_eq_false hxy)
              go_quiet (fail)
              go_wp2_with fail
              go_meet
              exact ⟨by rw [HST2.out, HXY.out]; simp, _, rfl⟩
          · obtain ⟨i, rfl⟩ : ∃ i, j = i + 2 := ⟨j - 2, by omega⟩
            obtain ⟨ad2, e2, hcy⟩ := HBW.out (i + 1) (by rw [HN.out]; omega)
            injection e2 with e2
            subst e2
            obtain ⟨y, hyd⟩ : ∃ y, y = l.getD (i + 1) 0 := ⟨_, rfl⟩
            rw [← hyd] at hcy
            have hst2 := HST.out
            have e3 : i + 2 - 1 = i + 1 := by omega
            rw [e3, ← hyd] at hst2
            have HST2 := Lib.hid hst2
            have hcy2 : wr.cell? ⟨ad.block, ad.off + (i + 1), none⟩ = some (.int .u8 y) := hcy
            have hc2 : wr.cell? ⟨ad.block, ad.off + (i + 2), none⟩ = some (.int .u8 x) := hc
            have hin : (i : Int) + 1 < (n : Int) := by omega
            have hwr : IntKind.i64.wrap ((i : Int) + 1) = (i : Int) + 1 := by simp [IntKind.wrap, IntKind.signed, IntKind.bits]; omega
            have d0 : ((i : Int) + 2 == 0) = false := by simp; omega
            clear hst2 e3 hyd
            by_cases hxy : y < x
            · have HXY := Lib.hid hxy
              by_cases hx0 : x > 0
              · have HX0 := Lib.hid hx0
                go_quiet (fail)
                go_wp2_with fail
                go_meet
                exact ⟨by rw [HST2.out, decide_eq_true HX0.out, decide_eq_true HXY.out]; simp, _, rfl⟩
              · have HX0 := Lib.hid (show decide (0 < x) = false from decide_eq_false hx0)
                go_quiet (fail)
                go_wp2_with fail
                go_meet
                exact ⟨by rw [HST2.out, HX0.out, decide_eq_true HXY.out]; simp, _, rfl⟩
            · have HXY := Lib.hid (show decide (y < x) = false from decide_eq_false hxy)
              go_quiet (fail)
              go_wp2_with fail
              go_meet
              exact ⟨by rw [HST2.out, HXY.out]; simp, _, rfl⟩
      case rest =>
        obtain ⟨rfl, q, rfl⟩ := hcut
        have L1 := Lib.hid (HL.out.cut (bel_drewN (Below.refl wr.heap.size wr) q))
        have HXG := Lib.hid (show l[j]? = some x by rw [HXD.out, List.getD_eq_getElem?_getD, List.getElem?_eq_getElem (by rw [HN.out]; exact hlt)]; rfl)
        clear HL
        generalize hwq : wr.drewN q = wq at *
        clear hwq
        go_wp2_with fail
        refine Calls.mono (put_gen 1 1 2 3 wq) ?_
        rintro e' w2 ⟨rfl, hb2⟩
        simp only [Rq.cells]
        obtain ⟨w3, hw3⟩ : ∃ w3, w3 = w2.alloc (.cells (vEn x).cells.toArray 49) := ⟨_, rfl⟩
        have hb3 : Below w2.heap.size w2 w3 := by rw [hw3]; exact (Below.refl _ _).alloc (Nat.le_refl _) _
        have hE : w3.heap[w2.heap.size]? = some (.cells (vEn x).cells.toArray 49 (0, 0)) := by rw [hw3]; exact heap_alloc_new _ _
        obtain ⟨ao2, cap2, g1, g2, g3, g4, g5⟩ := (L1.out.cut hb2).cut hb3
        have hVne : ∀ g, (Value.slice ao2 j cap2).ownBlock = some g → g ≠ V := fun g e h => by have := g3 g e; omega
        have qv : w3.cell? ⟨V, 4, none⟩ = some (.slice ao2 j cap2) := by rw [cell_of_row _ _ _ _ _ _ g1]; rfl
        obtain ⟨w4, hw4⟩ : ∃ w4, w4 = w3.alloc (.cells (vMk x).cells.toArray 51) := ⟨_, rfl⟩
        have hb4 : Below w3.heap.size w3 w4 := by rw [hw4]; exact (Below.refl _ _).alloc (Nat.le_refl _) _
        have O4 := Lib.hid (ownR_kept g2 (Kept.ofBelow (S := fun _ => False) hb4) (fun _ _ h => h))
        have NW := Lib.hid (show ∀ jj u, (vMk x).cells[jj]? = some u → w4.cell? ((⟨w3.heap.size, 0, none⟩ : Addr).add jj) = some u by rw [hw4]; exact news_at w3 _ _)
        have HV4 := Lib.hid ((hb4.block V (lt_of_block g1)).trans g1)
        have HB4 := Lib.hid (g4.trans (hb4.mono g4.size))
        have HG3 := Lib.hid g3
        have HVNE := Lib.hid hVne
        have HV0 := Lib.hid g5
        simp only [vEn, vr, vMk, Mk.cells, En.cells] at hw3 hw4
        have HW4 := Lib.hid hw4
        have HW3 := Lib.hid hw3
        obtain ⟨hi, hz0, hz1, hz2⟩ := HINFO.out
        clear hb2 hb3 hE g1 g2 g3 g4 g5 hVne hb4 hw3 hw4 L1
        go_upto_region 16 with fail
        rw [← HW3.out]
        go_wp2_with (first | (at_builtin
                              rw [← HW4.out]
                              refine wpList_append_own_at _ rfl _ _ 29 rfl 0 51 i0 _ 2 16 Tryd.underlying29 hi hz0 hz1 hz2 rfl (by decide) (.slice ao2 j cap2) j _ rfl O4.out ⟨w3.heap.size, 0, none⟩ 1 1 (vMk x).cells rfl rfl NW.out (by intro u hu; simp [vMk, Mk.cells] at hu; (repeat' (rcases hu with rfl | hu)); all_goals first | rfl | (subst hu; rfl)) (by unfold maxLen; omega) (by omega) (Nat.zero_le _) ?_
                              intro v5 w5 ho5 hg5 hn5 hl5
                              obtain ⟨ao5, cap5, rfl⟩ := ownR_form ho5
                              have HO5 := Lib.hid ho5
                              have HG5 := Lib.hid hg5
                              have HL5 := Lib.hid hl5
                              clear ho5 hg5 hn5 hl5
                              refine Hid.out ?_) | go_in)
        refine Lib.hid ?_
        have hk5 := Kept.ofGrown HG5.out
        have hV5 : w5.heap[V]? = some (.cells (vv ⟨ao2, j, cap2⟩ ⟨none, 0, 0⟩ ⟨none, 0, 0⟩).cells.toArray 32 (0, 0)) := by
          rw [hk5.block V (lt_of_block HV4.out) (fun e => HVNE.out V e.symm rfl)]; exact HV4.out
        have qv5 : w5.cell? ⟨V, 4, none⟩ = some (.slice ao2 j cap2) := by rw [cell_of_row _ _ _ _ _ _ hV5]; rfl
        have zv5 : w5.frozen? ⟨V, 4, none⟩ = false := frozen_of_row _ _ _ _ _ hV5
        have hown5 : ∀ g, (Value.slice ao5 (j + 1) cap5).ownBlock = some g → V < g := fun g e => by
          rcases HL5.out with e' | e'
          · exact HG3.out g (e'.symm.trans e)
          · rw [e'] at e; injection e with e; have := lt_of_block HV4.out; omega
        have hbel5 : Below w.heap.size w w5 := HB4.out.trans (hk5.below (B := w.heap.size) HB4.out.size (fun g e => by have h7 := HG3.out g e.symm; have h8 := HV0.out; omega))
        have hlay : Lay0 w (w5.setCell ⟨V, 4, none⟩ (.slice ao5 (j + 1) cap5)) V l (j + 1) := by
          refine ⟨ao5, cap5, heap_setCell_same _ _ _ _ _ _ hV5, ?_, hown5, hbel5.setCell HV0.out _, HV0.out⟩
          rw [flat_step vMk Mk.cells HXG.out]
          exact ownR_kept HO5.out ((Kept.refl (fun b => b = V) w5).setCell ⟨V, 4, none⟩ _ (fun _ => rfl)) (fun g e h => by have := hown5 g e; omega)
        have HLAY2 := Lib.hid hlay
        clear hk5 hV5 hown5 hbel5 hlay
        go_wp2_with fail
        go_round
        case measure => simp [intOf]; omega
        case rel => exact ⟨j + 1, by omega, by go_num, by rw [HON.out], HLAY2⟩
    · obtain rfl : j = n := by omega
      have hfin := HL.out
      obtain ⟨ao2, cap2, g1, g2, g3, g4, g5⟩ := hfin
      have hlj : l.take j = l := List.take_of_length_le (by rw [HN.out]; exact Nat.le_refl _)
      rw [hlj] at g2
      have hrow : Row wr 2 Mk.cells (.slice ao2 j cap2) (l.map vMk) := row_of_own (fun x _ => by rfl) g2 (by rw [List.length_map, HN.out]) (by omega)
      obtain ⟨v, hv⟩ : ∃ v, v = vv ⟨ao2, j, cap2⟩ ⟨none, 0, 0⟩ ⟨none, 0, 0⟩ := ⟨_, rfl⟩
      have hvat : VtAt wr v (vcT 0 l) := by rw [hv]; exact ⟨hrow, Row.nil _ _ _, Row.nil _ _ _⟩
      have hvb : voteB v (vcT 0 l) = okTo l true j := by rw [hv]; exact HOK.out _ _ _
      have him : isM (vm v) { Mc.nil with vt := vcT 0 l } = okTo l true j := by rw [← hvb, hv]; exact vm_is _ _ _ _
      rw [← hv] at g1
      have hvf := hv
      obtain ⟨ob, hob⟩ : ∃ b, b = okTo l true j := ⟨_, rfl⟩
      rw [← hob] at hvb him ⊢
      have hT := Tab.on HT.out g4
      obtain ⟨U, hU⟩ : ∃ U, U = (wr.alloc (.cells Vz.toArray 37)).setCells wr.heap.size 0 (vm v).cells := ⟨_, rfl⟩
      obtain ⟨hbx, hbu, hth⟩ := msg_new wr _ hU
      have hmat : MgAt U (vm v) { Mc.nil with vt := vcT 0 l } := ⟨hvat.below hbu, ⟨Row.nil _ _ _, fun x hx => by cases hx⟩, Row.nil _ _ _, ⟨rfl, (fun i hi => by simp [Mc.nil] at hi), fun _ => rfl, Nat.le_refl _, by simp [Mc.nil], fun x hx => by simp [Mc.nil] at hx⟩⟩
      have hmok : McOk { Mc.nil with vt := vcT 0 l } := ⟨vcT_ok 0 l, fun x hx => by cases hx⟩
      have CE := Lib.hid (enc_ok U (vm v) _ hmat hmok (Tab.on hT hbu))
      have CV := Lib.hid (fun w' (h : Below U.heap.size U w') => isVote_any w' v (vcT 0 l) ((hvat.below hbu).below h) (vcT_ok 0 l) (Tab.on (Tab.on hT hbu) h))
      have hel : isM (vm v) { Mc.nil with vt := vcT 0 l } = true → (encM (vm v) { Mc.nil with vt := vcT 0 l }).length ≤ 8000 := fun h => encM_len hmat h
      rw [him] at CE hel
      rw [hvb] at CV
      have qv0 : wr.cell? ⟨V, 0, none⟩ = some (.int .u8 v.f) := by rw [cell_of_row _ _ _ _ _ _ g1]; rfl
      have qv1 : wr.cell? ⟨V, 1, none⟩ = some (.int .u8 v.e) := by rw [cell_of_row _ _ _ _ _ _ g1]; rfl
      have qv2 : wr.cell? ⟨V, 2, none⟩ = some (.int .u32 v.vw) := by rw [cell_of_row _ _ _ _ _ _ g1]; rfl
      have qv3 : wr.cell? ⟨V, 3, none⟩ = some (.int .u32 v.lo) := by rw [cell_of_row _ _ _ _ _ _ g1]; rfl
      have LV := Lib.hid (fun w' (h : w'.heap[V]? = some (.cells v.cells.toArray 32 (0, 0))) => vt_load (w' := w') (b := V) (o := 0) (x := v) (fun i u hu => by rw [cell_of_row _ _ _ _ _ _ h]; simpa using hu))
      have HVU := Lib.hid ((hbu.block V (lt_of_block g1)).trans g1)
      have HG1 := Lib.hid g1
      have HU := Lib.hid hU
      have HTH := Lib.hid hth
      have HBX := Lib.hid hbx
      have HBU := Lib.hid (g4.trans (hbu.mono g4.size))
      generalize encM (vm v) { Mc.nil with vt := vcT 0 l } = el at CE hel
      generalize hln : el.length = ln at CE hel
      have HLN := Lib.hid hln
      have HEL := Lib.hid hel
      clear g1 g2 g3 g4 g5 hlj hrow hvat hvb him hT hU hbx hbu hth hmat hmok hel hln hv hvf hob qv0 qv1 qv2 qv3 HL
      go_upto_region 19 with fail
      refine wp_region_lit ?_
      refine wpl_valg (v := .agg v.cells.toArray) (w1 := wr) rfl (exec_load 32 (.tmp 5) rfl rfl (LV.out wr HG1.out)) _ rfl ?_
      refine wpl_val (v := .agg (vm v).cells.toArray) (w1 := wr) rfl (by simp only [vm, hm, Mg.cells, Rq.zero, Vt.cells]; go_simp) _ rfl ?_
      refine wpl_val (v := .pointer (some ⟨wr.heap.size, 0, none⟩)) (w1 := wr.alloc (.cells Vz.toArray 37)) rfl (by simp only [Vz]; go_simp) _ rfl ?_
      refine wpList_store_mid rfl 37 (.tmp 10) (.tmp 88) rfl wr.heap.size 0 (vm v).cells.toArray rfl rfl HTH.out size37 (all_oneCell_toArray (Mg.one _)) ?_
      dsimp only
      rw [← HU.out]
      clear HTH HU
      generalize hM : wr.heap.size = M at *
      generalize hA : (vm v).cells.toArray = A at *
      have HSZ := Lib.hid (show A.size = 25 by rw [← hA]; rfl)
      generalize hva : v.cells.toArray = va at *
      clear hA hva
      go_upto_region 20 with fail
      refine wp_region_lit ?_
      refine wpList_load_row rfl 37 (.tmp 10) rfl M rfl 37 _ (0, 0) _ HBX.out Tryd.underlying37 rfl (by rw [HSZ.out]; exact size37) ?_
      go_wp2_with fail
      refine Calls.mono CE.out ?_
      rintro e' w7 ⟨hres, hb7⟩
      have HV7 := Lib.hid ((hb7.block V (lt_of_block HVU.out)).trans HVU.out)
      have B7 := Lib.hid hb7
      clear hb7 CE
      rcases hres with ⟨rfl, rfl⟩ | ⟨rfl, aoe, ke, rfl, hnew⟩
      · go_upto_region 21 with fail
        refine wp_region_lit ?_
        refine wpl_valg (v := .agg va) (w1 := w7) rfl (exec_load 32 (.tmp 5) rfl rfl (LV.out w7 HV7.out)) _ rfl ?_
        go_wp2_with fail
        refine Calls.mono (CV.out _ B7.out) ?_
        rintro e' w8 ⟨rfl, hb8⟩
        have B8 := Lib.hid (HBU.out.trans ((Below.up B7.out hb8).mono HBU.out.size))
        clear hb8
        go_wp2_with fail
        go_ret
        exact ⟨rfl, B8.out⟩
      · have hl8 : (ln : Int) ≤ 8000 := by have := HEL.out rfl; omega
        clear hnew
        go_upto_region 21 with fail
        refine wp_region_lit ?_
        refine wpl_valg (v := .agg va) (w1 := w7) rfl (exec_load 32 (.tmp 5) rfl rfl (LV.out w7 HV7.out)) _ rfl ?_
        go_wp2_with fail
        refine Calls.mono (CV.out _ B7.out) ?_
        rintro e' w8 ⟨rfl, hb8⟩
        have B8 := Lib.hid (HBU.out.trans ((Below.up B7.out hb8).mono HBU.out.size))
        clear hb8
        go_wp2_with fail
        go_ret
        exact ⟨rfl, B8.out⟩

/-- what stands when j places are laid -/
def Lay1 (w wr : World) (V : Nat) (l : List Int) (j : Nat) : Prop :=
  ∃ ao2 cap2, wr.heap[V]? = some (.cells (vv ⟨none, 0, 0⟩ ⟨ao2, j, cap2⟩ ⟨none, 0, 0⟩).cells.toArray 32 (0, 0)) ∧ wr.ownsRow 0 49 7 (.slice ao2 j cap2) j (((l.take j).map vEn).flatMap En.cells) ∧ (∀ g, (Value.slice ao2 j cap2).ownBlock = some g → V < g) ∧ Below w.heap.size w wr ∧ w.heap.size ≤ V
theorem Lay1.cut {w wr wx : World} {V : Nat} {l : List Int} {j : Nat} (h : Lay1 w wr V l j) (hb : Below wr.heap.size wr wx) : Lay1 w wx V l j := by
  obtain ⟨ao2, cap2, h1, h2, h3, h4, h5⟩ := h
  exact ⟨ao2, cap2, (hb.block V (lt_of_block h1)).trans h1, ownR_kept h2 (Kept.ofBelow (S := fun _ => False) hb) (fun _ _ h => h), h3, h4.trans (hb.mono h4.size), h5⟩

set_option maxHeartbeats 8000000 in
theorem votes1 (w : World) (ao : Option Addr) (cap : Nat) (l : List Int) (hby : Bytes w ao l) (hby2 : ∀ x ∈ l, isByte x) (wh : Int) (hwh : wh % 3 = 1) (hw0 : 0 ≤ wh) (ht : Tab w) (h50 : l.length ≤ 50) :
    Calls Tryd.prog 4 #[.slice ao l.length cap, .int .u8 wh] w fun e w' => e = .returned (.bool true) ∧ Below w.heap.size w w' := by
  have CK := Lib.hid (known_any w ht)
  have HT := Lib.hid ht
  have HBY := Lib.hid hby
  have HB2 := Lib.hid hby2
  have HOK := Lib.hid (fun a b c => show voteB (vv a b c) (vcT 1 l) = okTo l false l.length by have := vv_vote 1 l hby2 a b c; simpa using this)
  clear ht hby hby2
  obtain ⟨i0, hi, hz0, hz1, hz2⟩ := info_parts info49
  have HINFO := Lib.hid (And.intro hi (And.intro hz0 (And.intro hz1 hz2)))
  clear hi hz0 hz1 hz2
  generalize hn : l.length = n at *
  have HN := Lib.hid hn
  have h50' : ¬ (n : Int) > 50 := by omega
  clear hn
  go_enter Tryd.func4, Tryd.ntmps4
  go_wp2_with fail
  refine Calls.mono CK.out ?_
  rintro e' w1 ⟨rfl, hb1⟩
  have B1 := Lib.hid hb1
  clear hb1 CK
  go_upto_region 6 with fail
  obtain ⟨wv, hwv⟩ : ∃ x, x = w1.alloc (.cells (vv ⟨none, 0, 0⟩ ⟨none, 0, 0⟩ ⟨none, 0, 0⟩).cells.toArray 32) := ⟨_, rfl⟩
  have hlay : Lay1 w wv w1.heap.size l 0 := ⟨none, 0, by rw [hwv]; exact heap_alloc_new _ _, ⟨by simp, .inl ⟨rfl, rfl⟩⟩, (fun g e => by simp [Value.ownBlock] at e), by rw [hwv]; exact B1.out.alloc B1.out.size _, B1.out.size⟩
  have HLAY := Lib.hid hlay
  simp only [vv, Vt.cells] at hwv
  rw [← hwv]
  clear hlay hwv
  generalize hV : w1.heap.size = V at *
  have hok0 : okTo l false 0 = decide ((n : Int) ≤ 40) := by
    simp only [okTo, HN.out]
    by_cases h40 : n ≤ 40
    · rw [decide_eq_true h40, decide_eq_true (by omega)]
    · rw [decide_eq_false h40, decide_eq_false (by omega)]
  have HOK0 := Lib.hid hok0
  clear hok0
  go_wp2_with fail
  go_loopw [6, 7] (fun v6 v7 wr => ∃ j : Nat, j ≤ n ∧ v7 = .int .i64 j ∧ v6 = .bool (okTo l false j) ∧ Hid (Lay1 w wr V l j)) (fun _ i _ => n - (intOf i).toNat)
  case atStart => exact ⟨0, by omega, rfl, by rw [HOK0.out], HLAY⟩
  case round =>
    obtain ⟨j, hj, rfl, rfl, HL⟩ := hrel
    by_cases hlt : j < n
    · have hbw : Bytes wr ao l := by
        obtain ⟨_, _, _, _, _, hb, _⟩ := HL.out
        exact bytes_below HBY.out hb (Nat.le_refl _)
      obtain ⟨ad, rfl, hc⟩ := hbw j (by rw [HN.out]; exact hlt)
      obtain ⟨x, hxd⟩ : ∃ x, x = l.getD j 0 := ⟨_, rfl⟩
      have hxm : isByte x := by
        rw [hxd, List.getD_eq_getElem?_getD, List.getElem?_eq_getElem (by rw [HN.out]; exact hlt)]
        exact HB2.out _ (List.getElem_mem _)
      rw [← hxd] at hc
      obtain ⟨x0, x1⟩ := hxm
      have HXD := Lib.hid hxd
      have HBW := Lib.hid hbw
      obtain ⟨ob, hob⟩ : ∃ b, b = okTo l false j := ⟨_, rfl⟩
      have hst : okTo l false (j + 1) = (ob && ((decide (j = 0) || decide (l.getD (j - 1) 0 < x)) && (decide (0 < x) || false))) := by rw [okTo, ← hob, upS, ← hxd]
      obtain ⟨on, hon⟩ : ∃ b, b = okTo l false (j + 1) := ⟨_, rfl⟩
      rw [← hon] at hst
      have HST := Lib.hid hst
      have HON := Lib.hid hon
      rw [← hob]
      clear hxd hbw hob hst hon
      go_upto_region 11 with fail
      go_cut [6] from 22 to 86 (fun s6 wx => s6 = .bool on ∧ ∃ q, wx = wr.drewN q)
      case first =>
        have d3 : (wh % 3 == 0) = false := by rw [hwh]; rfl
        cases ob
        · go_quiet (fail)
          go_wp2_with fail
          go_meet
          exact ⟨by rw [HST.out]; rfl, _, rfl⟩
        · have hj3 : j = 0 ∨ j = 1 ∨ 2 ≤ j := by omega
          rcases hj3 with h0 | h1 | h2
          · subst h0
            by_cases hx0 : x > 0
            · have HX0 := Lib.hid hx0
              go_quiet (fail)
              go_wp2_with fail
              go_meet
              exact ⟨by rw [HST.out, decide_eq_true HX0.out]; simp, _, rfl⟩
            · have HX0 := Lib.hid (show decide (0 < x) = false from decide_eq_false hx0)
              go_quiet (fail)
              go_wp2_with fail
              go_meet
              exact ⟨by rw [HST.out, HX0.out]; simp, _, rfl⟩
          · subst h1
            obtain ⟨ad2, e2, hcy⟩ := HBW.out (0) (by rw [HN.out]; omega)
            injection e2 with e2
            subst e2
            obtain ⟨y, hyd⟩ : ∃ y, y = l.getD (0) 0 := ⟨_, rfl⟩
            rw [← hyd] at hcy
            have hst2 := HST.out
            have e3 : 1 - 1 = 0 := by omega
            rw [e3, ← hyd] at hst2
            have HST2 := Lib.hid hst2
            rw [add_zero] at hcy
            have hc1 : wr.cell? ⟨ad.block, ad.off + 1, none⟩ = some (.int .u8 x) := hc
            clear hst2 e3 hyd
            by_cases hxy : y < x
            · have HXY := Lib.hid hxy
              by_cases hx0 : x > 0
              · have HX0 := Lib.hid hx0
                go_quiet (fail)
                go_wp2_with fail
                go_meet
                exact ⟨by rw [HST2.out, decide_eq_true HX0.out, decide_eq_true HXY.out]; simp, _, rfl⟩
              · have HX0 := Lib.hid (show decide (0 < x) = false from decide_eq_false hx0)
                go_quiet (fail)
                go_wp2_with fail
                go_meet
                exact ⟨by rw [HST2.out, HX0.out, decide_eq_true HXY.out]; simp, _, rfl⟩
            · have HXY := Lib.hid (show decide (y < x) = false from decide_eq_false hxy)
              go_quiet (fail)
              go_wp2_with fail
              go_meet
              exact ⟨by rw [HST2.out, HXY.out]; simp, _, rfl⟩
          · obtain ⟨i, rfl⟩ : ∃ i, j = i + 2 := ⟨j - 2, by omega⟩
            obtain ⟨ad2, e2, hcy⟩ := HBW.out (i + 1) (by rw [HN.out]; omega)
            injection e2 with e2
            subst e2
            obtain ⟨y, hyd⟩ : ∃ y, y = l.getD (i + 1) 0 := ⟨_, rfl⟩
            rw [← hyd] at hcy
            have hst2 := HST.out
            have e3 : i + 2 - 1 = i + 1 := by omega
            rw [e3, ← hyd] at hst2
            have HST2 := Lib.hid hst2
            have hcy2 : wr.cell? ⟨ad.block, ad.off + (i + 1), none⟩ = some (.int .u8 y) := hcy
            have hc2 : wr.cell? ⟨ad.block, ad.off + (i + 2), none⟩ = some (.int .u8 x) := hc
            have hin : (i : Int) + 1 < (n : Int) := by omega
            have hwr : IntKind.i64.wrap ((i : Int) + 1) = (i : Int) + 1 := by simp [IntKind.wrap, IntKind.signed, IntKind.bits]; omega
            have d0 : ((i : Int) + 2 == 0) = false := by simp; omega
            clear hst2 e3 hyd
            by_cases hxy : y < x
            · have HXY := Lib.hid hxy
              by_cases hx0 : x > 0
              · have HX0 := Lib.hid hx0
                go_quiet (fail)
                go_wp2_with fail
                go_meet
                exact ⟨by rw [HST2.out, decide_eq_true HX0.out, decide_eq_true HXY.out]; simp, _, rfl⟩
              · have HX0 := Lib.hid (show decide (0 < x) = false from decide_eq_false hx0)
                go_quiet (fail)
                go_wp2_with fail
                go_meet
                exact ⟨by rw [HST2.out, HX0.out, decide_eq_true HXY.out]; simp, _, rfl⟩
            · have HXY := Lib.hid (show decide (y < x) = false from decide_eq_false hxy)
              go_quiet (fail)
              go_wp2_with fail
              go_meet
              exact ⟨by rw [HST2.out, HXY.out]; simp, _, rfl⟩
      case rest =>
        obtain ⟨rfl, q, rfl⟩ := hcut
        have L1 := Lib.hid (HL.out.cut (bel_drewN (Below.refl wr.heap.size wr) q))
        have HXG := Lib.hid (show l[j]? = some x by rw [HXD.out, List.getD_eq_getElem?_getD, List.getElem?_eq_getElem (by rw [HN.out]; exact hlt)]; rfl)
        clear HL
        generalize hwq : wr.drewN q = wq at *
        clear hwq
        go_wp2_with fail
        refine Calls.mono (put_gen 1 1 2 3 wq) ?_
        rintro e' w2 ⟨rfl, hb2⟩
        simp only [Rq.cells]
        obtain ⟨w3, hw3⟩ : ∃ w3, w3 = w2.alloc (.cells (vEn x).cells.toArray 49) := ⟨_, rfl⟩
        have hb3 : Below w2.heap.size w2 w3 := by rw [hw3]; exact (Below.refl _ _).alloc (Nat.le_refl _) _
        have hE : w3.heap[w2.heap.size]? = some (.cells (vEn x).cells.toArray 49 (0, 0)) := by rw [hw3]; exact heap_alloc_new _ _
        obtain ⟨ao2, cap2, g1, g2, g3, g4, g5⟩ := (L1.out.cut hb2).cut hb3
        have hVne : ∀ g, (Value.slice ao2 j cap2).ownBlock = some g → g ≠ V := fun g e h => by have := g3 g e; omega
        have qv : w3.cell? ⟨V, 5, none⟩ = some (.slice ao2 j cap2) := by rw [cell_of_row _ _ _ _ _ _ g1]; rfl
        have y0 : w3.cell? ⟨w2.heap.size, 0, none⟩ = some (.int .u32 x) := by rw [cell_of_row _ _ _ _ _ _ hE]; rfl
        have y1 : w3.cell? ⟨w2.heap.size, 1, none⟩ = some (.int .u32 0) := by rw [cell_of_row _ _ _ _ _ _ hE]; rfl
        have y2 : w3.cell? ⟨w2.heap.size, 2, none⟩ = some (.int .u8 1) := by rw [cell_of_row _ _ _ _ _ _ hE]; rfl
        have y3 : w3.cell? ⟨w2.heap.size, 3, none⟩ = some (.int .u32 1) := by rw [cell_of_row _ _ _ _ _ _ hE]; rfl
        have y4 : w3.cell? ⟨w2.heap.size, 4, none⟩ = some (.int .u8 1) := by rw [cell_of_row _ _ _ _ _ _ hE]; rfl
        have y5 : w3.cell? ⟨w2.heap.size, 5, none⟩ = some (.int .u8 2) := by rw [cell_of_row _ _ _ _ _ _ hE]; rfl
        have y6 : w3.cell? ⟨w2.heap.size, 6, none⟩ = some (.int .u16 3) := by rw [cell_of_row _ _ _ _ _ _ hE]; rfl
        obtain ⟨w4, hw4⟩ : ∃ w4, w4 = w3.alloc (.cells (vEn x).cells.toArray 49) := ⟨_, rfl⟩
        have hb4 : Below w3.heap.size w3 w4 := by rw [hw4]; exact (Below.refl _ _).alloc (Nat.le_refl _) _
        have O4 := Lib.hid (ownR_kept g2 (Kept.ofBelow (S := fun _ => False) hb4) (fun _ _ h => h))
        have NW := Lib.hid (show ∀ jj u, (vEn x).cells[jj]? = some u → w4.cell? ((⟨w3.heap.size, 0, none⟩ : Addr).add jj) = some u by rw [hw4]; exact news_at w3 _ _)
        have HV4 := Lib.hid ((hb4.block V (lt_of_block g1)).trans g1)
        have HB4 := Lib.hid (g4.trans (hb4.mono g4.size))
        have HG3 := Lib.hid g3
        have HVNE := Lib.hid hVne
        have HV0 := Lib.hid g5
        simp only [vEn, vr, En.cells] at hw3 hw4
        have HW4 := Lib.hid hw4
        have HW3 := Lib.hid hw3
        obtain ⟨hi, hz0, hz1, hz2⟩ := HINFO.out
        clear hb2 hb3 hE g1 g2 g3 g4 g5 hVne hb4 hw3 hw4 L1
        go_upto_region 18 with fail
        rw [← HW3.out]
        go_wp2_with (first | (at_builtin
                              rw [← HW4.out]
                              refine wpList_append_own_at _ rfl _ _ 30 rfl 0 49 i0 _ 7 20 Tryd.underlying30 hi hz0 hz1 hz2 rfl (by decide) (.slice ao2 j cap2) j _ rfl O4.out ⟨w3.heap.size, 0, none⟩ 1 1 (vEn x).cells rfl rfl NW.out (by intro u hu; simp [vEn, vr, En.cells] at hu; (repeat' (rcases hu with rfl | hu)); all_goals first | rfl | (subst hu; rfl)) (by unfold maxLen; omega) (by omega) (Nat.zero_le _) ?_
                              intro v5 w5 ho5 hg5 hn5 hl5
                              obtain ⟨ao5, cap5, rfl⟩ := ownR_form ho5
                              have HO5 := Lib.hid ho5
                              have HG5 := Lib.hid hg5
                              have HL5 := Lib.hid hl5
                              clear ho5 hg5 hn5 hl5
                              refine Hid.out ?_) | go_in)
        refine Lib.hid ?_
        have hk5 := Kept.ofGrown HG5.out
        have hV5 : w5.heap[V]? = some (.cells (vv ⟨none, 0, 0⟩ ⟨ao2, j, cap2⟩ ⟨none, 0, 0⟩).cells.toArray 32 (0, 0)) := by
          rw [hk5.block V (lt_of_block HV4.out) (fun e => HVNE.out V e.symm rfl)]; exact HV4.out
        have qv5 : w5.cell? ⟨V, 5, none⟩ = some (.slice ao2 j cap2) := by rw [cell_of_row _ _ _ _ _ _ hV5]; rfl
        have zv5 : w5.frozen? ⟨V, 5, none⟩ = false := frozen_of_row _ _ _ _ _ hV5
        have hown5 : ∀ g, (Value.slice ao5 (j + 1) cap5).ownBlock = some g → V < g := fun g e => by
          rcases HL5.out with e' | e'
          · exact HG3.out g (e'.symm.trans e)
          · rw [e'] at e; injection e with e; have := lt_of_block HV4.out; omega
        have hbel5 : Below w.heap.size w w5 := HB4.out.trans (hk5.below (B := w.heap.size) HB4.out.size (fun g e => by have h7 := HG3.out g e.symm; have h8 := HV0.out; omega))
        have hlay : Lay1 w (w5.setCell ⟨V, 5, none⟩ (.slice ao5 (j + 1) cap5)) V l (j + 1) := by
          refine ⟨ao5, cap5, heap_setCell_same _ _ _ _ _ _ hV5, ?_, hown5, hbel5.setCell HV0.out _, HV0.out⟩
          rw [flat_step vEn En.cells HXG.out]
          exact ownR_kept HO5.out ((Kept.refl (fun b => b = V) w5).setCell ⟨V, 5, none⟩ _ (fun _ => rfl)) (fun g e h => by have := hown5 g e; omega)
        have HLAY2 := Lib.hid hlay
        clear hk5 hV5 hown5 hbel5 hlay
        go_wp2_with fail
        go_round
        case measure => simp [intOf]; omega
        case rel => exact ⟨j + 1, by omega, by go_num, by rw [HON.out], HLAY2⟩
    · obtain rfl : j = n := by omega
      have hfin := HL.out
      obtain ⟨ao2, cap2, g1, g2, g3, g4, g5⟩ := hfin
      have hlj : l.take j = l := List.take_of_length_le (by rw [HN.out]; exact Nat.le_refl _)
      rw [hlj] at g2
      have hrow : Row wr 7 En.cells (.slice ao2 j cap2) (l.map vEn) := row_of_own (fun x _ => by rfl) g2 (by rw [List.length_map, HN.out]) (by omega)
      obtain ⟨v, hv⟩ : ∃ v, v = vv ⟨none, 0, 0⟩ ⟨ao2, j, cap2⟩ ⟨none, 0, 0⟩ := ⟨_, rfl⟩
      have hvat : VtAt wr v (vcT 1 l) := by rw [hv]; exact ⟨Row.nil _ _ _, hrow, Row.nil _ _ _⟩
      have hvb : voteB v (vcT 1 l) = okTo l false j := by rw [hv]; exact HOK.out _ _ _
      have him : isM (vm v) { Mc.nil with vt := vcT 1 l } = okTo l false j := by rw [← hvb, hv]; exact vm_is _ _ _ _
      rw [← hv] at g1
      have hvf := hv
      obtain ⟨ob, hob⟩ : ∃ b, b = okTo l false j := ⟨_, rfl⟩
      rw [← hob] at hvb him ⊢
      have hT := Tab.on HT.out g4
      obtain ⟨U, hU⟩ : ∃ U, U = (wr.alloc (.cells Vz.toArray 37)).setCells wr.heap.size 0 (vm v).cells := ⟨_, rfl⟩
      obtain ⟨hbx, hbu, hth⟩ := msg_new wr _ hU
      have hmat : MgAt U (vm v) { Mc.nil with vt := vcT 1 l } := ⟨hvat.below hbu, ⟨Row.nil _ _ _, fun x hx => by cases hx⟩, Row.nil _ _ _, ⟨rfl, (fun i hi => by simp [Mc.nil] at hi), fun _ => rfl, Nat.le_refl _, by simp [Mc.nil], fun x hx => by simp [Mc.nil] at hx⟩⟩
      have hmok : McOk { Mc.nil with vt := vcT 1 l } := ⟨vcT_ok 1 l, fun x hx => by cases hx⟩
      have CE := Lib.hid (enc_ok U (vm v) _ hmat hmok (Tab.on hT hbu))
      have CV := Lib.hid (fun w' (h : Below U.heap.size U w') => isVote_any w' v (vcT 1 l) ((hvat.below hbu).below h) (vcT_ok 1 l) (Tab.on (Tab.on hT hbu) h))
      have hel : isM (vm v) { Mc.nil with vt := vcT 1 l } = true → (encM (vm v) { Mc.nil with vt := vcT 1 l }).length ≤ 8000 := fun h => encM_len hmat h
      rw [him] at CE hel
      rw [hvb] at CV
      have qv0 : wr.cell? ⟨V, 0, none⟩ = some (.int .u8 v.f) := by rw [cell_of_row _ _ _ _ _ _ g1]; rfl
      have qv1 : wr.cell? ⟨V, 1, none⟩ = some (.int .u8 v.e) := by rw [cell_of_row _ _ _ _ _ _ g1]; rfl
      have qv2 : wr.cell? ⟨V, 2, none⟩ = some (.int .u32 v.vw) := by rw [cell_of_row _ _ _ _ _ _ g1]; rfl
      have qv3 : wr.cell? ⟨V, 3, none⟩ = some (.int .u32 v.lo) := by rw [cell_of_row _ _ _ _ _ _ g1]; rfl
      have LV := Lib.hid (fun w' (h : w'.heap[V]? = some (.cells v.cells.toArray 32 (0, 0))) => vt_load (w' := w') (b := V) (o := 0) (x := v) (fun i u hu => by rw [cell_of_row _ _ _ _ _ _ h]; simpa using hu))
      have HVU := Lib.hid ((hbu.block V (lt_of_block g1)).trans g1)
      have HG1 := Lib.hid g1
      have HU := Lib.hid hU
      have HTH := Lib.hid hth
      have HBX := Lib.hid hbx
      have HBU := Lib.hid (g4.trans (hbu.mono g4.size))
      generalize encM (vm v) { Mc.nil with vt := vcT 1 l } = el at CE hel
      generalize hln : el.length = ln at CE hel
      have HLN := Lib.hid hln
      have HEL := Lib.hid hel
      clear g1 g2 g3 g4 g5 hlj hrow hvat hvb him hT hU hbx hbu hth hmat hmok hel hln hv hvf hob qv0 qv1 qv2 qv3 HL
      go_upto_region 19 with fail
      refine wp_region_lit ?_
      refine wpl_valg (v := .agg v.cells.toArray) (w1 := wr) rfl (exec_load 32 (.tmp 5) rfl rfl (LV.out wr HG1.out)) _ rfl ?_
      refine wpl_val (v := .agg (vm v).cells.toArray) (w1 := wr) rfl (by simp only [vm, hm, Mg.cells, Rq.zero, Vt.cells]; go_simp) _ rfl ?_
      refine wpl_val (v := .pointer (some ⟨wr.heap.size, 0, none⟩)) (w1 := wr.alloc (.cells Vz.toArray 37)) rfl (by simp only [Vz]; go_simp) _ rfl ?_
      refine wpList_store_mid rfl 37 (.tmp 10) (.tmp 88) rfl wr.heap.size 0 (vm v).cells.toArray rfl rfl HTH.out size37 (all_oneCell_toArray (Mg.one _)) ?_
      dsimp only
      rw [← HU.out]
      clear HTH HU
      generalize hM : wr.heap.size = M at *
      generalize hA : (vm v).cells.toArray = A at *
      have HSZ := Lib.hid (show A.size = 25 by rw [← hA]; rfl)
      generalize hva : v.cells.toArray = va at *
      clear hA hva
      go_upto_region 20 with fail
      refine wp_region_lit ?_
      refine wpList_load_row rfl 37 (.tmp 10) rfl M rfl 37 _ (0, 0) _ HBX.out Tryd.underlying37 rfl (by rw [HSZ.out]; exact size37) ?_
      go_wp2_with fail
      refine Calls.mono CE.out ?_
      rintro e' w7 ⟨hres, hb7⟩
      have HV7 := Lib.hid ((hb7.block V (lt_of_block HVU.out)).trans HVU.out)
      have B7 := Lib.hid hb7
      clear hb7 CE
      rcases hres with ⟨rfl, rfl⟩ | ⟨rfl, aoe, ke, rfl, hnew⟩
      · go_upto_region 21 with fail
        refine wp_region_lit ?_
        refine wpl_valg (v := .agg va) (w1 := w7) rfl (exec_load 32 (.tmp 5) rfl rfl (LV.out w7 HV7.out)) _ rfl ?_
        go_wp2_with fail
        refine Calls.mono (CV.out _ B7.out) ?_
        rintro e' w8 ⟨rfl, hb8⟩
        have B8 := Lib.hid (HBU.out.trans ((Below.up B7.out hb8).mono HBU.out.size))
        clear hb8
        go_wp2_with fail
        go_ret
        exact ⟨rfl, B8.out⟩
      · have hl8 : (ln : Int) ≤ 8000 := by have := HEL.out rfl; omega
        clear hnew
        go_upto_region 21 with fail
        refine wp_region_lit ?_
        refine wpl_valg (v := .agg va) (w1 := w7) rfl (exec_load 32 (.tmp 5) rfl rfl (LV.out w7 HV7.out)) _ rfl ?_
        go_wp2_with fail
        refine Calls.mono (CV.out _ B7.out) ?_
        rintro e' w8 ⟨rfl, hb8⟩
        have B8 := Lib.hid (HBU.out.trans ((Below.up B7.out hb8).mono HBU.out.size))
        clear hb8
        go_wp2_with fail
        go_ret
        exact ⟨rfl, B8.out⟩

/-- what stands when j places are laid -/
def Lay2 (w wr : World) (V : Nat) (l : List Int) (j : Nat) : Prop :=
  ∃ ao2 cap2, wr.heap[V]? = some (.cells (vv ⟨none, 0, 0⟩ ⟨none, 0, 0⟩ ⟨ao2, j, cap2⟩).cells.toArray 32 (0, 0)) ∧ wr.ownsRow 0 49 7 (.slice ao2 j cap2) j (((l.take j).map vEn).flatMap En.cells) ∧ (∀ g, (Value.slice ao2 j cap2).ownBlock = some g → V < g) ∧ Below w.heap.size w wr ∧ w.heap.size ≤ V
theorem Lay2.cut {w wr wx : World} {V : Nat} {l : List Int} {j : Nat} (h : Lay2 w wr V l j) (hb : Below wr.heap.size wr wx) : Lay2 w wx V l j := by
  obtain ⟨ao2, cap2, h1, h2, h3, h4, h5⟩ := h
  exact ⟨ao2, cap2, (hb.block V (lt_of_block h1)).trans h1, ownR_kept h2 (Kept.ofBelow (S := fun _ => False) hb) (fun _ _ h => h), h3, h4.trans (hb.mono h4.size), h5⟩

set_option maxHeartbeats 8000000 in
theorem votes2 (w : World) (ao : Option Addr) (cap : Nat) (l : List Int) (hby : Bytes w ao l) (hby2 : ∀ x ∈ l, isByte x) (wh : Int) (hwh : wh % 3 = 2) (hw0 : 0 ≤ wh) (ht : Tab w) (h50 : l.length ≤ 50) :
    Calls Tryd.prog 4 #[.slice ao l.length cap, .int .u8 wh] w fun e w' => e = .returned (.bool true) ∧ Below w.heap.size w w' := by
  have CK := Lib.hid (known_any w ht)
  have HT := Lib.hid ht
  have HBY := Lib.hid hby
  have HB2 := Lib.hid hby2
  have HOK := Lib.hid (fun a b c => show voteB (vv a b c) (vcT 2 l) = okTo l false l.length by have := vv_vote 2 l hby2 a b c; simpa using this)
  clear ht hby hby2
  obtain ⟨i0, hi, hz0, hz1, hz2⟩ := info_parts info49
  have HINFO := Lib.hid (And.intro hi (And.intro hz0 (And.intro hz1 hz2)))
  clear hi hz0 hz1 hz2
  generalize hn : l.length = n at *
  have HN := Lib.hid hn
  have h50' : ¬ (n : Int) > 50 := by omega
  clear hn
  go_enter Tryd.func4, Tryd.ntmps4
  go_wp2_with fail
  refine Calls.mono CK.out ?_
  rintro e' w1 ⟨rfl, hb1⟩
  have B1 := Lib.hid hb1
  clear hb1 CK
  go_upto_region 6 with fail
  obtain ⟨wv, hwv⟩ : ∃ x, x = w1.alloc (.cells (vv ⟨none, 0, 0⟩ ⟨none, 0, 0⟩ ⟨none, 0, 0⟩).cells.toArray 32) := ⟨_, rfl⟩
  have hlay : Lay2 w wv w1.heap.size l 0 := ⟨none, 0, by rw [hwv]; exact heap_alloc_new _ _, ⟨by simp, .inl ⟨rfl, rfl⟩⟩, (fun g e => by simp [Value.ownBlock] at e), by rw [hwv]; exact B1.out.alloc B1.out.size _, B1.out.size⟩
  have HLAY := Lib.hid hlay
  simp only [vv, Vt.cells] at hwv
  rw [← hwv]
  clear hlay hwv
  generalize hV : w1.heap.size = V at *
  have hok0 : okTo l false 0 = decide ((n : Int) ≤ 40) := by
    simp only [okTo, HN.out]
    by_cases h40 : n ≤ 40
    · rw [decide_eq_true h40, decide_eq_true (by omega)]
    · rw [decide_eq_false h40, decide_eq_false (by omega)]
  have HOK0 := Lib.hid hok0
  clear hok0
  go_wp2_with fail
  go_loopw [6, 7] (fun v6 v7 wr => ∃ j : Nat, j ≤ n ∧ v7 = .int .i64 j ∧ v6 = .bool (okTo l false j) ∧ Hid (Lay2 w wr V l j)) (fun _ i _ => n - (intOf i).toNat)
  case atStart => exact ⟨0, by omega, rfl, by rw [HOK0.out], HLAY⟩
  case round =>
    obtain ⟨j, hj, rfl, rfl, HL⟩ := hrel
    by_cases hlt : j < n
    · have hbw : Bytes wr ao l := by
        obtain ⟨_, _, _, _, _, hb, _⟩ := HL.out
        exact bytes_below HBY.out hb (Nat.le_refl _)
      obtain ⟨ad, rfl, hc⟩ := hbw j (by rw [HN.out]; exact hlt)
      obtain ⟨x, hxd⟩ : ∃ x, x = l.getD j 0 := ⟨_, rfl⟩
      have hxm : isByte x := by
        rw [hxd, List.getD_eq_getElem?_getD, List.getElem?_eq_getElem (by rw [HN.out]; exact hlt)]
        exact HB2.out _ (List.getElem_mem _)
      rw [← hxd] at hc
      obtain ⟨x0, x1⟩ := hxm
      have HXD := Lib.hid hxd
      have HBW := Lib.hid hbw
      obtain ⟨ob, hob⟩ : ∃ b, b = okTo l false j := ⟨_, rfl⟩
      have hst : okTo l false (j + 1) = (ob && ((decide (j = 0) || decide (l.getD (j - 1) 0 < x)) && (decide (0 < x) || false))) := by rw [okTo, ← hob, upS, ← hxd]
      obtain ⟨on, hon⟩ : ∃ b, b = okTo l false (j + 1) := ⟨_, rfl⟩
      rw [← hon] at hst
      have HST := Lib.hid hst
      have HON := Lib.hid hon
      rw [← hob]
      clear hxd hbw hob hst hon
      go_upto_region 11 with fail
      go_cut [6] from 22 to 86 (fun s6 wx => s6 = .bool on ∧ ∃ q, wx = wr.drewN q)
      case first =>
        have d3 : (wh % 3 == 0) = false := by rw [hwh]; rfl
        cases ob
        · go_quiet (fail)
          go_wp2_with fail
          go_meet
          exact ⟨by rw [HST.out]; rfl, _, rfl⟩
        · have hj3 : j = 0 ∨ j = 1 ∨ 2 ≤ j := by omega
          rcases hj3 with h0 | h1 | h2
          · subst h0
            by_cases hx0 : x > 0
            · have HX0 := Lib.hid hx0
              go_quiet (fail)
              go_wp2_with fail
              go_meet
              exact ⟨by rw [HST.out, decide_eq_true HX0.out]; simp, _, rfl⟩
            · have HX0 := Lib.hid (show decide (0 < x) = false from decide_eq_false hx0)
              go_quiet (fail)
              go_wp2_with fail
              go_meet
              exact ⟨by rw [HST.out, HX0.out]; simp, _, rfl⟩
          · subst h1
            obtain ⟨ad2, e2, hcy⟩ := HBW.out (0) (by rw [HN.out]; omega)
            injection e2 with e2
            subst e2
            obtain ⟨y, hyd⟩ : ∃ y, y = l.getD (0) 0 := ⟨_, rfl⟩
            rw [← hyd] at hcy
            have hst2 := HST.out
            have e3 : 1 - 1 = 0 := by omega
            rw [e3, ← hyd] at hst2
            have HST2 := Lib.hid hst2
            rw [add_zero] at hcy
            have hc1 : wr.cell? ⟨ad.block, ad.off + 1, none⟩ = some (.int .u8 x) := hc
            clear hst2 e3 hyd
            by_cases hxy : y < x
            · have HXY := Lib.hid hxy
              by_cases hx0 : x > 0
              · have HX0 := Lib.hid hx0
                go_quiet (fail)
                go_wp2_with fail
                go_meet
                exact ⟨by rw [HST2.out, decide_eq_true HX0.out, decide_eq_true HXY.out]; simp, _, rfl⟩
              · have HX0 := Lib.hid (show decide (0 < x) = false from decide_eq_false hx0)
                go_quiet (fail)
                go_wp2_with fail
                go_meet
                exact ⟨by rw [HST2.out, HX0.out, decide_eq_true HXY.out]; simp, _, rfl⟩
            · have HXY := Lib.hid (show decide (y < x) = false from decide_eq_false hxy)
              go_quiet (fail)
              go_wp2_with fail
              go_meet
              exact ⟨by rw [HST2.out, HXY.out]; simp, _, rfl⟩
          · obtain ⟨i, rfl⟩ : ∃ i, j = i + 2 := ⟨j - 2, by omega⟩
            obtain ⟨ad2, e2, hcy⟩ := HBW.out (i + 1) (by rw [HN.out]; omega)
            injection e2 with e2
            subst e2
            obtain ⟨y, hyd⟩ : ∃ y, y = l.getD (i + 1) 0 := ⟨_, rfl⟩
            rw [← hyd] at hcy
            have hst2 := HST.out
            have e3 : i + 2 - 1 = i + 1 := by omega
            rw [e3, ← hyd] at hst2
            have HST2 := Lib.hid hst2
            have hcy2 : wr.cell? ⟨ad.block, ad.off + (i + 1), none⟩ = some (.int .u8 y) := hcy
            have hc2 : wr.cell? ⟨ad.block, ad.off + (i + 2), none⟩ = some (.int .u8 x) := hc
            have hin : (i : Int) + 1 < (n : Int) := by omega
            have hwr : IntKind.i64.wrap ((i : Int) + 1) = (i : Int) + 1 := by simp [IntKind.wrap, IntKind.signed, IntKind.bits]; omega
            have d0 : ((i : Int) + 2 == 0) = false := by simp; omega
            clear hst2 e3 hyd
            by_cases hxy : y < x
            · have HXY := Lib.hid hxy
              by_cases hx0 : x > 0
              · have HX0 := Lib.hid hx0
                go_quiet (fail)
                go_wp2_with fail
                go_meet
                exact ⟨by rw [HST2.out, decide_eq_true HX0.out, decide_eq_true HXY.out]; simp, _, rfl⟩
              · have HX0 := Lib.hid (show decide (0 < x) = false from decide_eq_false hx0)
                go_quiet (fail)
                go_wp2_with fail
                go_meet
                exact ⟨by rw [HST2.out, HX0.out, decide_eq_true HXY.out]; simp, _, rfl⟩
            · have HXY := Lib.hid (show decide (y < x) = false from decide_eq_false hxy)
              go_quiet (fail)
              go_wp2_with fail
              go_meet
              exact ⟨by rw [HST2.out, HXY.out]; simp, _, rfl⟩
      case rest =>
        obtain ⟨rfl, q, rfl⟩ := hcut
        have L1 := Lib.hid (HL.out.cut (bel_drewN (Below.refl wr.heap.size wr) q))
        have HXG := Lib.hid (show l[j]? = some x by rw [HXD.out, List.getD_eq_getElem?_getD, List.getElem?_eq_getElem (by rw [HN.out]; exact hlt)]; rfl)
        clear HL
        generalize hwq : wr.drewN q = wq at *
        clear hwq
        go_wp2_with fail
        refine Calls.mono (put_gen 1 1 2 3 wq) ?_
        rintro e' w2 ⟨rfl, hb2⟩
        simp only [Rq.cells]
        obtain ⟨w3, hw3⟩ : ∃ w3, w3 = w2.alloc (.cells (vEn x).cells.toArray 49) := ⟨_, rfl⟩
        have hb3 : Below w2.heap.size w2 w3 := by rw [hw3]; exact (Below.refl _ _).alloc (Nat.le_refl _) _
        have hE : w3.heap[w2.heap.size]? = some (.cells (vEn x).cells.toArray 49 (0, 0)) := by rw [hw3]; exact heap_alloc_new _ _
        obtain ⟨ao2, cap2, g1, g2, g3, g4, g5⟩ := (L1.out.cut hb2).cut hb3
        have hVne : ∀ g, (Value.slice ao2 j cap2).ownBlock = some g → g ≠ V := fun g e h => by have := g3 g e; omega
        have qv : w3.cell? ⟨V, 6, none⟩ = some (.slice ao2 j cap2) := by rw [cell_of_row _ _ _ _ _ _ g1]; rfl
        have y0 : w3.cell? ⟨w2.heap.size, 0, none⟩ = some (.int .u32 x) := by rw [cell_of_row _ _ _ _ _ _ hE]; rfl
        have y1 : w3.cell? ⟨w2.heap.size, 1, none⟩ = some (.int .u32 0) := by rw [cell_of_row _ _ _ _ _ _ hE]; rfl
        have y2 : w3.cell? ⟨w2.heap.size, 2, none⟩ = some (.int .u8 1) := by rw [cell_of_row _ _ _ _ _ _ hE]; rfl
        have y3 : w3.cell? ⟨w2.heap.size, 3, none⟩ = some (.int .u32 1) := by rw [cell_of_row _ _ _ _ _ _ hE]; rfl
        have y4 : w3.cell? ⟨w2.heap.size, 4, none⟩ = some (.int .u8 1) := by rw [cell_of_row _ _ _ _ _ _ hE]; rfl
        have y5 : w3.cell? ⟨w2.heap.size, 5, none⟩ = some (.int .u8 2) := by rw [cell_of_row _ _ _ _ _ _ hE]; rfl
        have y6 : w3.cell? ⟨w2.heap.size, 6, none⟩ = some (.int .u16 3) := by rw [cell_of_row _ _ _ _ _ _ hE]; rfl
        obtain ⟨w4, hw4⟩ : ∃ w4, w4 = w3.alloc (.cells (vEn x).cells.toArray 49) := ⟨_, rfl⟩
        have hb4 : Below w3.heap.size w3 w4 := by rw [hw4]; exact (Below.refl _ _).alloc (Nat.le_refl _) _
        have O4 := Lib.hid (ownR_kept g2 (Kept.ofBelow (S := fun _ => False) hb4) (fun _ _ h => h))
        have NW := Lib.hid (show ∀ jj u, (vEn x).cells[jj]? = some u → w4.cell? ((⟨w3.heap.size, 0, none⟩ : Addr).add jj) = some u by rw [hw4]; exact news_at w3 _ _)
        have HV4 := Lib.hid ((hb4.block V (lt_of_block g1)).trans g1)
        have HB4 := Lib.hid (g4.trans (hb4.mono g4.size))
        have HG3 := Lib.hid g3
        have HVNE := Lib.hid hVne
        have HV0 := Lib.hid g5
        simp only [vEn, vr, En.cells] at hw3 hw4
        have HW4 := Lib.hid hw4
        have HW3 := Lib.hid hw3
        obtain ⟨hi, hz0, hz1, hz2⟩ := HINFO.out
        clear hb2 hb3 hE g1 g2 g3 g4 g5 hVne hb4 hw3 hw4 L1
        go_upto_region 14 with fail
        rw [← HW3.out]
        go_wp2_with (first | (at_builtin
                              rw [← HW4.out]
                              refine wpList_append_own_at _ rfl _ _ 30 rfl 0 49 i0 _ 7 20 Tryd.underlying30 hi hz0 hz1 hz2 rfl (by decide) (.slice ao2 j cap2) j _ rfl O4.out ⟨w3.heap.size, 0, none⟩ 1 1 (vEn x).cells rfl rfl NW.out (by intro u hu; simp [vEn, vr, En.cells] at hu; (repeat' (rcases hu with rfl | hu)); all_goals first | rfl | (subst hu; rfl)) (by unfold maxLen; omega) (by omega) (Nat.zero_le _) ?_
                              intro v5 w5 ho5 hg5 hn5 hl5
                              obtain ⟨ao5, cap5, rfl⟩ := ownR_form ho5
                              have HO5 := Lib.hid ho5
                              have HG5 := Lib.hid hg5
                              have HL5 := Lib.hid hl5
                              clear ho5 hg5 hn5 hl5
                              refine Hid.out ?_) | go_in)
        refine Lib.hid ?_
        have hk5 := Kept.ofGrown HG5.out
        have hV5 : w5.heap[V]? = some (.cells (vv ⟨none, 0, 0⟩ ⟨none, 0, 0⟩ ⟨ao2, j, cap2⟩).cells.toArray 32 (0, 0)) := by
          rw [hk5.block V (lt_of_block HV4.out) (fun e => HVNE.out V e.symm rfl)]; exact HV4.out
        have qv5 : w5.cell? ⟨V, 6, none⟩ = some (.slice ao2 j cap2) := by rw [cell_of_row _ _ _ _ _ _ hV5]; rfl
        have zv5 : w5.frozen? ⟨V, 6, none⟩ = false := frozen_of_row _ _ _ _ _ hV5
        have hown5 : ∀ g, (Value.slice ao5 (j + 1) cap5).ownBlock = some g → V < g := fun g e => by
          rcases HL5.out with e' | e'
          · exact HG3.out g (e'.symm.trans e)
          · rw [e'] at e; injection e with e; have := lt_of_block HV4.out; omega
        have hbel5 : Below w.heap.size w w5 := HB4.out.trans (hk5.below (B := w.heap.size) HB4.out.size (fun g e => by have h7 := HG3.out g e.symm; have h8 := HV0.out; omega))
        have hlay : Lay2 w (w5.setCell ⟨V, 6, none⟩ (.slice ao5 (j + 1) cap5)) V l (j + 1) := by
          refine ⟨ao5, cap5, heap_setCell_same _ _ _ _ _ _ hV5, ?_, hown5, hbel5.setCell HV0.out _, HV0.out⟩
          rw [flat_step vEn En.cells HXG.out]
          exact ownR_kept HO5.out ((Kept.refl (fun b => b = V) w5).setCell ⟨V, 6, none⟩ _ (fun _ => rfl)) (fun g e h => by have := hown5 g e; omega)
        have HLAY2 := Lib.hid hlay
        clear hk5 hV5 hown5 hbel5 hlay
        go_wp2_with fail
        go_round
        case measure => simp [intOf]; omega
        case rel => exact ⟨j + 1, by omega, by go_num, by rw [HON.out], HLAY2⟩
    · obtain rfl : j = n := by omega
      have hfin := HL.out
      obtain ⟨ao2, cap2, g1, g2, g3, g4, g5⟩ := hfin
      have hlj : l.take j = l := List.take_of_length_le (by rw [HN.out]; exact Nat.le_refl _)
      rw [hlj] at g2
      have hrow : Row wr 7 En.cells (.slice ao2 j cap2) (l.map vEn) := row_of_own (fun x _ => by rfl) g2 (by rw [List.length_map, HN.out]) (by omega)
      obtain ⟨v, hv⟩ : ∃ v, v = vv ⟨none, 0, 0⟩ ⟨none, 0, 0⟩ ⟨ao2, j, cap2⟩ := ⟨_, rfl⟩
      have hvat : VtAt wr v (vcT 2 l) := by rw [hv]; exact ⟨Row.nil _ _ _, Row.nil _ _ _, hrow⟩
      have hvb : voteB v (vcT 2 l) = okTo l false j := by rw [hv]; exact HOK.out _ _ _
      have him : isM (vm v) { Mc.nil with vt := vcT 2 l } = okTo l false j := by rw [← hvb, hv]; exact vm_is _ _ _ _
      rw [← hv] at g1
      have hvf := hv
      obtain ⟨ob, hob⟩ : ∃ b, b = okTo l false j := ⟨_, rfl⟩
      rw [← hob] at hvb him ⊢
      have hT := Tab.on HT.out g4
      obtain ⟨U, hU⟩ : ∃ U, U = (wr.alloc (.cells Vz.toArray 37)).setCells wr.heap.size 0 (vm v).cells := ⟨_, rfl⟩
      obtain ⟨hbx, hbu, hth⟩ := msg_new wr _ hU
      have hmat : MgAt U (vm v) { Mc.nil with vt := vcT 2 l } := ⟨hvat.below hbu, ⟨Row.nil _ _ _, fun x hx => by cases hx⟩, Row.nil _ _ _, ⟨rfl, (fun i hi => by simp [Mc.nil] at hi), fun _ => rfl, Nat.le_refl _, by simp [Mc.nil], fun x hx => by simp [Mc.nil] at hx⟩⟩
      have hmok : McOk { Mc.nil with vt := vcT 2 l } := ⟨vcT_ok 2 l, fun x hx => by cases hx⟩
      have CE := Lib.hid (enc_ok U (vm v) _ hmat hmok (Tab.on hT hbu))
      have CV := Lib.hid (fun w' (h : Below U.heap.size U w') => isVote_any w' v (vcT 2 l) ((hvat.below hbu).below h) (vcT_ok 2 l) (Tab.on (Tab.on hT hbu) h))
      have hel : isM (vm v) { Mc.nil with vt := vcT 2 l } = true → (encM (vm v) { Mc.nil with vt := vcT 2 l }).length ≤ 8000 := fun h => encM_len hmat h
      rw [him] at CE hel
      rw [hvb] at CV
      have qv0 : wr.cell? ⟨V, 0, none⟩ = some (.int .u8 v.f) := by rw [cell_of_row _ _ _ _ _ _ g1]; rfl
      have qv1 : wr.cell? ⟨V, 1, none⟩ = some (.int .u8 v.e) := by rw [cell_of_row _ _ _ _ _ _ g1]; rfl
      have qv2 : wr.cell? ⟨V, 2, none⟩ = some (.int .u32 v.vw) := by rw [cell_of_row _ _ _ _ _ _ g1]; rfl
      have qv3 : wr.cell? ⟨V, 3, none⟩ = some (.int .u32 v.lo) := by rw [cell_of_row _ _ _ _ _ _ g1]; rfl
      have LV := Lib.hid (fun w' (h : w'.heap[V]? = some (.cells v.cells.toArray 32 (0, 0))) => vt_load (w' := w') (b := V) (o := 0) (x := v) (fun i u hu => by rw [cell_of_row _ _ _ _ _ _ h]; simpa using hu))
      have HVU := Lib.hid ((hbu.block V (lt_of_block g1)).trans g1)
      have HG1 := Lib.hid g1
      have HU := Lib.hid hU
      have HTH := Lib.hid hth
      have HBX := Lib.hid hbx
      have HBU := Lib.hid (g4.trans (hbu.mono g4.size))
      generalize encM (vm v) { Mc.nil with vt := vcT 2 l } = el at CE hel
      generalize hln : el.length = ln at CE hel
      have HLN := Lib.hid hln
      have HEL := Lib.hid hel
      clear g1 g2 g3 g4 g5 hlj hrow hvat hvb him hT hU hbx hbu hth hmat hmok hel hln hv hvf hob qv0 qv1 qv2 qv3 HL
      go_upto_region 19 with fail
      refine wp_region_lit ?_
      refine wpl_valg (v := .agg v.cells.toArray) (w1 := wr) rfl (exec_load 32 (.tmp 5) rfl rfl (LV.out wr HG1.out)) _ rfl ?_
      refine wpl_val (v := .agg (vm v).cells.toArray) (w1 := wr) rfl (by simp only [vm, hm, Mg.cells, Rq.zero, Vt.cells]; go_simp) _ rfl ?_
      refine wpl_val (v := .pointer (some ⟨wr.heap.size, 0, none⟩)) (w1 := wr.alloc (.cells Vz.toArray 37)) rfl (by simp only [Vz]; go_simp) _ rfl ?_
      refine wpList_store_mid rfl 37 (.tmp 10) (.tmp 88) rfl wr.heap.size 0 (vm v).cells.toArray rfl rfl HTH.out size37 (all_oneCell_toArray (Mg.one _)) ?_
      dsimp only
      rw [← HU.out]
      clear HTH HU
      generalize hM : wr.heap.size = M at *
      generalize hA : (vm v).cells.toArray = A at *
      have HSZ := Lib.hid (show A.size = 25 by rw [← hA]; rfl)
      generalize hva : v.cells.toArray = va at *
      clear hA hva
      go_upto_region 20 with fail
      refine wp_region_lit ?_
      refine wpList_load_row rfl 37 (.tmp 10) rfl M rfl 37 _ (0, 0) _ HBX.out Tryd.underlying37 rfl (by rw [HSZ.out]; exact size37) ?_
      go_wp2_with fail
      refine Calls.mono CE.out ?_
      rintro e' w7 ⟨hres, hb7⟩
      have HV7 := Lib.hid ((hb7.block V (lt_of_block HVU.out)).trans HVU.out)
      have B7 := Lib.hid hb7
      clear hb7 CE
      rcases hres with ⟨rfl, rfl⟩ | ⟨rfl, aoe, ke, rfl, hnew⟩
      · go_upto_region 21 with fail
        refine wp_region_lit ?_
        refine wpl_valg (v := .agg va) (w1 := w7) rfl (exec_load 32 (.tmp 5) rfl rfl (LV.out w7 HV7.out)) _ rfl ?_
        go_wp2_with fail
        refine Calls.mono (CV.out _ B7.out) ?_
        rintro e' w8 ⟨rfl, hb8⟩
        have B8 := Lib.hid (HBU.out.trans ((Below.up B7.out hb8).mono HBU.out.size))
        clear hb8
        go_wp2_with fail
        go_ret
        exact ⟨rfl, B8.out⟩
      · have hl8 : (ln : Int) ≤ 8000 := by have := HEL.out rfl; omega
        clear hnew
        go_upto_region 21 with fail
        refine wp_region_lit ?_
        refine wpl_valg (v := .agg va) (w1 := w7) rfl (exec_load 32 (.tmp 5) rfl rfl (LV.out w7 HV7.out)) _ rfl ?_
        go_wp2_with fail
        refine Calls.mono (CV.out _ B7.out) ?_
        rintro e' w8 ⟨rfl, hb8⟩
        have B8 := Lib.hid (HBU.out.trans ((Below.up B7.out hb8).mono HBU.out.size))
        clear hb8
        go_wp2_with fail
        go_ret
        exact ⟨rfl, B8.out⟩

theorem votes_any (w : World) (ao : Option Addr) (cap : Nat) (l : List Int) (hby : Bytes w ao l) (hby2 : ∀ x ∈ l, isByte x) (wh : Int) (hw0 : 0 ≤ wh) (ht : Tab w) :
    Calls Tryd.prog 4 #[.slice ao l.length cap, .int .u8 wh] w fun e w' => e = .returned (.bool true) ∧ Below w.heap.size w w' := by
  by_cases h50 : l.length ≤ 50
  · have h3 : wh % 3 = 0 ∨ wh % 3 = 1 ∨ wh % 3 = 2 := by omega
    rcases h3 with h | h | h
    · exact votes0 w ao cap l hby hby2 wh h hw0 ht h50
    · exact votes1 w ao cap l hby hby2 wh h hw0 ht h50
    · exact votes2 w ao cap l hby hby2 wh h hw0 ht h50
  · have CK := Lib.hid (known_any w ht)
    clear ht hby hby2
    generalize hn : l.length = n at *
    have h50' : (n : Int) > 50 := by omega
    clear hn
    go_enter Tryd.func4, Tryd.ntmps4
    go_wp2_with fail
    refine Calls.mono CK.out ?_
    rintro e' w1 ⟨rfl, hb1⟩
    have B1 := Lib.hid hb1
    clear hb1 CK
    go_wp2_with fail
    go_ret
    exact ⟨rfl, B1.out⟩
end Go.Proofs.YtigpfaecbmnklaaDoor
