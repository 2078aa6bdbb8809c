/- The program's Decode and the document's tell the same. MsgReads: the walk. -/
import Derived.Test.YtbpfkeeikhhlnaaGreatDoorR08
import Derived.Test.YtbpfkeeikhhlnaaGreatDoorR07
namespace Go.Proofs.YtbpfkeeikhhlnaaGreatDoor
open Go.RowKit
set_option maxRecDepth 100000

theorem RelQ.eq {m : Mg} {c : Mc} {x : Mq} (h : RelQ m c x) : toMq m c = x := by
  obtain ⟨h1, h2, h3, h4, h5⟩ := h
  obtain ⟨w, vt, vs, sm, dt⟩ := x
  simp only at h1 h2 h3 h4 h5
  unfold toMq
  rw [h1, h2, h3, h4, h5]
theorem partsOf_kind {k : Int} (h : partsOf k ≠ []) : 1 ≤ k ∧ k ≤ 14 := by
  by_cases hk : 1 ≤ k ∧ k ≤ 14
  · exact hk
  · exfalso
    apply h
    unfold partsOf
    have n1 : k ≠ 1 := by omega
    have n2 : k ≠ 2 := by omega
    have n3 : k ≠ 3 := by omega
    have n4 : k ≠ 4 := by omega
    have n5 : k ≠ 5 := by omega
    have n6 : k ≠ 6 := by omega
    have n7 : k ≠ 7 := by omega
    have n8 : k ≠ 8 := by omega
    have n9 : k ≠ 9 := by omega
    have n10 : k ≠ 10 := by omega
    have n11 : k ≠ 11 := by omega
    have n12 : k ≠ 12 := by omega
    have n13 : k ≠ 13 := by omega
    have n14 : k ≠ 14 := by omega
    simp [n1, n2, n3, n4, n5, n6, n7, n8, n9, n10, n11, n12, n13, n14]
theorem isM_kind {m : Mg} {c : Mc} (h : isM m c = true) : 1 ≤ m.k ∧ m.k ≤ 14 := by
  apply partsOf_kind
  intro hp
  rw [no_parts hp] at h
  cases h
theorem enc_kind (m : Mg) (c : Mc) : (p8 ⟨encM m c, 0⟩).1 = m.k := by
  simp [p8, gN, encM, encUp]
/-- what both tell -/
theorem reads_both {w1 w2 : World} {l : List Int} {m n : Mg} {c d : Mc} {err : Int} {ok : Bool} (hby : ∀ x ∈ l, isByte x) (hD : DecD w1 l m c err) (hR : DocD w2 l n d ok) :
    (ok = true ∧ err = 0 ∧ sameM m c n d = true ∧ MgAt w1 m c ∧ MgAt w2 n d) ∨ (ok = false ∧ (err = 20 ∨ err = 21 ∨ err = 30) ∧ m = hm 0 0 0 0) := by
  rcases hR with ⟨r1, r2, r3, r4, r5⟩ | ⟨r1, r2, r3⟩
  · left
    have hp := rdsM n d r3 (isM_short r2 r4) r4 []
    rw [List.append_nil, r5] at hp
    rcases hD with ⟨d1, d2, d3, d4, d5, d6, d7⟩ | ⟨d1, d2, d3, d4⟩
    · refine ⟨r1, d1, ?_, d5, r2⟩
      rw [sameM_iff, d7.eq, hp]
    · exfalso
      rw [hp] at d3
      rcases d3 with e | e | ⟨w3, m', c', e1, e2, e3⟩
      · exact e rfl
      · exact e rfl
      · rw [isM_rel r2 e1 e2.eq, r4] at e3
        cases e3
  · right
    rcases hD with ⟨d1, d2, d3, d4, d5, d6, d7⟩ | ⟨d1, d2, d3, d4⟩
    · exfalso
      have hp : pAll l = (toMq m c, ⟨[], 0⟩) := by
        rw [d7.eq]
        exact Prod.ext rfl (by
          show (pAll l).2 = ⟨[], 0⟩
          have e : (pAll l).2 = ⟨(pAll l).2.l, (pAll l).2.f⟩ := rfl
          rw [e, d2, d3])
      have hl := enc_of_read l hby m c hp
      have hk : (p8 ⟨l, 0⟩).1 = m.k := by rw [hl]; exact enc_kind m c
      have hd : dAll l = pAll l := dAll_pAll l hby d2
      have h3 := r3 (by rw [hk]; exact isM_kind d4)
      rw [hd] at h3
      rcases h3 with e | ⟨w3, m', c', e1, e2, e3⟩
      · exact e d2
      · have e4 : toMq m' c' = toMq m c := by rw [e2.eq, d7.eq]
        rcases e3 with e | e
        · rw [isM_rel d5 e1 e4, d4] at e
          cases e
        · exact e (enc_of_read l hby m' c' (by rw [e4]; exact hp)).symm
    · exact ⟨r1, d4, d2⟩

theorem load37 {wx : World} {g : Nat} {m : Mg} (hb : wx.heap[g]? = some (.cells m.cells.toArray 37 (0, 0))) : (Instr.loadAt 37 (.pointer (some ⟨g, 0, none⟩))).run Tryz.prog wx = .ok (.agg m.cells.toArray) wx := by
  simp only [Instr.loadAt, Instr.sureAddr, Sem.run_bind, Sem.run_pure, Result.andThen_ok, run_loadVar_row (P := Tryz.prog) wx g 37 37 m.cells.toArray (0, 0) _ hb Tryz.underlying37 rfl size37]

theorem exl {P : Program} {o : Oper} {a : Act} {w : World} {v : Value} (ty : TypeId) (x : Operand) (p : Value) (ho : o.op = .load ty x) (hx : a.eval x = p) (h : (Instr.loadAt ty p).run P w = .ok v w) : (execOp a.eval o).run P w = .ok (.value v) w := by
  unfold execOp
  simp only [ho, hx, Sem.run_bind, h, Result.andThen_ok, Sem.run_pure]
set_option maxHeartbeats 16000000 in
theorem reads_any (w : World) (ao : Option Addr) (cap : Nat) (l : List Int) (hb : Bytes w ao l) (hno : ao = none → cap = 0) (hcap : l.length ≤ cap) (hfa : ∀ ad, ao = some ad → 0 < cap → ∃ b off, ad = ⟨b, off, none⟩) (hby : ∀ x ∈ l, isByte x) (ht : Tab w) :
    Calls Tryz.prog 4 #[.slice ao l.length cap] w fun e w' => e = .returned (.bool true) ∧ Below w.heap.size w w' := by
  have KN := Lib.hid (known_any w ht)
  obtain ⟨ln, hln⟩ : ∃ n, n = l.length := ⟨_, rfl⟩
  rw [← hln] at hcap ⊢
  have HH := Lib.hid (And.intro hb (And.intro hno (And.intro hcap (And.intro hfa (And.intro hby ht)))))
  have HL := Lib.hid hln
  clear hb hno hcap hfa hby ht hln
  go_enter Tryz.func4, Tryz.ntmps4
  go_wp2_with fail
  refine KN.out.mono ?_
  rintro e w1 ⟨rfl, b1⟩
  have HB1 := Lib.hid b1
  clear b1 KN
  by_cases h3 : 3000 < ln
  · have g3 : decide (3000 < (ln : Int)) = true := by rw [decide_eq_true_eq]; omega
    go_wp2_with fail
    go_ret
    exact ⟨rfl, HB1.out⟩
  · have g3 : decide (3000 < (ln : Int)) = false := by rw [decide_eq_false_iff_not]; omega
    go_upto_region 5 with fail
    refine wp_region_lit ?_
    refine wv (.slice ao ln cap) w1 (by go_simp) ?_
    refine wpList_app w1 rfl (.const (.slice none 0 0)) (.tmp 13) rfl (.slice none 0 0) 0 [] rfl ⟨by simp [vals], .inl ⟨rfl, rfl⟩⟩ ao ln cap l rfl HL.out.symm (bytes_below HH.out.1 HB1.out (Nat.le_refl _)) (fun e => by have := HH.out.2.1 e; have := HH.out.2.2.1; omega) (by omega) ?_
    intro ao2 cap2 w2 ho hk2 hg2
    simp only [Nat.zero_add, List.nil_append] at ho hg2 ⊢
    have k12 : Below w1.heap.size w1 w2 := hk2.below (Nat.le_refl _) (fun k e => by simp [Value.ownBlock] at e)
    have HB2 := Lib.hid (HB1.out.trans (k12.mono HB1.out.size))
    have hno2 : ao2 = none → l = [] ∧ cap2 = 0 := fun e => by
      subst e
      rcases ho.2 with ⟨hv, h0⟩ | ⟨g, c3, cur, hv, _⟩
      · injection hv with _ _ e3
        exact ⟨List.eq_nil_of_length_eq_zero (by rw [← HL.out]; exact h0), e3⟩
      · injection hv with e1; cases e1
    have CD := decode_any w2 ao2 cap2 l (own_bytes ho) hno2 (by have := HL.out; omega) HH.out.2.2.2.2.1 (Tab.on HH.out.2.2.2.2.2 HB2.out)
    rw [← HL.out] at CD
    replace CD := Lib.hid CD
    clear ho hk2 hg2 k12 hno2 HB1
    go_wp2_with fail
    refine CD.out.mono ?_
    rintro e3 w3 ⟨m, c, err, rfl, hD, b3⟩
    have HB3 := Lib.hid (HB2.out.trans (b3.mono HB2.out.size))
    have HD := Lib.hid hD
    clear hD b3 HB2 CD
    dsimp only
    refine ‹∀ (a : Act) (w : World), wpList Tryz.prog _ _ _ a w → _› _ _ ?_
    obtain ⟨U, hU⟩ : ∃ U, U = (w3.alloc (.cells Vz.toArray 37)).setCells w3.heap.size 0 m.cells := ⟨_, rfl⟩
    obtain ⟨hUM, hUb, hth⟩ := msg_new w3 _ hU
    have HUM := Lib.hid (And.intro hUM hUb)
    have HTH := Lib.hid hth
    have HU := Lib.hid hU
    clear hUM hUb hth hU
    obtain ⟨A, hA⟩ : ∃ A, A = m.cells.toArray := ⟨_, rfl⟩
    have HA := Lib.hid hA
    rw [← hA]
    clear hA
    refine wv (.tuple #[.agg A, .int .i64 err]) w3 (by go_simp) ?_
    refine wv (.agg A) w3 (by go_simp) ?_
    refine wv (.int .i64 err) w3 (by go_simp) ?_
    refine wv (.pointer (some ⟨w3.heap.size, 0, none⟩)) (w3.alloc (.cells Vz.toArray 37)) (by simp only [Vz]; go_simp) ?_
    refine wpList_store_mid rfl 37 (.tmp 3) (.tmp 16) rfl w3.heap.size 0 A rfl rfl (by rw [HA.out]; exact HTH.out) (by rw [HA.out]; exact size37) (by rw [HA.out]; exact all_oneCell_toArray (Mg.one _)) ?_
    have hAl : A.toList = m.cells := by rw [HA.out]
    rw [hAl]
    dsimp only
    rw [← HU.out]
    clear HU HTH hAl
    obtain ⟨G, hG⟩ : ∃ G, G = w3.heap.size := ⟨_, rfl⟩
    rw [← hG] at HUM ⊢
    have HG := Lib.hid hG
    clear hG
    have HBU := Lib.hid (HB3.out.trans (HUM.out.2.mono (by rw [HG.out]; exact HB3.out.size)))
    have CR := rdecode_any U ao cap l (bytes_below HH.out.1 HBU.out (Nat.le_refl _)) (fun e => ⟨List.eq_nil_of_length_eq_zero (by have := HL.out; have := HH.out.2.1 e; have := HH.out.2.2.1; omega), HH.out.2.1 e⟩) (by rw [← HL.out]; exact HH.out.2.2.1) HH.out.2.2.2.1 (by have := HL.out; omega) HH.out.2.2.2.2.1
    rw [← HL.out] at CR
    replace CR := Lib.hid CR
    go_wp2_with fail
    refine CR.out.mono ?_
    rintro e5 w5 ⟨n, d, ok, rfl, hR, b5⟩
    have HB5 := Lib.hid (HBU.out.trans (b5.mono HBU.out.size))
    have HR := Lib.hid (And.intro hR b5)
    clear hR b5 CR
    dsimp only
    refine ‹∀ (a : Act) (w : World), wpList Tryz.prog _ _ _ a w → _› _ _ ?_
    obtain ⟨V, hV⟩ : ∃ V, V = (w5.alloc (.cells Vz.toArray 37)).setCells w5.heap.size 0 n.cells := ⟨_, rfl⟩
    obtain ⟨hVM, hVb, hth⟩ := msg_new w5 _ hV
    have HVM := Lib.hid (And.intro hVM hVb)
    have HTH := Lib.hid hth
    have HV := Lib.hid hV
    clear hVM hVb hth hV
    obtain ⟨B, hB⟩ : ∃ B, B = n.cells.toArray := ⟨_, rfl⟩
    have HNB := Lib.hid hB
    rw [← hB]
    clear hB
    refine wv (.tuple #[.agg B, .bool ok]) w5 (by go_simp) ?_
    refine wv (.agg B) w5 (by go_simp) ?_
    refine wv (.bool ok) w5 (by go_simp) ?_
    refine wv (.pointer (some ⟨w5.heap.size, 0, none⟩)) (w5.alloc (.cells Vz.toArray 37)) (by simp only [Vz]; go_simp) ?_
    refine wpList_store_mid rfl 37 (.tmp 5) (.tmp 21) rfl w5.heap.size 0 B rfl rfl (by rw [HNB.out]; exact HTH.out) (by rw [HNB.out]; exact size37) (by rw [HNB.out]; exact all_oneCell_toArray (Mg.one _)) ?_
    have hBl : B.toList = n.cells := by rw [HNB.out]
    rw [hBl]
    dsimp only
    rw [← HV.out]
    clear HV HTH hBl
    have HBV := Lib.hid (HB5.out.trans (HVM.out.2.mono HB5.out.size))
    have L3 := load37 (wx := V) (g := G) (m := m) (by
      rw [HVM.out.2.block _ (by have := lt_of_block HUM.out.1; have := HR.out.2.size; omega), HR.out.2.block _ (lt_of_block HUM.out.1)]; exact HUM.out.1)
    have L5 := load37 HVM.out.1
    rw [← HA.out] at L3
    rw [← HNB.out] at L5
    obtain ⟨E, hE⟩ : ∃ E, E = w5.heap.size := ⟨_, rfl⟩
    rw [← hE] at L5 HVM ⊢
    have HE := Lib.hid hE
    clear hE
    have RB := reads_both HH.out.2.2.2.2.1 HD.out HR.out.1
    rcases RB with ⟨rfl, rfl, hs, hmm, hn⟩ | ⟨rfl, he, hmz⟩
    · have hmV : MgAt V m c := by
        have h1 := hmm.below (show Below w3.heap.size w3 U by rw [← HG.out]; exact HUM.out.2)
        have h2 := h1.below HR.out.2
        exact h2.below (show Below w5.heap.size w5 V by rw [← HE.out]; exact HVM.out.2)
      have hnV : MgAt V n d := hn.below (show Below w5.heap.size w5 V by rw [← HE.out]; exact HVM.out.2)
      have CS := refSame_any V m n c d hmV hnV
      rw [← HA.out, ← HNB.out, hs] at CS
      replace CS := Lib.hid CS
      clear hmV hnV hmm hn hs
      replace L3 := Lib.hid L3
      replace L5 := Lib.hid L5
      go_upto_region 9 with fail
      refine wp_region_lit ?_
      refine wv (.int .i64 0) V (by go_simp) ?_
      refine wv (.bool true) V (by go_simp) ?_
      refine wv (.bool true) V (by go_simp) ?_
      refine wg (.agg A) V (by kernel_rfl) (exl 37 (.tmp 3) _ rfl rfl L3.out) ?_
      refine wg (.agg B) V (by kernel_rfl) (exl 37 (.tmp 5) _ rfl rfl L5.out) ?_
      refine wlg (by kernel_rfl) fun K hK => ?_
      go_simp
      refine CS.out.mono ?_
      rintro e7 w7 ⟨rfl, b7⟩
      refine hK _ _ ?_
      clear hK K
      have HB7 := Lib.hid (HBV.out.trans (b7.mono HBV.out.size))
      clear b7
      go_wp2_with fail
      go_ret
      exact ⟨rfl, HB7.out⟩
    · have CS := refSame_any V (hm 0 0 0 0) (hm 0 0 0 0) Mc.nil Mc.nil (zero_at _ _ _ _ _) (zero_at _ _ _ _ _)
      rw [(sameM_iff _ _ _ _).2 rfl] at CS
      have hAA : A = (hm 0 0 0 0).cells.toArray := by rw [HA.out, hmz]
      rw [← hAA] at CS
      replace CS := Lib.hid CS
      have HAA := Lib.hid hAA
      clear hAA hmz
      replace L3 := Lib.hid L3
      clear L5
      rcases he with rfl | rfl | rfl
      · go_upto_region 8 with fail
        refine wp_region_lit ?_
        refine wv (.int .i64 20) V (by go_simp) ?_
        refine wv (.bool true) V (by go_simp) ?_
        refine wv (.bool true) V (by go_simp) ?_
        refine wg (.int .i64 20) V (by kernel_rfl) (by go_simp) ?_
        refine wg (.bool true) V (by kernel_rfl) (by go_simp) ?_
        refine wg (.bool true) V (by kernel_rfl) (by go_simp) ?_
        refine wn (by kernel_rfl) ?_
        refine wn (by kernel_rfl) ?_
        refine wg (.bool true) V (by kernel_rfl) (by go_simp) ?_
        refine wg (.bool true) V (by kernel_rfl) (by go_simp) ?_
        refine wn (by kernel_rfl) ?_
        refine wn (by kernel_rfl) ?_
        refine wg (.bool true) V (by kernel_rfl) (by go_simp) ?_
        refine wv (.bool true) V (by go_simp) ?_
        refine wv (.bool true) V (by go_simp) ?_
        refine wg (.agg A) V (by kernel_rfl) (exl 37 (.tmp 3) _ rfl rfl L3.out) ?_
        refine wg (.agg A) V (by kernel_rfl) (by rw [HAA.out]; simp only [hm, Mg.cells, Rq.zero, Vt.zero]; go_simp) ?_
        refine wlg (by kernel_rfl) fun K hK => ?_
        go_simp
        refine CS.out.mono ?_
        rintro e7 w7 ⟨rfl, b7⟩
        refine hK _ _ ?_
        clear hK K
        have HB7 := Lib.hid (HBV.out.trans (b7.mono HBV.out.size))
        clear b7
        go_wp2_with fail
        go_ret
        exact ⟨rfl, HB7.out⟩
      · go_upto_region 8 with fail
        refine wp_region_lit ?_
        refine wv (.int .i64 21) V (by go_simp) ?_
        refine wv (.bool true) V (by go_simp) ?_
        refine wv (.bool true) V (by go_simp) ?_
        refine wg (.int .i64 21) V (by kernel_rfl) (by go_simp) ?_
        refine wg (.bool false) V (by kernel_rfl) (by go_simp) ?_
        refine wg (.bool false) V (by kernel_rfl) (by go_simp) ?_
        refine wg (.int .i64 21) V (by kernel_rfl) (by go_simp) ?_
        refine wg (.bool true) V (by kernel_rfl) (by go_simp) ?_
        refine wg (.bool true) V (by kernel_rfl) (by go_simp) ?_
        refine wg (.bool true) V (by kernel_rfl) (by go_simp) ?_
        refine wn (by kernel_rfl) ?_
        refine wn (by kernel_rfl) ?_
        refine wg (.bool true) V (by kernel_rfl) (by go_simp) ?_
        refine wv (.bool true) V (by go_simp) ?_
        refine wv (.bool true) V (by go_simp) ?_
        refine wg (.agg A) V (by kernel_rfl) (exl 37 (.tmp 3) _ rfl rfl L3.out) ?_
        refine wg (.agg A) V (by kernel_rfl) (by rw [HAA.out]; simp only [hm, Mg.cells, Rq.zero, Vt.zero]; go_simp) ?_
        refine wlg (by kernel_rfl) fun K hK => ?_
        go_simp
        refine CS.out.mono ?_
        rintro e7 w7 ⟨rfl, b7⟩
        refine hK _ _ ?_
        clear hK K
        have HB7 := Lib.hid (HBV.out.trans (b7.mono HBV.out.size))
        clear b7
        go_wp2_with fail
        go_ret
        exact ⟨rfl, HB7.out⟩
      · go_upto_region 8 with fail
        refine wp_region_lit ?_
        refine wv (.int .i64 30) V (by go_simp) ?_
        refine wv (.bool true) V (by go_simp) ?_
        refine wv (.bool true) V (by go_simp) ?_
        refine wg (.int .i64 30) V (by kernel_rfl) (by go_simp) ?_
        refine wg (.bool false) V (by kernel_rfl) (by go_simp) ?_
        refine wg (.bool false) V (by kernel_rfl) (by go_simp) ?_
        refine wg (.int .i64 30) V (by kernel_rfl) (by go_simp) ?_
        refine wg (.bool false) V (by kernel_rfl) (by go_simp) ?_
        refine wg (.bool false) V (by kernel_rfl) (by go_simp) ?_
        refine wg (.bool false) V (by kernel_rfl) (by go_simp) ?_
        refine wg (.int .i64 30) V (by kernel_rfl) (by go_simp) ?_
        refine wg (.bool true) V (by kernel_rfl) (by go_simp) ?_
        refine wg (.bool true) V (by kernel_rfl) (by go_simp) ?_
        refine wv (.bool true) V (by go_simp) ?_
        refine wv (.bool true) V (by go_simp) ?_
        refine wg (.agg A) V (by kernel_rfl) (exl 37 (.tmp 3) _ rfl rfl L3.out) ?_
        refine wg (.agg A) V (by kernel_rfl) (by rw [HAA.out]; simp only [hm, Mg.cells, Rq.zero, Vt.zero]; go_simp) ?_
        refine wlg (by kernel_rfl) fun K hK => ?_
        go_simp
        refine CS.out.mono ?_
        rintro e7 w7 ⟨rfl, b7⟩
        refine hK _ _ ?_
        clear hK K
        have HB7 := Lib.hid (HBV.out.trans (b7.mono HBV.out.size))
        clear b7
        go_wp2_with fail
        go_ret
        exact ⟨rfl, HB7.out⟩
end Go.Proofs.YtbpfkeeikhhlnaaGreatDoor
