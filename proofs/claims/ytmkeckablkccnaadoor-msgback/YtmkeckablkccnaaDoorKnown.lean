/- The known answers: a message of one byte behind its head is written and read again. -/
import Derived.Test.YtmkeckablkccnaaDoorDec
import Derived.Laws.ResultCell
namespace Go.Proofs.YtmkeckablkccnaaDoor
open Go.RowKit
set_option maxRecDepth 100000

def dm (f t e c : Int) : Mg := { k := 8, f := f, t := t, e := e, vw := 0, sq := 0, rq := Rq.zero, ro := 0, ct := c, pg := 0, rs := 0, vt := Vt.zero, vs := ⟨none, 0, 0⟩, sm := ⟨none, 0, 0⟩, dt := ⟨none, 0, 0⟩ }

theorem dm_at (w : World) (f t e c : Int) : MgAt w (dm f t e c) Mc.nil :=
  ⟨⟨Row.nil _ _ _, Row.nil _ _ _, Row.nil _ _ _⟩, ⟨Row.nil _ _ _, fun x hx => by cases hx⟩, Row.nil _ _ _, ⟨rfl, (fun i hi => by simp [Mc.nil] at hi), fun _ => rfl, Nat.le_refl _, by simp [Mc.nil], fun x hx => by simp [Mc.nil] at hx⟩⟩

theorem add_zero (ad : Addr) : ad.add 0 = ad := by unfold Addr.add; simp

theorem dm_step (f t e c : Int) : ((dm f t e 0).cells.toArray).setIfInBounds 12 (.int .u8 c) = (dm f t e c).cells.toArray := rfl

set_option maxHeartbeats 8000000 in
theorem decode_count (w : World) (ao : Option Addr) (cap : Nat) (f t e c : Int) (hb : Bytes w ao [8, f, t, e, c]) (hno : ao = none → False) (hby : ∀ x ∈ [8, f, t, e, c], isByte x)
    (hi : isB (dm f t e c) Mc.nil false false = true) :
    Calls Tryd.prog 11 #[.slice ao 5 cap] w fun e' w' => e' = .returned (.tuple #[.agg (dm f t e c).cells.toArray, .int .i64 0]) ∧ Below w.heap.size w w' := by
  obtain ⟨W, hW⟩ : ∃ W, W = w.alloc (.cells Vz.toArray 37) := ⟨_, rfl⟩
  have hbl : Below w.heap.size w W := by rw [hW]; exact (Below.refl _ _).alloc (Nat.le_refl _) _
  have hg0 : W.heap[w.heap.size]? = some (.cells Vz.toArray 37 (0, 0)) := by rw [hW]; exact heap_alloc_new _ _
  have CO := Lib.hid (open_any W ao cap [8, f, t, e, c] (bytes_below hb hbl (Nat.le_refl _)) (fun h => (hno h).elim) (by simp) hby)
  have CI := Lib.hid (fun w1 => is_any w1 (dm f t e c) Mc.nil (dm_at w1 f t e c) false false (fun h => by simp [dm, partsOf] at h) (fun h => by simp [dm, partsOf] at h))
  rw [hi] at CI
  have HBL := Lib.hid hbl
  have HG0 := Lib.hid hg0
  have HW := Lib.hid hW
  clear hb hno hby hi hbl hg0 hW
  simp only [Vz] at HW
  go_enter Tryd.func11, Tryd.ntmps11
  go_upto_region 1 with fail
  rw [← HW.out]
  clear HW
  go_wp2_with fail
  refine Calls.mono CO.out ?_
  rintro e1 w1 ⟨R, rfl, hR, hrd, hb1⟩
  obtain ⟨w2, hw2⟩ : ∃ w2, w2 = w1.alloc (.cells #[.pointer (some ⟨R, 0, none⟩), .int .i64 0] 82) := ⟨_, rfl⟩
  have hb2 : Below w1.heap.size w1 w2 := by rw [hw2]; exact (Below.refl _ _).alloc (Nat.le_refl _) _
  have hsrc : Src w2 w1.heap.size R := by rw [hw2]; exact heap_alloc_new _ _
  have S2 := Lib.hid hsrc
  have R2 := Lib.hid (hrd.below hb2)
  have B2 := Lib.hid (Below.up (W := W) hb1 hb2)
  have HRW := Lib.hid hR
  have HW2 := Lib.hid hw2
  have hRl : R < w2.heap.size := (hrd.below hb2).lt
  have HRL := Lib.hid hRl
  generalize hS : w1.heap.size = S at *
  clear hb2 hsrc hrd hb1 hw2 hR hRl
  go_wp2_with fail
  rw [← HW2.out]
  have C1 := su8 w2 S R [8, f, t, e, c] S2.out R2.out (by simp) (by simp)
  simp only [List.getD_cons_zero, List.drop_succ_cons, List.drop_zero] at C1
  refine Calls.mono C1 ?_
  rintro e2 v1 ⟨rfl, h1, h2⟩
  have S3 := Lib.hid (S2.out.kept R2.out h2)
  have R3 := Lib.hid h1
  have K1 : Hid (Kept (fun k => k = R) w2 v1) := Lib.hid (h2)
  clear C1 h1 h2
  go_wp2_with fail
  have C2 := su8 v1 S R [f, t, e, c] S3.out R3.out (by simp) (by simp)
  simp only [List.getD_cons_zero, List.drop_succ_cons, List.drop_zero] at C2
  refine Calls.mono C2 ?_
  rintro e3 v2 ⟨rfl, h1, h2⟩
  have S4 := Lib.hid (S3.out.kept R3.out h2)
  have R4 := Lib.hid h1
  have K2 : Hid (Kept (fun k => k = R) w2 v2) := Lib.hid (K1.out.trans h2 (fun _ _ e => e))
  clear C2 h1 h2
  go_wp2_with fail
  have C3 := su8 v2 S R [t, e, c] S4.out R4.out (by simp) (by simp)
  simp only [List.getD_cons_zero, List.drop_succ_cons, List.drop_zero] at C3
  refine Calls.mono C3 ?_
  rintro e4 v3 ⟨rfl, h1, h2⟩
  have S5 := Lib.hid (S4.out.kept R4.out h2)
  have R5 := Lib.hid h1
  have K3 : Hid (Kept (fun k => k = R) w2 v3) := Lib.hid (K2.out.trans h2 (fun _ _ e => e))
  clear C3 h1 h2
  go_wp2_with fail
  have C4 := su8 v3 S R [e, c] S5.out R5.out (by simp) (by simp)
  simp only [List.getD_cons_zero, List.drop_succ_cons, List.drop_zero] at C4
  refine Calls.mono C4 ?_
  rintro e5 v4 ⟨rfl, h1, h2⟩
  have S6 := Lib.hid (S5.out.kept R5.out h2)
  have R6 := Lib.hid h1
  have K4 : Hid (Kept (fun k => k = R) w2 v4) := Lib.hid (K3.out.trans h2 (fun _ _ e => e))
  clear C4 h1 h2
  dsimp only
  refine ‹∀ (a : Act) (w : World), wpList Tryd.prog _ _ _ a w → _› _ _ ?_
  obtain ⟨M, hMs⟩ : ∃ M, M = v4.heap.size := ⟨_, rfl⟩
  obtain ⟨V, hV⟩ : ∃ V, V = v4.alloc (.cells Vz.toArray 37) := ⟨_, rfl⟩
  have hVn : V.heap[M]? = some (.cells Vz.toArray 37 (0, 0)) := by rw [hV, hMs]; exact heap_alloc_new _ _
  obtain ⟨U, hU⟩ : ∃ U, U = V.setCells M 0 (dm f t e 0).cells := ⟨_, rfl⟩
  have hkk := fun k (h : k ≠ M) => setCells_kept M (dm f t e 0).cells 0 V k h
  have hUb : Below v4.heap.size v4 U := by
    have hnz := fun k (h : k < v4.heap.size) => hkk k (by omega)
    refine ⟨?_, ?_, ?_, ?_, fun k hk => ?_⟩
    · rw [hU, (hkk (M + 1) (by omega)).2.2.1, hV]; rfl
    · rw [hU, (hkk (M + 1) (by omega)).2.2.2.1, hV]; rfl
    · rw [hU, (hkk (M + 1) (by omega)).2.2.2.2, hV]; rfl
    · rw [hU, (hkk (M + 1) (by omega)).2.1, hV]; simp
    · rw [hU, (hnz k hk).1, hV]; exact heap_alloc_old _ _ hk
  have hUM : U.heap[M]? = some (.cells (dm f t e 0).cells.toArray 37 (0, 0)) := by rw [hU, setCells_block _ 37 _ _ _ _ hVn, over_zero]
  have hth : V.there M 0 25 := fun i hi => by
    refine ⟨?_, frozen_of_row _ _ _ _ _ hVn⟩
    rw [cell_of_row _ _ _ _ _ _ hVn]; simp [Vz]; omega
  have BV4 : Below w.heap.size w v4 := by
    have h5 : Below W.heap.size W v4 := B2.out.trans (K4.out.below (B := W.heap.size) B2.out.size (fun k e => by rw [e]; exact HRW.out))
    exact HBL.out.trans (h5.mono HBL.out.size)
  have hG4 : v4.heap[w.heap.size]? = some (.cells Vz.toArray 37 (0, 0)) := by
    rw [K4.out.block _ (Nat.lt_of_lt_of_le (lt_of_block HG0.out) B2.out.size) (by have := HRW.out; have := lt_of_block HG0.out; omega), B2.out.block _ (lt_of_block HG0.out)]
    exact HG0.out
  have HSU := Lib.hid ((hUb.block S (lt_of_block S6.out)).trans S6.out)
  have HRU := Lib.hid (R6.out.below hUb)
  have HGU := Lib.hid ((hUb.block _ (lt_of_block hG4)).trans hG4)
  have HBU := Lib.hid (BV4.trans (hUb.mono BV4.size))
  have HUM := Lib.hid hUM
  have HMS := Lib.hid hMs
  have HTH := Lib.hid hth
  have HV := Lib.hid hV
  have HU := Lib.hid hU
  have HMG := Lib.hid (show M ≠ w.heap.size by have := lt_of_block hG4; omega)
  have HMBIG := Lib.hid (show w.heap.size < M by have := lt_of_block hG4; omega)
  have HMR := Lib.hid (show M ≠ R by have := R6.out.lt; omega)
  have HMS2 := Lib.hid (show M ≠ S by have := lt_of_block S6.out; omega)
  clear hVn hkk hUb hUM hth BV4 hG4 hMs hV hU S2 S3 S4 S5 S6 R2 R3 R4 R5 R6 K1 K2 K3 K4
  refine wpl_val (v := .agg (dm f t e 0).cells.toArray) (w1 := v4) rfl (by simp only [dm, Mg.cells, Rq.zero, Vt.zero]; go_simp) _ rfl ?_
  refine wpl_val (v := .pointer (some ⟨M, 0, none⟩)) (w1 := V) rfl (by have e1 := HV.out; simp only [Vz] at e1; rw [HMS.out, e1]; go_simp) _ rfl ?_
  refine wpList_store_mid rfl 37 (.tmp 5) (.tmp 24) rfl M 0 (dm f t e 0).cells.toArray rfl rfl HTH.out size37 (all_oneCell_toArray (dm f t e 0).one) ?_
  dsimp only
  rw [← HU.out]
  clear HTH HV HU HMS
  have q0 : U.cell? ⟨M, 0, none⟩ = some (.int .u8 8) := cell_box HUM.out 0
  generalize hD0 : (dm f t e 0).cells.toArray = D0
  go_wp2_with fail
  clear q0
  refine Calls.mono (parts_new 8 U) ?_
  rintro e6 wp ⟨ao2, rfl, hby2, hnb2, hbp⟩
  have e8 : partsOf 8 = [4] := rfl
  rw [e8] at hby2
  obtain ⟨ad, rfl, hc4⟩ := hby2 0 (by simp)
  have hadb := hnb2 ad rfl
  have HAD := Lib.hid hadb
  have P1 := Lib.hid hc4
  have Q1 := Lib.hid ((hbp.block M (lt_of_block HUM.out)).trans HUM.out)
  have Q2 := Lib.hid ((hbp.block S (lt_of_block HSU.out)).trans HSU.out)
  have Q3 := Lib.hid (HRU.out.below hbp)
  have Q4 := Lib.hid ((hbp.block _ (lt_of_block HGU.out)).trans HGU.out)
  have Q5 := Lib.hid (HBU.out.trans (hbp.mono HBU.out.size))
  have HU1 := Lib.hid (show M < U.heap.size from lt_of_block HUM.out)
  have HU2 := Lib.hid (show R < U.heap.size from HRU.out.lt)
  clear hby2 hnb2 hc4 hadb hbp
  simp only [e8, List.length_cons, List.length_nil, Nat.zero_add]
  clear e8
  go_wp2_with fail
  go_loopw [7, 29] (fun _ vi wr => ∃ j : Nat, vi = .int .i64 j ∧ ((j = 0 ∧ Hid (wr = wp)) ∨ (j = 1 ∧ Hid (wr.heap[M]? = some (.cells (dm f t e c).cells.toArray 37 (0, 0)) ∧ Src wr S R ∧ Rd wr R [] ∧ wr.heap[w.heap.size]? = some (.cells Vz.toArray 37 (0, 0)) ∧ Below w.heap.size w wr)))) (fun _ i _ => 1 - (intOf i).toNat)
  case atStart => exact ⟨0, rfl, .inl ⟨rfl, Lib.hid rfl⟩⟩
  case round =>
    obtain ⟨j, rfl, hjj⟩ := hrel
    rcases hjj with ⟨rfl, hwr⟩ | ⟨rfl, HH⟩
    · have hwr' := hwr.out
      subst hwr'
      clear hwr
      have hcell : wr.cell? (ad.add 0) = some (.int .u8 4) := P1.out
      have hcell0 : wr.cell? ad = some (.int .u8 4) := by rw [← add_zero ad]; exact P1.out
      have F := Lib.hid (read4 wr S R M c _ _ Q2.out Q3.out Q1.out (show _ = some (Value.int .u8 0) from rfl))
      rw [dm_step] at F
      go_wp2_with fail
      refine Calls.mono F.out ?_
      rintro e7 w7 ⟨rfl, h1, h2, h3⟩
      have HN : Hid (w7.heap[M]? = some (.cells (dm f t e c).cells.toArray 37 (0, 0)) ∧ Src w7 S R ∧ Rd w7 R [] ∧ w7.heap[w.heap.size]? = some (.cells Vz.toArray 37 (0, 0)) ∧ Below w.heap.size w w7) := by
        refine Lib.hid ⟨h2, ?_, h1, ?_, ?_⟩
        · unfold Src
          rw [h3.block S (lt_of_block Q2.out) (by rintro (e | e); exact Src.ne Q2.out Q3.out e; exact HMS2.out e.symm)]; exact Q2.out
        · rw [h3.block _ (lt_of_block Q4.out) (by
            rintro (e | e)
            · have := HRW.out; have := lt_of_block HG0.out; omega
            · exact HMG.out e.symm)]
          exact Q4.out
        · refine Q5.out.trans (h3.below (B := w.heap.size) Q5.out.size (fun k e => ?_))
          rcases e with e | e
          · have := HRW.out; have := lt_of_block HG0.out; omega
          · have := HMBIG.out; omega
      clear h1 h2 h3
      go_wp2_with fail
      go_round
      case measure => simp [intOf]
      case rel => exact ⟨1, by go_num, .inr ⟨rfl, HN⟩⟩
    · have hsf : wr.cell? ⟨S, 1, none⟩ = some (.int .i64 0) := by rw [cell_of_row _ _ _ _ _ _ HH.out.2.1]; rfl
      go_upto_region 12 with fail
      refine wp_region_lit ?_
      refine wpList_load_row rfl 37 (.tmp 5) rfl M rfl 37 _ (0, 0) _ HH.out.1 Tryd.underlying37 rfl size37 ?_
      go_wp2_with fail
      refine Calls.mono (CI.out _) ?_
      rintro e8 w8 ⟨rfl, hb8⟩
      have T1 := Lib.hid ((hb8.block M (lt_of_block HH.out.1)).trans HH.out.1)
      have T2 := (hb8.block S (lt_of_block HH.out.2.1)).trans HH.out.2.1
      have T3 := Lib.hid (HH.out.2.2.1.below hb8)
      have T4 := Lib.hid ((hb8.block _ (lt_of_block HH.out.2.2.2.1)).trans HH.out.2.2.2.1)
      have T5 := Lib.hid (HH.out.2.2.2.2.trans (hb8.mono HH.out.2.2.2.2.size))
      have hsr : w8.cell? ⟨S, 0, none⟩ = some (.pointer (some ⟨R, 0, none⟩)) := by rw [cell_of_row _ _ _ _ _ _ T2]; rfl
      clear T2 hb8 hsf
      go_wp2_with fail
      refine Calls.mono (left_any w8 R [] T3.out) ?_
      rintro e9 w9 ⟨rfl, rfl⟩
      go_upto_region 16 with fail
      have hth : w8.there w.heap.size 0 25 := fun i hi => by
        refine ⟨?_, frozen_of_row _ _ _ _ _ T4.out⟩
        rw [cell_of_row _ _ _ _ _ _ T4.out]; simp [Vz]; omega
      obtain ⟨wz, hwz⟩ : ∃ wz, wz = w8.setCells w.heap.size 0 (dm f t e c).cells := ⟨_, rfl⟩
      have hk := fun k (h : k ≠ w.heap.size) => setCells_kept w.heap.size (dm f t e c).cells 0 w8 k h
      have hbel : Below w.heap.size w wz := T5.out.trans (by rw [hwz]; exact ⟨(hk (w.heap.size + 1) (by omega)).2.2.1, (hk (w.heap.size + 1) (by omega)).2.2.2.1, (hk (w.heap.size + 1) (by omega)).2.2.2.2, by rw [(hk (w.heap.size + 1) (by omega)).2.1]; exact Nat.le_refl _, fun k h => (hk k (by omega)).1⟩)
      have hblk : wz.heap[w.heap.size]? = some (.cells (dm f t e c).cells.toArray 37 (0, 0)) := by rw [hwz, setCells_block _ 37 _ _ _ _ T4.out, over_zero]
      refine wp_region_lit ?_
      refine wpList_load_row rfl 37 (.tmp 5) rfl M rfl 37 _ (0, 0) _ T1.out Tryd.underlying37 rfl size37 ?_
      refine wpList_store_mid rfl 37 (.tmp 2) (.tmp 61) rfl w.heap.size 0 (dm f t e c).cells.toArray rfl rfl hth size37 (all_oneCell_toArray (dm f t e c).one) ?_
      dsimp only
      rw [← hwz]
      have HBLK := Lib.hid hblk
      have HBEL := Lib.hid hbel
      clear hth hk hbel hblk hwz hsr
      go_wp2_with fail
      (try simp only [Exit.inBlock, Exit.then])
      refine bodyPost_ret (v := .tuple #[.agg (dm f t e c).cells.toArray, .int .i64 0]) ?_ rfl ⟨rfl, HBEL.out⟩
      rw [results_cell_tmp rfl]
      have hlv := run_loadVar_row (P := Tryd.prog) wz w.heap.size 37 37 _ (0, 0) _ HBLK.out Tryd.underlying37 rfl size37
      show ((asAddr (.pointer (some ⟨w.heap.size, 0, none⟩))).run Tryd.prog wz).andThen (fun a w₁ => ((loadVar 37 a).run Tryd.prog w₁).andThen fun v w₂ => .ok (Value.tuple #[v, Value.int .i64 0]) w₂) = _
      simp only [asAddr, Sem.run_pure, Result.andThen_ok, hlv]

theorem size27 : (Tryd.prog.info? 27).map (·.size) = some 5 := by kernel_rfl

theorem wpl_valg {P : Program} {ops : Array Oper} {Q : Exit → Act → World → Prop} {o : Oper} {rest : List Oper} {a : Act} {w w1 : World} {v : Value} (hw : Region.wanted o (yielded ops a.tmps) = true) (h : (execOp a.eval o).run P w = .ok (.value v) w1) (a' : Act) (ha : a.put o.dst v = a')
    (k : wpList P ops Q rest a' w1) : wpList P ops Q (o :: rest) a w := by
  subst ha
  unfold wpList
  rw [if_pos hw]
  refine .inl ?_
  unfold Oper.wp
  rw [h]; exact k

theorem exec_load {P : Program} {o : Oper} {a : Act} {w : World} {p v : Value} (ty : TypeId) (x : Operand) (ho : o.op = .load ty x) (hx : a.eval x = p) (h : (Instr.loadAt ty p).run P w = .ok v w) : (execOp a.eval o).run P w = .ok (.value v) w := by
  unfold execOp
  simp only [ho, hx, Sem.run_bind, h, Result.andThen_ok, Sem.run_pure]

def km : Mg := dm 1 2 3 3
def km1 : Mg := { dm 1 2 3 3 with vw := 1 }
theorem km_set : (km.cells.toArray).setIfInBounds 4 (.int .u32 1) = km1.cells.toArray := rfl
theorem km1_at (w : World) : MgAt w km1 Mc.nil := ⟨(dm_at w 1 2 3 3).vt, (dm_at w 1 2 3 3).vs, (dm_at w 1 2 3 3).sm, (dm_at w 1 2 3 3).dt⟩
theorem km_is : isB km Mc.nil false false = true := by decide
theorem km1_is : isB km1 Mc.nil false false = false := by decide
theorem km_parts : partsOf km.k = [4] := rfl
theorem km_enc : encUp km (wordB km) (partsOf km.k) = [8, 1, 2, 3, 3] := by decide
theorem kr_text : (Rq.mk 1 2 1 3 4).text = [49, 58, 50, 58, 49, 58, 51, 58, 52] := by
  have h1 : dg 1 = [49] := Lib.decDigits_one (by decide)
  have h2 : dg 2 = [50] := Lib.decDigits_one (by decide)
  have h3 : dg 3 = [51] := Lib.decDigits_one (by decide)
  have h4 : dg 4 = [52] := Lib.decDigits_one (by decide)
  simp only [Rq.text, h1, h2, h3, h4]; rfl

theorem is_km (w : World) : Calls Tryd.prog 13 #[.agg km.cells.toArray] w fun e w' => e = .returned (.bool true) ∧ Below w.heap.size w w' := by
  have h := is_any w km Mc.nil (dm_at w 1 2 3 3) false false (fun h => by rw [km_parts] at h; simp at h) (fun h => by rw [km_parts] at h; simp at h)
  rw [km_is] at h; exact h
theorem is_km1 (w : World) : Calls Tryd.prog 13 #[.agg km1.cells.toArray] w fun e w' => e = .returned (.bool false) ∧ Below w.heap.size w w' := by
  have h := is_any w km1 Mc.nil (km1_at w) false false (fun h => by have e : partsOf km1.k = [4] := rfl; rw [e] at h; simp at h) (fun h => by have e : partsOf km1.k = [4] := rfl; rw [e] at h; simp at h)
  rw [km1_is] at h; exact h
theorem enc_km (w : World) : Calls Tryd.prog 10 #[.agg km.cells.toArray] w fun e w' => ∃ ao c, e = .returned (.tuple #[.slice ao 5 c, .int .i64 0]) ∧ New w.heap.size w' ao c [8, 1, 2, 3, 3] ∧ Below w.heap.size w w' := by
  have h := encode_any w km true (wordB km) (fun p hp => by rw [km_parts] at hp; simp at hp; subst hp; decide) (fun w1 _ => is_km w1) (fun _ p hp W0 w1 B g xs _ hW hl => by rw [km_parts] at hp; simp at hp; subst hp; exact write_wr W0 w1 B g xs km 4 (by decide) (by decide) hW hl)
  refine Calls.mono h ?_
  rintro e w' ⟨-, h2, -, h4⟩
  rw [km_enc] at h2
  obtain ⟨ao, c, h5, h6⟩ := h2 rfl (by decide)
  exact ⟨ao, c, h5, h6, h4⟩
theorem dec_km (w : World) (ao : Option Addr) (c : Nat) (h : Bytes w ao [8, 1, 2, 3, 3]) (hno : ao = none → False) : Calls Tryd.prog 11 #[.slice ao 5 c] w fun e w' => e = .returned (.tuple #[.agg km.cells.toArray, .int .i64 0]) ∧ Below w.heap.size w w' :=
  decode_count w ao c 1 2 3 3 h hno (by intro x hx; simp at hx; unfold isByte; omega) km_is
theorem put_any (w : World) : Calls Tryd.prog 28 #[.int .u8 1, .int .u32 2, .int .u8 3, .int .u16 4] w fun e w' => e = .returned (.agg (Rq.mk 1 2 1 3 4).cells.toArray) ∧ Below w.heap.size w w' := by
  simp only [Rq.cells]
  go_enter Tryd.func28, Tryd.ntmps28
  go_wp2_with fail
  (try simp only [Exit.inBlock, Exit.then])
  refine bodyPost_ret (results_cell_row (P := Tryd.prog) rfl _ _ w.heap.size 27 _ (0, 0) _ rfl (heap_alloc_new _ _) Tryd.underlying27 rfl size27) rfl ?_
  exact ⟨rfl, (Below.refl _ _).alloc (Nat.le_refl _) _⟩

set_option maxHeartbeats 8000000 in
theorem known_any (w : World) (ht : Tab w) : Calls Tryd.prog 8 #[] w fun e w' => e = .returned (.bool true) ∧ Below w.heap.size w w' := by
  obtain ⟨V, hV⟩ : ∃ V, V = w.alloc (.cells Vz.toArray 37) := ⟨_, rfl⟩
  have hVn : V.heap[w.heap.size]? = some (.cells Vz.toArray 37 (0, 0)) := by rw [hV]; exact heap_alloc_new _ _
  obtain ⟨U, hU⟩ : ∃ U, U = V.setCells w.heap.size 0 km.cells := ⟨_, rfl⟩
  have hkk := fun k (h : k ≠ w.heap.size) => setCells_kept w.heap.size km.cells 0 V k h
  have hUb : Below w.heap.size w U := by
    refine ⟨?_, ?_, ?_, ?_, fun k hk => ?_⟩
    · rw [hU, (hkk (w.heap.size + 1) (by omega)).2.2.1, hV]; rfl
    · rw [hU, (hkk (w.heap.size + 1) (by omega)).2.2.2.1, hV]; rfl
    · rw [hU, (hkk (w.heap.size + 1) (by omega)).2.2.2.2, hV]; rfl
    · rw [hU, (hkk (w.heap.size + 1) (by omega)).2.1, hV]; simp
    · rw [hU, (hkk k (by omega)).1, hV]; exact heap_alloc_old _ _ hk
  have hUM : U.heap[w.heap.size]? = some (.cells km.cells.toArray 37 (0, 0)) := by rw [hU, setCells_block _ 37 _ _ _ _ hVn, over_zero]
  have hth : V.there w.heap.size 0 25 := fun i hi => by
    refine ⟨?_, frozen_of_row _ _ _ _ _ hVn⟩
    rw [cell_of_row _ _ _ _ _ _ hVn]; simp [Vz]; omega
  have HTH := Lib.hid hth
  have HV := Lib.hid hV
  have HU := Lib.hid hU
  have HUB := Lib.hid hUb
  have HUM := Lib.hid hUM
  have HT := Lib.hid ht
  clear hV hVn hU hkk hUb hUM hth ht
  go_enter Tryd.func8, Tryd.ntmps8
  go_upto_region 1 with fail
  refine wp_region_lit ?_
  refine wpl_val (v := .agg km.cells.toArray) (w1 := w) rfl (by simp only [km, dm, Mg.cells, Rq.zero, Vt.zero]; go_simp) _ rfl ?_
  refine wpl_val (v := .pointer (some ⟨w.heap.size, 0, none⟩)) (w1 := V) rfl (by have e1 := HV.out; simp only [Vz] at e1; rw [e1]; go_simp) _ rfl ?_
  refine wpList_store_mid rfl 37 (.tmp 1) (.tmp 6) rfl w.heap.size 0 km.cells.toArray rfl rfl HTH.out size37 (all_oneCell_toArray km.one) ?_
  dsimp only
  rw [← HU.out]
  clear HTH HV HU
  generalize hA0 : km.cells.toArray = A0 at *
  have HA0 := Lib.hid hA0
  clear hA0
  go_upto_region 2 with fail
  refine wp_region_lit ?_
  refine wpList_load_row rfl 37 (.tmp 1) rfl w.heap.size rfl 37 _ (0, 0) _ HUM.out Tryd.underlying37 rfl (by rw [← HA0.out]; exact size37) ?_
  go_wp2_with fail
  have CE := enc_km U
  rw [HA0.out] at CE
  refine Calls.mono CE ?_
  rintro e1 w1 ⟨ao, c, rfl, hnew, hb1⟩
  have hby := own_bytes hnew.1
  have hno : ao = none → False := fun h => by have := (hnew.none h).1; simp at this
  have HAO := Lib.hid (fun ad (e : ao = some ad) => Nat.lt_of_lt_of_le (lt_of_block HUM.out) (hnew.2 ad e))
  have CD := dec_km w1 ao c hby hno
  rw [HA0.out] at CD
  have HBY := Lib.hid hby
  have HNO := Lib.hid hno
  have X1 := Lib.hid ((hb1.block _ (lt_of_block HUM.out)).trans HUM.out)
  have B1 := Lib.hid (HUB.out.trans (hb1.mono HUB.out.size))
  have HCD := Lib.hid CD
  clear hnew hb1 hby hno CE CD
  go_wp2_with fail
  refine Calls.mono HCD.out ?_
  rintro e2 w2 ⟨rfl, hb2⟩
  have X2 : w2.heap[w.heap.size]? = some (.cells A0 37 (0, 0)) := (hb2.block _ (lt_of_block X1.out)).trans X1.out
  have B2 := B1.out.trans (hb2.mono B1.out.size)
  have Y2 := bytes_below HBY.out hb2 (Nat.le_refl _)
  obtain ⟨M, hMs⟩ : ∃ M, M = w2.heap.size := ⟨_, rfl⟩
  obtain ⟨V2, hV2⟩ : ∃ V2, V2 = w2.alloc (.cells Vz.toArray 37) := ⟨_, rfl⟩
  have hVn : V2.heap[M]? = some (.cells Vz.toArray 37 (0, 0)) := by rw [hV2, hMs]; exact heap_alloc_new _ _
  obtain ⟨U2, hU2⟩ : ∃ U2, U2 = V2.setCells M 0 km.cells := ⟨_, rfl⟩
  have hkk := fun k (h : k ≠ M) => setCells_kept M km.cells 0 V2 k h
  have hUb : Below w2.heap.size w2 U2 := by
    have hnz := fun k (h : k < w2.heap.size) => hkk k (by omega)
    refine ⟨?_, ?_, ?_, ?_, fun k hk => ?_⟩
    · rw [hU2, (hkk (M + 1) (by omega)).2.2.1, hV2]; rfl
    · rw [hU2, (hkk (M + 1) (by omega)).2.2.2.1, hV2]; rfl
    · rw [hU2, (hkk (M + 1) (by omega)).2.2.2.2, hV2]; rfl
    · rw [hU2, (hkk (M + 1) (by omega)).2.1, hV2]; simp
    · rw [hU2, (hnz k hk).1, hV2]; exact heap_alloc_old _ _ hk
  have hUM : U2.heap[M]? = some (.cells km.cells.toArray 37 (0, 0)) := by rw [hU2, setCells_block _ 37 _ _ _ _ hVn, over_zero]
  have hth : V2.there M 0 25 := fun i hi => by
    refine ⟨?_, frozen_of_row _ _ _ _ _ hVn⟩
    rw [cell_of_row _ _ _ _ _ _ hVn]; simp [Vz]; omega
  have hGlt := lt_of_block X2
  have hGM : w.heap.size ≠ M := by omega
  have hG2 : U2.heap[w.heap.size]? = some (.cells km.cells.toArray 37 (0, 0)) := by rw [hUb.block _ hGlt, X2, HA0.out]
  have Y3 := bytes_below Y2 hUb (Nat.le_refl _)
  have B3 := B2.trans (hUb.mono B2.size)
  obtain ⟨U3, hU3⟩ : ∃ U3, U3 = U2.setCell ⟨w.heap.size, 4, none⟩ (.int .u32 1) := ⟨_, rfl⟩
  have hG3 : U3.heap[w.heap.size]? = some (.cells km1.cells.toArray 37 (0, 0)) := by rw [hU3, heap_setCell_same _ _ _ _ _ _ hG2, km_set]
  have hM3 : U3.heap[M]? = some (.cells km.cells.toArray 37 (0, 0)) := by rw [hU3, heap_setCell_other _ _ _ _ (by simpa using fun e => hGM e.symm)]; exact hUM
  have K3 : Kept (fun k => k = w.heap.size) U2 U3 := by rw [hU3]; exact (Kept.refl _ _).setCell _ _ (fun _ => rfl)
  have Y4 : Bytes U3 ao [8, 1, 2, 3, 3] := bytes_kept Y3 K3 (fun ad e _ h => by have := HAO.out ad e; omega)
  have B4 : Below w.heap.size w U3 := B3.trans (K3.below (B := w.heap.size) B3.size (fun k e => by omega))
  have hstr : (convert 35 9 (.slice ao 5 c)).run Tryd.prog U3 = .ok (.string ⟨#[8, 1, 2, 3, 3]⟩) U3 := str_bytes (l := [8, 1, 2, 3, 3]) Y4 (fun h => (HNO.out h).elim)
  have c4 : U2.cell? ⟨w.heap.size, 4, none⟩ = some (.int .u32 0) := cell_box (m := km) hG2 4
  have f4 : U2.frozen? ⟨w.heap.size, 4, none⟩ = false := frozen_of_row _ _ _ _ _ hG2
  have HZ := Lib.hid (msg_load (m := km1) hG3)
  have cM : U3.cell? ⟨M, 12, none⟩ = some (.int .u8 3) := cell_box (m := km) hM3 12
  have HTH := Lib.hid hth
  have HV2 := Lib.hid hV2
  have HMS := Lib.hid hMs
  have HU2 := Lib.hid hU2
  have HU3 := Lib.hid hU3
  have HB4 := Lib.hid B4
  have HST := Lib.hid hstr
  have HTB := Lib.hid (Tab.on HT.out B4)
  clear hb2 X2 B2 Y2 hMs hV2 hVn hU2 hkk hUb hUM hth hGlt hGM hG2 Y3 B3 hU3 hG3 hM3 K3 Y4 B4 hstr
  dsimp only
  refine ‹∀ (a : Act) (w : World), wpList Tryd.prog _ _ _ a w → _› _ _ ?_
  refine wpl_val (v := .tuple #[.agg A0, .int .i64 0]) (w1 := w2) rfl rfl _ rfl ?_
  refine wpl_val (v := .agg A0) (w1 := w2) rfl (by go_simp) _ rfl ?_
  refine wpl_val (v := .int .i64 0) (w1 := w2) rfl (by go_simp) _ rfl ?_
  refine wpl_val (v := .pointer (some ⟨M, 0, none⟩)) (w1 := V2) rfl (by have e1 := HV2.out; simp only [Vz] at e1; rw [HMS.out, e1]; go_simp) _ rfl ?_
  refine wpList_store_mid rfl 37 (.tmp 4) (.tmp 15) rfl M 0 km.cells.toArray rfl (by rw [HA0.out]; rfl) HTH.out size37 (all_oneCell_toArray km.one) ?_
  dsimp only
  rw [← HU2.out]
  clear HTH HV2 HMS HU2
  go_upto_region 5 with fail
  rw [← HU3.out]
  clear HU3 c4 f4
  have hstr := HST.out
  refine wp_region_lit ?_
  refine wpl_val (v := .int .i64 0) (w1 := U3) rfl (rfl) ({ tmps := #[.bool false, .pointer (some ⟨w.heap.size, 0, none⟩), .slice ao 5 c, .int .i64 0, .pointer (some ⟨M, 0, none⟩), .int .i64 0, .agg A0, .tuple #[.slice ao 5 c, .int .i64 0], .agg A0, .tuple #[.slice ao 5 c, .int .i64 0], .slice ao 5 c, .int .i64 0, .tuple #[.agg A0, .int .i64 0], .slice ao 5 c, .tuple #[.agg A0, .int .i64 0], .agg A0, .int .i64 0, .pointer (some ⟨w.heap.size, 4, none⟩), .int .i64 0, undef, undef, undef, undef, undef, undef, undef, undef, undef, undef, undef, undef, undef, undef, undef, undef, undef, undef, undef, undef, undef, undef, undef, undef, undef], defers := [] }) rfl ?_
  refine wpl_val (v := .bool true) (w1 := U3) rfl (by go_simp) ({ tmps := #[.bool false, .pointer (some ⟨w.heap.size, 0, none⟩), .slice ao 5 c, .int .i64 0, .pointer (some ⟨M, 0, none⟩), .int .i64 0, .agg A0, .tuple #[.slice ao 5 c, .int .i64 0], .agg A0, .tuple #[.slice ao 5 c, .int .i64 0], .slice ao 5 c, .int .i64 0, .tuple #[.agg A0, .int .i64 0], .slice ao 5 c, .tuple #[.agg A0, .int .i64 0], .agg A0, .int .i64 0, .pointer (some ⟨w.heap.size, 4, none⟩), .int .i64 0, .bool true, undef, undef, undef, undef, undef, undef, undef, undef, undef, undef, undef, undef, undef, undef, undef, undef, undef, undef, undef, undef, undef, undef, undef, undef], defers := [] }) rfl ?_
  refine wpl_val (v := .bool true) (w1 := U3) rfl (rfl) ({ tmps := #[.bool false, .pointer (some ⟨w.heap.size, 0, none⟩), .slice ao 5 c, .int .i64 0, .pointer (some ⟨M, 0, none⟩), .int .i64 0, .agg A0, .tuple #[.slice ao 5 c, .int .i64 0], .agg A0, .tuple #[.slice ao 5 c, .int .i64 0], .slice ao 5 c, .int .i64 0, .tuple #[.agg A0, .int .i64 0], .slice ao 5 c, .tuple #[.agg A0, .int .i64 0], .agg A0, .int .i64 0, .pointer (some ⟨w.heap.size, 4, none⟩), .int .i64 0, .bool true, .bool true, undef, undef, undef, undef, undef, undef, undef, undef, undef, undef, undef, undef, undef, undef, undef, undef, undef, undef, undef, undef, undef, undef, undef], defers := [] }) rfl ?_
  refine wpl_valg (v := .int .i64 0) (w1 := U3) rfl (rfl) ({ tmps := #[.bool false, .pointer (some ⟨w.heap.size, 0, none⟩), .slice ao 5 c, .int .i64 0, .pointer (some ⟨M, 0, none⟩), .int .i64 0, .agg A0, .tuple #[.slice ao 5 c, .int .i64 0], .agg A0, .tuple #[.slice ao 5 c, .int .i64 0], .slice ao 5 c, .int .i64 0, .tuple #[.agg A0, .int .i64 0], .slice ao 5 c, .tuple #[.agg A0, .int .i64 0], .agg A0, .int .i64 0, .pointer (some ⟨w.heap.size, 4, none⟩), .int .i64 0, .bool true, .bool true, .int .i64 0, undef, undef, undef, undef, undef, undef, undef, undef, undef, undef, undef, undef, undef, undef, undef, undef, undef, undef, undef, undef, undef, undef], defers := [] }) rfl ?_
  refine wpl_valg (v := .bool true) (w1 := U3) rfl (by go_simp) ({ tmps := #[.bool false, .pointer (some ⟨w.heap.size, 0, none⟩), .slice ao 5 c, .int .i64 0, .pointer (some ⟨M, 0, none⟩), .int .i64 0, .agg A0, .tuple #[.slice ao 5 c, .int .i64 0], .agg A0, .tuple #[.slice ao 5 c, .int .i64 0], .slice ao 5 c, .int .i64 0, .tuple #[.agg A0, .int .i64 0], .slice ao 5 c, .tuple #[.agg A0, .int .i64 0], .agg A0, .int .i64 0, .pointer (some ⟨w.heap.size, 4, none⟩), .int .i64 0, .bool true, .bool true, .int .i64 0, .bool true, undef, undef, undef, undef, undef, undef, undef, undef, undef, undef, undef, undef, undef, undef, undef, undef, undef, undef, undef, undef, undef], defers := [] }) rfl ?_
  refine wpl_val (v := .bool true) (w1 := U3) rfl (rfl) ({ tmps := #[.bool false, .pointer (some ⟨w.heap.size, 0, none⟩), .slice ao 5 c, .int .i64 0, .pointer (some ⟨M, 0, none⟩), .int .i64 0, .agg A0, .tuple #[.slice ao 5 c, .int .i64 0], .agg A0, .tuple #[.slice ao 5 c, .int .i64 0], .slice ao 5 c, .int .i64 0, .tuple #[.agg A0, .int .i64 0], .slice ao 5 c, .tuple #[.agg A0, .int .i64 0], .agg A0, .int .i64 0, .pointer (some ⟨w.heap.size, 4, none⟩), .int .i64 0, .bool true, .bool true, .int .i64 0, .bool true, .bool true, undef, undef, undef, undef, undef, undef, undef, undef, undef, undef, undef, undef, undef, undef, undef, undef, undef, undef, undef, undef], defers := [] }) rfl ?_
  refine wpl_val (v := .bool true) (w1 := U3) rfl (rfl) ({ tmps := #[.bool false, .pointer (some ⟨w.heap.size, 0, none⟩), .slice ao 5 c, .int .i64 0, .pointer (some ⟨M, 0, none⟩), .int .i64 0, .agg A0, .tuple #[.slice ao 5 c, .int .i64 0], .agg A0, .tuple #[.slice ao 5 c, .int .i64 0], .slice ao 5 c, .int .i64 0, .tuple #[.agg A0, .int .i64 0], .slice ao 5 c, .tuple #[.agg A0, .int .i64 0], .agg A0, .int .i64 0, .pointer (some ⟨w.heap.size, 4, none⟩), .int .i64 0, .bool true, .bool true, .int .i64 0, .bool true, .bool true, .bool true, undef, undef, undef, undef, undef, undef, undef, undef, undef, undef, undef, undef, undef, undef, undef, undef, undef, undef, undef], defers := [] }) rfl ?_
  refine wpl_valg (v := .slice ao 5 c) (w1 := U3) rfl (rfl) ({ tmps := #[.bool false, .pointer (some ⟨w.heap.size, 0, none⟩), .slice ao 5 c, .int .i64 0, .pointer (some ⟨M, 0, none⟩), .int .i64 0, .agg A0, .tuple #[.slice ao 5 c, .int .i64 0], .agg A0, .tuple #[.slice ao 5 c, .int .i64 0], .slice ao 5 c, .int .i64 0, .tuple #[.agg A0, .int .i64 0], .slice ao 5 c, .tuple #[.agg A0, .int .i64 0], .agg A0, .int .i64 0, .pointer (some ⟨w.heap.size, 4, none⟩), .int .i64 0, .bool true, .bool true, .int .i64 0, .bool true, .bool true, .bool true, .slice ao 5 c, undef, undef, undef, undef, undef, undef, undef, undef, undef, undef, undef, undef, undef, undef, undef, undef, undef, undef], defers := [] }) rfl ?_
  refine wpl_valg (v := .string ⟨#[8, 1, 2, 3, 3]⟩) (w1 := U3) rfl (by go_simp) ({ tmps := #[.bool false, .pointer (some ⟨w.heap.size, 0, none⟩), .slice ao 5 c, .int .i64 0, .pointer (some ⟨M, 0, none⟩), .int .i64 0, .agg A0, .tuple #[.slice ao 5 c, .int .i64 0], .agg A0, .tuple #[.slice ao 5 c, .int .i64 0], .slice ao 5 c, .int .i64 0, .tuple #[.agg A0, .int .i64 0], .slice ao 5 c, .tuple #[.agg A0, .int .i64 0], .agg A0, .int .i64 0, .pointer (some ⟨w.heap.size, 4, none⟩), .int .i64 0, .bool true, .bool true, .int .i64 0, .bool true, .bool true, .bool true, .slice ao 5 c, .string ⟨#[8, 1, 2, 3, 3]⟩, undef, undef, undef, undef, undef, undef, undef, undef, undef, undef, undef, undef, undef, undef, undef, undef, undef], defers := [] }) rfl ?_
  refine wpl_valg (v := .bool true) (w1 := U3) rfl (by go_simp) ({ tmps := #[.bool false, .pointer (some ⟨w.heap.size, 0, none⟩), .slice ao 5 c, .int .i64 0, .pointer (some ⟨M, 0, none⟩), .int .i64 0, .agg A0, .tuple #[.slice ao 5 c, .int .i64 0], .agg A0, .tuple #[.slice ao 5 c, .int .i64 0], .slice ao 5 c, .int .i64 0, .tuple #[.agg A0, .int .i64 0], .slice ao 5 c, .tuple #[.agg A0, .int .i64 0], .agg A0, .int .i64 0, .pointer (some ⟨w.heap.size, 4, none⟩), .int .i64 0, .bool true, .bool true, .int .i64 0, .bool true, .bool true, .bool true, .slice ao 5 c, .string ⟨#[8, 1, 2, 3, 3]⟩, .bool true, undef, undef, undef, undef, undef, undef, undef, undef, undef, undef, undef, undef, undef, undef, undef, undef], defers := [] }) rfl ?_
  refine wpl_val (v := .bool true) (w1 := U3) rfl (rfl) ({ tmps := #[.bool false, .pointer (some ⟨w.heap.size, 0, none⟩), .slice ao 5 c, .int .i64 0, .pointer (some ⟨M, 0, none⟩), .int .i64 0, .agg A0, .tuple #[.slice ao 5 c, .int .i64 0], .agg A0, .tuple #[.slice ao 5 c, .int .i64 0], .slice ao 5 c, .int .i64 0, .tuple #[.agg A0, .int .i64 0], .slice ao 5 c, .tuple #[.agg A0, .int .i64 0], .agg A0, .int .i64 0, .pointer (some ⟨w.heap.size, 4, none⟩), .int .i64 0, .bool true, .bool true, .int .i64 0, .bool true, .bool true, .bool true, .slice ao 5 c, .string ⟨#[8, 1, 2, 3, 3]⟩, .bool true, .bool true, undef, undef, undef, undef, undef, undef, undef, undef, undef, undef, undef, undef, undef, undef, undef], defers := [] }) rfl ?_
  refine wpl_val (v := .bool true) (w1 := U3) rfl (rfl) ({ tmps := #[.bool false, .pointer (some ⟨w.heap.size, 0, none⟩), .slice ao 5 c, .int .i64 0, .pointer (some ⟨M, 0, none⟩), .int .i64 0, .agg A0, .tuple #[.slice ao 5 c, .int .i64 0], .agg A0, .tuple #[.slice ao 5 c, .int .i64 0], .slice ao 5 c, .int .i64 0, .tuple #[.agg A0, .int .i64 0], .slice ao 5 c, .tuple #[.agg A0, .int .i64 0], .agg A0, .int .i64 0, .pointer (some ⟨w.heap.size, 4, none⟩), .int .i64 0, .bool true, .bool true, .int .i64 0, .bool true, .bool true, .bool true, .slice ao 5 c, .string ⟨#[8, 1, 2, 3, 3]⟩, .bool true, .bool true, .bool true, undef, undef, undef, undef, undef, undef, undef, undef, undef, undef, undef, undef, undef, undef], defers := [] }) rfl ?_
  refine wpl_valg (v := .pointer (some ⟨M, 12, none⟩)) (w1 := U3) rfl (by go_simp) ({ tmps := #[.bool false, .pointer (some ⟨w.heap.size, 0, none⟩), .slice ao 5 c, .int .i64 0, .pointer (some ⟨M, 0, none⟩), .int .i64 0, .agg A0, .tuple #[.slice ao 5 c, .int .i64 0], .agg A0, .tuple #[.slice ao 5 c, .int .i64 0], .slice ao 5 c, .int .i64 0, .tuple #[.agg A0, .int .i64 0], .slice ao 5 c, .tuple #[.agg A0, .int .i64 0], .agg A0, .int .i64 0, .pointer (some ⟨w.heap.size, 4, none⟩), .int .i64 0, .bool true, .bool true, .int .i64 0, .bool true, .bool true, .bool true, .slice ao 5 c, .string ⟨#[8, 1, 2, 3, 3]⟩, .bool true, .bool true, .bool true, .pointer (some ⟨M, 12, none⟩), undef, undef, undef, undef, undef, undef, undef, undef, undef, undef, undef, undef, undef], defers := [] }) rfl ?_
  refine wpl_valg (v := .int .u8 3) (w1 := U3) rfl (by go_simp) ({ tmps := #[.bool false, .pointer (some ⟨w.heap.size, 0, none⟩), .slice ao 5 c, .int .i64 0, .pointer (some ⟨M, 0, none⟩), .int .i64 0, .agg A0, .tuple #[.slice ao 5 c, .int .i64 0], .agg A0, .tuple #[.slice ao 5 c, .int .i64 0], .slice ao 5 c, .int .i64 0, .tuple #[.agg A0, .int .i64 0], .slice ao 5 c, .tuple #[.agg A0, .int .i64 0], .agg A0, .int .i64 0, .pointer (some ⟨w.heap.size, 4, none⟩), .int .i64 0, .bool true, .bool true, .int .i64 0, .bool true, .bool true, .bool true, .slice ao 5 c, .string ⟨#[8, 1, 2, 3, 3]⟩, .bool true, .bool true, .bool true, .pointer (some ⟨M, 12, none⟩), .int .u8 3, undef, undef, undef, undef, undef, undef, undef, undef, undef, undef, undef, undef], defers := [] }) rfl ?_
  refine wpl_valg (v := .bool true) (w1 := U3) rfl (by go_simp) ({ tmps := #[.bool false, .pointer (some ⟨w.heap.size, 0, none⟩), .slice ao 5 c, .int .i64 0, .pointer (some ⟨M, 0, none⟩), .int .i64 0, .agg A0, .tuple #[.slice ao 5 c, .int .i64 0], .agg A0, .tuple #[.slice ao 5 c, .int .i64 0], .slice ao 5 c, .int .i64 0, .tuple #[.agg A0, .int .i64 0], .slice ao 5 c, .tuple #[.agg A0, .int .i64 0], .agg A0, .int .i64 0, .pointer (some ⟨w.heap.size, 4, none⟩), .int .i64 0, .bool true, .bool true, .int .i64 0, .bool true, .bool true, .bool true, .slice ao 5 c, .string ⟨#[8, 1, 2, 3, 3]⟩, .bool true, .bool true, .bool true, .pointer (some ⟨M, 12, none⟩), .int .u8 3, .bool true, undef, undef, undef, undef, undef, undef, undef, undef, undef, undef, undef], defers := [] }) rfl ?_
  refine wpl_val (v := .bool true) (w1 := U3) rfl (rfl) ({ tmps := #[.bool false, .pointer (some ⟨w.heap.size, 0, none⟩), .slice ao 5 c, .int .i64 0, .pointer (some ⟨M, 0, none⟩), .int .i64 0, .agg A0, .tuple #[.slice ao 5 c, .int .i64 0], .agg A0, .tuple #[.slice ao 5 c, .int .i64 0], .slice ao 5 c, .int .i64 0, .tuple #[.agg A0, .int .i64 0], .slice ao 5 c, .tuple #[.agg A0, .int .i64 0], .agg A0, .int .i64 0, .pointer (some ⟨w.heap.size, 4, none⟩), .int .i64 0, .bool true, .bool true, .int .i64 0, .bool true, .bool true, .bool true, .slice ao 5 c, .string ⟨#[8, 1, 2, 3, 3]⟩, .bool true, .bool true, .bool true, .pointer (some ⟨M, 12, none⟩), .int .u8 3, .bool true, .bool true, undef, undef, undef, undef, undef, undef, undef, undef, undef, undef], defers := [] }) rfl ?_
  refine wpl_val (v := .bool true) (w1 := U3) rfl (rfl) ({ tmps := #[.bool false, .pointer (some ⟨w.heap.size, 0, none⟩), .slice ao 5 c, .int .i64 0, .pointer (some ⟨M, 0, none⟩), .int .i64 0, .agg A0, .tuple #[.slice ao 5 c, .int .i64 0], .agg A0, .tuple #[.slice ao 5 c, .int .i64 0], .slice ao 5 c, .int .i64 0, .tuple #[.agg A0, .int .i64 0], .slice ao 5 c, .tuple #[.agg A0, .int .i64 0], .agg A0, .int .i64 0, .pointer (some ⟨w.heap.size, 4, none⟩), .int .i64 0, .bool true, .bool true, .int .i64 0, .bool true, .bool true, .bool true, .slice ao 5 c, .string ⟨#[8, 1, 2, 3, 3]⟩, .bool true, .bool true, .bool true, .pointer (some ⟨M, 12, none⟩), .int .u8 3, .bool true, .bool true, .bool true, undef, undef, undef, undef, undef, undef, undef, undef, undef], defers := [] }) rfl ?_
  refine wpl_valg (v := .agg km1.cells.toArray) (w1 := U3) rfl (exec_load 37 (.tmp 1) rfl rfl HZ.out) ({ tmps := #[.bool false, .pointer (some ⟨w.heap.size, 0, none⟩), .slice ao 5 c, .int .i64 0, .pointer (some ⟨M, 0, none⟩), .int .i64 0, .agg A0, .tuple #[.slice ao 5 c, .int .i64 0], .agg A0, .tuple #[.slice ao 5 c, .int .i64 0], .slice ao 5 c, .int .i64 0, .tuple #[.agg A0, .int .i64 0], .slice ao 5 c, .tuple #[.agg A0, .int .i64 0], .agg A0, .int .i64 0, .pointer (some ⟨w.heap.size, 4, none⟩), .int .i64 0, .bool true, .bool true, .int .i64 0, .bool true, .bool true, .bool true, .slice ao 5 c, .string ⟨#[8, 1, 2, 3, 3]⟩, .bool true, .bool true, .bool true, .pointer (some ⟨M, 12, none⟩), .int .u8 3, .bool true, .bool true, .bool true, .agg km1.cells.toArray, undef, undef, undef, undef, undef, undef, undef, undef], defers := [] }) rfl ?_
  have C1 := is_km1 U3
  generalize km1.cells.toArray = A1 at C1 ⊢
  clear hstr cM
  go_wp2_with fail
  refine Calls.mono C1 ?_
  rintro e3 w3 ⟨rfl, hb3⟩
  have HB3 := Lib.hid hb3
  clear hb3 C1
  go_wp2_with fail
  refine Calls.mono (put_any w3) ?_
  rintro e4 w4 ⟨rfl, hb4⟩
  have hB : Below U3.heap.size U3 w4 := HB3.out.trans (hb4.mono HB3.out.size)
  have CT := text_any (Rq.mk 1 2 1 3 4) (by unfold Rq.ok; decide) w4 (Tab.on HTB.out hB)
  rw [kr_text] at CT
  have HB5 := Lib.hid hB
  have HCT := Lib.hid CT
  simp only [Rq.cells] at HCT ⊢
  clear hb4 hB CT
  go_wp2_with fail
  refine Calls.mono HCT.out ?_
  rintro e5 w5 ⟨rfl, hb5⟩
  have HB6 := Lib.hid (HB4.out.trans ((HB5.out.trans (hb5.mono HB5.out.size)).mono HB4.out.size))
  clear hb5
  go_wp2_with fail
  go_ret
  refine ⟨?_, HB6.out⟩
  first | rfl | trace_state

end Go.Proofs.YtmkeckablkccnaaDoor
