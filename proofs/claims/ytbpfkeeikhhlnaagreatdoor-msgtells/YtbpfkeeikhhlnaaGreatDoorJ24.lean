/- The known answers: a message of one byte behind its head is written and read again. Readers once more: what they have left lies ahead of them in memory. A source in memory: a reader and the first fault; numbers that are read off it. Messages of each kind: that they are, and with a word too much or from whom they cannot be, that they are not. A request, a mark, an entry are read. Votes of marks or entries at given places: whether they are votes. Lists are read. A vote is read. Votes are read, one behind the other. The bytes of a page are read. A part of a message is read. Requests, votes within a message are read. Whatever part is read; what is read is in range. Decode, of whatever bytes. What is read well off some bytes is read so with more behind them. What was written is read. What was encoded is decoded: the bytes of a message are read as that message. -/
import Derived.Test.YtbpfkeeikhhlnaaGreatDoorJ23
import Derived.Laws.ResultCell
import Derived.Test.YtbpfkeeikhhlnaaGreatDoorJ07
import Derived.Laws.MakeOwn
import Derived.Deep.RegionHeld3
namespace Go.Proofs.YtbpfkeeikhhlnaaGreatDoor
open Go.RowKit
set_option maxRecDepth 100000

def dm (f t e c : Int) : Mg := { k := 8, f := f, t := t, e := e, vw := 0, sq := 0, rq := Rq.zero, ro := 0, ct := c, pg := 0, rs := 0, vt := Vt.zero, vs := ⟨none, 0, 0⟩, sm := ⟨none, 0, 0⟩, dt := ⟨none, 0, 0⟩ }

theorem dm_at (w : World) (f t e c : Int) : MgAt w (dm f t e c) Mc.nil :=
  ⟨⟨Row.nil _ _ _, Row.nil _ _ _, Row.nil _ _ _⟩, ⟨Row.nil _ _ _, fun x hx => by cases hx⟩, Row.nil _ _ _, ⟨rfl, (fun i hi => by simp [Mc.nil] at hi), fun _ => rfl, Nat.le_refl _, by simp [Mc.nil], fun x hx => by simp [Mc.nil] at hx⟩⟩

theorem add_zero (ad : Addr) : ad.add 0 = ad := by unfold Addr.add; simp

theorem dm_step (f t e c : Int) : ((dm f t e 0).cells.toArray).setIfInBounds 12 (.int .u8 c) = (dm f t e c).cells.toArray := rfl

set_option maxHeartbeats 8000000 in
theorem decode_count (w : World) (ao : Option Addr) (cap : Nat) (f t e c : Int) (hb : Bytes w ao [8, f, t, e, c]) (hno : ao = none → False) (hby : ∀ x ∈ [8, f, t, e, c], isByte x)
    (hi : isB (dm f t e c) Mc.nil false false = true) :
    Calls Tryz.prog 20 #[.slice ao 5 cap] w fun e' w' => e' = .returned (.tuple #[.agg (dm f t e c).cells.toArray, .int .i64 0]) ∧ Below w.heap.size w w' := by
  obtain ⟨W, hW⟩ : ∃ W, W = w.alloc (.cells Vz.toArray 37) := ⟨_, rfl⟩
  have hbl : Below w.heap.size w W := by rw [hW]; exact (Below.refl _ _).alloc (Nat.le_refl _) _
  have hg0 : W.heap[w.heap.size]? = some (.cells Vz.toArray 37 (0, 0)) := by rw [hW]; exact heap_alloc_new _ _
  have CO := Lib.hid (open_any W ao cap [8, f, t, e, c] (bytes_below hb hbl (Nat.le_refl _)) (fun h => (hno h).elim) (by simp) hby)
  have CI := Lib.hid (fun w1 => is_any w1 (dm f t e c) Mc.nil (dm_at w1 f t e c) false false (fun h => by simp [dm, partsOf] at h) (fun h => by simp [dm, partsOf] at h))
  rw [hi] at CI
  have HBL := Lib.hid hbl
  have HG0 := Lib.hid hg0
  have HW := Lib.hid hW
  clear hb hno hby hi hbl hg0 hW
  simp only [Vz] at HW
  go_enter Tryz.func20, Tryz.ntmps20
  go_upto_region 1 with fail
  rw [← HW.out]
  clear HW
  go_wp2_with fail
  refine Calls.mono CO.out ?_
  rintro e1 w1 ⟨R, rfl, hR, hrd, hb1⟩
  obtain ⟨w2, hw2⟩ : ∃ w2, w2 = w1.alloc (.cells #[.pointer (some ⟨R, 0, none⟩), .int .i64 0] 94) := ⟨_, rfl⟩
  have hb2 : Below w1.heap.size w1 w2 := by rw [hw2]; exact (Below.refl _ _).alloc (Nat.le_refl _) _
  have hsrc : Src w2 w1.heap.size R := by rw [hw2]; exact heap_alloc_new _ _
  have S2 := Lib.hid hsrc
  have R2 := Lib.hid (hrd.below hb2)
  have B2 := Lib.hid (Below.up (W := W) hb1 hb2)
  have HRW := Lib.hid hR
  have HW2 := Lib.hid hw2
  have hRl : R < w2.heap.size := (hrd.below hb2).lt
  have HRL := Lib.hid hRl
  generalize hS : w1.heap.size = S at *
  clear hb2 hsrc hrd hb1 hw2 hR hRl
  go_wp2_with fail
  rw [← HW2.out]
  have C1 := su8 w2 S R [8, f, t, e, c] S2.out R2.out (by simp) (by simp)
  simp only [List.getD_cons_zero, List.drop_succ_cons, List.drop_zero] at C1
  refine Calls.mono C1 ?_
  rintro e2 v1 ⟨rfl, h1, h2⟩
  have S3 := Lib.hid (S2.out.kept R2.out h2)
  have R3 := Lib.hid h1
  have K1 : Hid (Kept (fun k => k = R) w2 v1) := Lib.hid (h2)
  clear C1 h1 h2
  go_wp2_with fail
  have C2 := su8 v1 S R [f, t, e, c] S3.out R3.out (by simp) (by simp)
  simp only [List.getD_cons_zero, List.drop_succ_cons, List.drop_zero] at C2
  refine Calls.mono C2 ?_
  rintro e3 v2 ⟨rfl, h1, h2⟩
  have S4 := Lib.hid (S3.out.kept R3.out h2)
  have R4 := Lib.hid h1
  have K2 : Hid (Kept (fun k => k = R) w2 v2) := Lib.hid (K1.out.trans h2 (fun _ _ e => e))
  clear C2 h1 h2
  go_wp2_with fail
  have C3 := su8 v2 S R [t, e, c] S4.out R4.out (by simp) (by simp)
  simp only [List.getD_cons_zero, List.drop_succ_cons, List.drop_zero] at C3
  refine Calls.mono C3 ?_
  rintro e4 v3 ⟨rfl, h1, h2⟩
  have S5 := Lib.hid (S4.out.kept R4.out h2)
  have R5 := Lib.hid h1
  have K3 : Hid (Kept (fun k => k = R) w2 v3) := Lib.hid (K2.out.trans h2 (fun _ _ e => e))
  clear C3 h1 h2
  go_wp2_with fail
  have C4 := su8 v3 S R [e, c] S5.out R5.out (by simp) (by simp)
  simp only [List.getD_cons_zero, List.drop_succ_cons, List.drop_zero] at C4
  refine Calls.mono C4 ?_
  rintro e5 v4 ⟨rfl, h1, h2⟩
  have S6 := Lib.hid (S5.out.kept R5.out h2)
  have R6 := Lib.hid h1
  have K4 : Hid (Kept (fun k => k = R) w2 v4) := Lib.hid (K3.out.trans h2 (fun _ _ e => e))
  clear C4 h1 h2
  dsimp only
  refine ‹∀ (a : Act) (w : World), wpList Tryz.prog _ _ _ a w → _› _ _ ?_
  obtain ⟨M, hMs⟩ : ∃ M, M = v4.heap.size := ⟨_, rfl⟩
  obtain ⟨V, hV⟩ : ∃ V, V = v4.alloc (.cells Vz.toArray 37) := ⟨_, rfl⟩
  have hVn : V.heap[M]? = some (.cells Vz.toArray 37 (0, 0)) := by rw [hV, hMs]; exact heap_alloc_new _ _
  obtain ⟨U, hU⟩ : ∃ U, U = V.setCells M 0 (dm f t e 0).cells := ⟨_, rfl⟩
  have hkk := fun k (h : k ≠ M) => setCells_kept M (dm f t e 0).cells 0 V k h
  have hUb : Below v4.heap.size v4 U := by
    have hnz := fun k (h : k < v4.heap.size) => hkk k (by omega)
    refine ⟨?_, ?_, ?_, ?_, fun k hk => ?_⟩
    · rw [hU, (hkk (M + 1) (by omega)).2.2.1, hV]; rfl
    · rw [hU, (hkk (M + 1) (by omega)).2.2.2.1, hV]; rfl
    · rw [hU, (hkk (M + 1) (by omega)).2.2.2.2, hV]; rfl
    · rw [hU, (hkk (M + 1) (by omega)).2.1, hV]; simp
    · rw [hU, (hnz k hk).1, hV]; exact heap_alloc_old _ _ hk
  have hUM : U.heap[M]? = some (.cells (dm f t e 0).cells.toArray 37 (0, 0)) := by rw [hU, setCells_block _ 37 _ _ _ _ hVn, over_zero]
  have hth : V.there M 0 25 := fun i hi => by
    refine ⟨?_, frozen_of_row _ _ _ _ _ hVn⟩
    rw [cell_of_row _ _ _ _ _ _ hVn]; simp [Vz]; omega
  have BV4 : Below w.heap.size w v4 := by
    have h5 : Below W.heap.size W v4 := B2.out.trans (K4.out.below (B := W.heap.size) B2.out.size (fun k e => by rw [e]; exact HRW.out))
    exact HBL.out.trans (h5.mono HBL.out.size)
  have hG4 : v4.heap[w.heap.size]? = some (.cells Vz.toArray 37 (0, 0)) := by
    rw [K4.out.block _ (Nat.lt_of_lt_of_le (lt_of_block HG0.out) B2.out.size) (by have := HRW.out; have := lt_of_block HG0.out; omega), B2.out.block _ (lt_of_block HG0.out)]
    exact HG0.out
  have HSU := Lib.hid ((hUb.block S (lt_of_block S6.out)).trans S6.out)
  have HRU := Lib.hid (R6.out.below hUb)
  have HGU := Lib.hid ((hUb.block _ (lt_of_block hG4)).trans hG4)
  have HBU := Lib.hid (BV4.trans (hUb.mono BV4.size))
  have HUM := Lib.hid hUM
  have HMS := Lib.hid hMs
  have HTH := Lib.hid hth
  have HV := Lib.hid hV
  have HU := Lib.hid hU
  have HMG := Lib.hid (show M ≠ w.heap.size by have := lt_of_block hG4; omega)
  have HMBIG := Lib.hid (show w.heap.size < M by have := lt_of_block hG4; omega)
  have HMR := Lib.hid (show M ≠ R by have := R6.out.lt; omega)
  have HMS2 := Lib.hid (show M ≠ S by have := lt_of_block S6.out; omega)
  clear hVn hkk hUb hUM hth BV4 hG4 hMs hV hU S2 S3 S4 S5 S6 R2 R3 R4 R5 R6 K1 K2 K3 K4
  refine wpl_val (v := .agg (dm f t e 0).cells.toArray) (w1 := v4) rfl (by simp only [dm, Mg.cells, Rq.zero, Vt.zero]; go_simp) _ rfl ?_
  refine wpl_val (v := .pointer (some ⟨M, 0, none⟩)) (w1 := V) rfl (by have e1 := HV.out; simp only [Vz] at e1; rw [HMS.out, e1]; go_simp) _ rfl ?_
  refine wpList_store_mid rfl 37 (.tmp 5) (.tmp 24) rfl M 0 (dm f t e 0).cells.toArray rfl rfl HTH.out size37 (all_oneCell_toArray (dm f t e 0).one) ?_
  dsimp only
  rw [← HU.out]
  clear HTH HV HU HMS
  have q0 : U.cell? ⟨M, 0, none⟩ = some (.int .u8 8) := cell_box HUM.out 0
  generalize hD0 : (dm f t e 0).cells.toArray = D0
  go_wp2_with fail
  clear q0
  refine Calls.mono (parts_new 8 U) ?_
  rintro e6 wp ⟨ao2, rfl, hby2, hnb2, hbp⟩
  have e8 : partsOf 8 = [4] := rfl
  rw [e8] at hby2
  obtain ⟨ad, rfl, hc4⟩ := hby2 0 (by simp)
  have hadb := hnb2 ad rfl
  have HAD := Lib.hid hadb
  have P1 := Lib.hid hc4
  have Q1 := Lib.hid ((hbp.block M (lt_of_block HUM.out)).trans HUM.out)
  have Q2 := Lib.hid ((hbp.block S (lt_of_block HSU.out)).trans HSU.out)
  have Q3 := Lib.hid (HRU.out.below hbp)
  have Q4 := Lib.hid ((hbp.block _ (lt_of_block HGU.out)).trans HGU.out)
  have Q5 := Lib.hid (HBU.out.trans (hbp.mono HBU.out.size))
  have HU1 := Lib.hid (show M < U.heap.size from lt_of_block HUM.out)
  have HU2 := Lib.hid (show R < U.heap.size from HRU.out.lt)
  clear hby2 hnb2 hc4 hadb hbp
  simp only [e8, List.length_cons, List.length_nil, Nat.zero_add]
  clear e8
  go_wp2_with fail
  go_loopw [7, 29] (fun _ vi wr => ∃ j : Nat, vi = .int .i64 j ∧ ((j = 0 ∧ Hid (wr = wp)) ∨ (j = 1 ∧ Hid (wr.heap[M]? = some (.cells (dm f t e c).cells.toArray 37 (0, 0)) ∧ Src wr S R ∧ Rd wr R [] ∧ wr.heap[w.heap.size]? = some (.cells Vz.toArray 37 (0, 0)) ∧ Below w.heap.size w wr)))) (fun _ i _ => 1 - (intOf i).toNat)
  case atStart => exact ⟨0, rfl, .inl ⟨rfl, Lib.hid rfl⟩⟩
  case round =>
    obtain ⟨j, rfl, hjj⟩ := hrel
    rcases hjj with ⟨rfl, hwr⟩ | ⟨rfl, HH⟩
    · have hwr' := hwr.out
      subst hwr'
      clear hwr
      have hcell : wr.cell? (ad.add 0) = some (.int .u8 4) := P1.out
      have hcell0 : wr.cell? ad = some (.int .u8 4) := by rw [← add_zero ad]; exact P1.out
      have F := Lib.hid (read4 wr S R M c _ _ Q2.out Q3.out Q1.out (show _ = some (Value.int .u8 0) from rfl))
      rw [dm_step] at F
      go_wp2_with fail
      refine Calls.mono F.out ?_
      rintro e7 w7 ⟨rfl, h1, h2, h3⟩
      have HN : Hid (w7.heap[M]? = some (.cells (dm f t e c).cells.toArray 37 (0, 0)) ∧ Src w7 S R ∧ Rd w7 R [] ∧ w7.heap[w.heap.size]? = some (.cells Vz.toArray 37 (0, 0)) ∧ Below w.heap.size w w7) := by
        refine Lib.hid ⟨h2, ?_, h1, ?_, ?_⟩
        · unfold Src
          rw [h3.block S (lt_of_block Q2.out) (by rintro (e | e); exact Src.ne Q2.out Q3.out e; exact HMS2.out e.symm)]; exact Q2.out
        · rw [h3.block _ (lt_of_block Q4.out) (by
            rintro (e | e)
            · have := HRW.out; have := lt_of_block HG0.out; omega
            · exact HMG.out e.symm)]
          exact Q4.out
        · refine Q5.out.trans (h3.below (B := w.heap.size) Q5.out.size (fun k e => ?_))
          rcases e with e | e
          · have := HRW.out; have := lt_of_block HG0.out; omega
          · have := HMBIG.out; omega
      clear h1 h2 h3
      go_wp2_with fail
      go_round
      case measure => simp [intOf]
      case rel => exact ⟨1, by go_num, .inr ⟨rfl, HN⟩⟩
    · have hsf : wr.cell? ⟨S, 1, none⟩ = some (.int .i64 0) := by rw [cell_of_row _ _ _ _ _ _ HH.out.2.1]; rfl
      go_upto_region 12 with fail
      refine wp_region_lit ?_
      refine wpList_load_row rfl 37 (.tmp 5) rfl M rfl 37 _ (0, 0) _ HH.out.1 Tryz.underlying37 rfl size37 ?_
      go_wp2_with fail
      refine Calls.mono (CI.out _) ?_
      rintro e8 w8 ⟨rfl, hb8⟩
      have T1 := Lib.hid ((hb8.block M (lt_of_block HH.out.1)).trans HH.out.1)
      have T2 := (hb8.block S (lt_of_block HH.out.2.1)).trans HH.out.2.1
      have T3 := Lib.hid (HH.out.2.2.1.below hb8)
      have T4 := Lib.hid ((hb8.block _ (lt_of_block HH.out.2.2.2.1)).trans HH.out.2.2.2.1)
      have T5 := Lib.hid (HH.out.2.2.2.2.trans (hb8.mono HH.out.2.2.2.2.size))
      have hsr : w8.cell? ⟨S, 0, none⟩ = some (.pointer (some ⟨R, 0, none⟩)) := by rw [cell_of_row _ _ _ _ _ _ T2]; rfl
      clear T2 hb8 hsf
      go_wp2_with fail
      refine Calls.mono (left_any w8 R [] T3.out) ?_
      rintro e9 w9 ⟨rfl, rfl⟩
      go_upto_region 16 with fail
      have hth : w8.there w.heap.size 0 25 := fun i hi => by
        refine ⟨?_, frozen_of_row _ _ _ _ _ T4.out⟩
        rw [cell_of_row _ _ _ _ _ _ T4.out]; simp [Vz]; omega
      obtain ⟨wz, hwz⟩ : ∃ wz, wz = w8.setCells w.heap.size 0 (dm f t e c).cells := ⟨_, rfl⟩
      have hk := fun k (h : k ≠ w.heap.size) => setCells_kept w.heap.size (dm f t e c).cells 0 w8 k h
      have hbel : Below w.heap.size w wz := T5.out.trans (by rw [hwz]; exact ⟨(hk (w.heap.size + 1) (by omega)).2.2.1, (hk (w.heap.size + 1) (by omega)).2.2.2.1, (hk (w.heap.size + 1) (by omega)).2.2.2.2, by rw [(hk (w.heap.size + 1) (by omega)).2.1]; exact Nat.le_refl _, fun k h => (hk k (by omega)).1⟩)
      have hblk : wz.heap[w.heap.size]? = some (.cells (dm f t e c).cells.toArray 37 (0, 0)) := by rw [hwz, setCells_block _ 37 _ _ _ _ T4.out, over_zero]
      refine wp_region_lit ?_
      refine wpList_load_row rfl 37 (.tmp 5) rfl M rfl 37 _ (0, 0) _ T1.out Tryz.underlying37 rfl size37 ?_
      refine wpList_store_mid rfl 37 (.tmp 2) (.tmp 61) rfl w.heap.size 0 (dm f t e c).cells.toArray rfl rfl hth size37 (all_oneCell_toArray (dm f t e c).one) ?_
      dsimp only
      rw [← hwz]
      have HBLK := Lib.hid hblk
      have HBEL := Lib.hid hbel
      clear hth hk hbel hblk hwz hsr
      go_wp2_with fail
      (try simp only [Exit.inBlock, Exit.then])
      refine bodyPost_ret (v := .tuple #[.agg (dm f t e c).cells.toArray, .int .i64 0]) ?_ rfl ⟨rfl, HBEL.out⟩
      rw [results_cell_tmp rfl]
      have hlv := run_loadVar_row (P := Tryz.prog) wz w.heap.size 37 37 _ (0, 0) _ HBLK.out Tryz.underlying37 rfl size37
      show ((asAddr (.pointer (some ⟨w.heap.size, 0, none⟩))).run Tryz.prog wz).andThen (fun a w₁ => ((loadVar 37 a).run Tryz.prog w₁).andThen fun v w₂ => .ok (Value.tuple #[v, Value.int .i64 0]) w₂) = _
      simp only [asAddr, Sem.run_pure, Result.andThen_ok, hlv]

theorem size27 : (Tryz.prog.info? 27).map (·.size) = some 5 := by kernel_rfl

theorem wpl_valg {P : Program} {ops : Array Oper} {Q : Exit → Act → World → Prop} {o : Oper} {rest : List Oper} {a : Act} {w w1 : World} {v : Value} (hw : Region.wanted o (yielded ops a.tmps) = true) (h : (execOp a.eval o).run P w = .ok (.value v) w1) (a' : Act) (ha : a.put o.dst v = a')
    (k : wpList P ops Q rest a' w1) : wpList P ops Q (o :: rest) a w := by
  subst ha
  unfold wpList
  rw [if_pos hw]
  refine .inl ?_
  unfold Oper.wp
  rw [h]; exact k

theorem exec_load {P : Program} {o : Oper} {a : Act} {w : World} {p v : Value} (ty : TypeId) (x : Operand) (ho : o.op = .load ty x) (hx : a.eval x = p) (h : (Instr.loadAt ty p).run P w = .ok v w) : (execOp a.eval o).run P w = .ok (.value v) w := by
  unfold execOp
  simp only [ho, hx, Sem.run_bind, h, Result.andThen_ok, Sem.run_pure]

def km : Mg := dm 1 2 3 3
def km1 : Mg := { dm 1 2 3 3 with vw := 1 }
theorem km_set : (km.cells.toArray).setIfInBounds 4 (.int .u32 1) = km1.cells.toArray := rfl
theorem km1_at (w : World) : MgAt w km1 Mc.nil := ⟨(dm_at w 1 2 3 3).vt, (dm_at w 1 2 3 3).vs, (dm_at w 1 2 3 3).sm, (dm_at w 1 2 3 3).dt⟩
theorem km_is : isB km Mc.nil false false = true := by decide
theorem km1_is : isB km1 Mc.nil false false = false := by decide
theorem km_parts : partsOf km.k = [4] := rfl
theorem km_enc : encUp km (wordB km) (partsOf km.k) = [8, 1, 2, 3, 3] := by decide
theorem kr_text : (Rq.mk 1 2 1 3 4).text = [49, 58, 50, 58, 49, 58, 51, 58, 52] := by
  have h1 : dg 1 = [49] := Lib.decDigits_one (by decide)
  have h2 : dg 2 = [50] := Lib.decDigits_one (by decide)
  have h3 : dg 3 = [51] := Lib.decDigits_one (by decide)
  have h4 : dg 4 = [52] := Lib.decDigits_one (by decide)
  simp only [Rq.text, h1, h2, h3, h4]; rfl

theorem is_km (w : World) : Calls Tryz.prog 10 #[.agg km.cells.toArray] w fun e w' => e = .returned (.bool true) ∧ Below w.heap.size w w' := by
  have h := is_any w km Mc.nil (dm_at w 1 2 3 3) false false (fun h => by rw [km_parts] at h; simp at h) (fun h => by rw [km_parts] at h; simp at h)
  rw [km_is] at h; exact h
theorem is_km1 (w : World) : Calls Tryz.prog 10 #[.agg km1.cells.toArray] w fun e w' => e = .returned (.bool false) ∧ Below w.heap.size w w' := by
  have h := is_any w km1 Mc.nil (km1_at w) false false (fun h => by have e : partsOf km1.k = [4] := rfl; rw [e] at h; simp at h) (fun h => by have e : partsOf km1.k = [4] := rfl; rw [e] at h; simp at h)
  rw [km1_is] at h; exact h
theorem enc_km (w : World) : Calls Tryz.prog 8 #[.agg km.cells.toArray] w fun e w' => ∃ ao c, e = .returned (.tuple #[.slice ao 5 c, .int .i64 0]) ∧ New w.heap.size w' ao c [8, 1, 2, 3, 3] ∧ Below w.heap.size w w' := by
  have h := encode_any w km true (wordB km) (fun p hp => by rw [km_parts] at hp; simp at hp; subst hp; decide) (fun w1 _ => is_km w1) (fun _ p hp W0 w1 B g xs _ hW hl => by rw [km_parts] at hp; simp at hp; subst hp; exact write_wr W0 w1 B g xs km 4 (by decide) (by decide) hW hl)
  refine Calls.mono h ?_
  rintro e w' ⟨-, h2, -, h4⟩
  rw [km_enc] at h2
  obtain ⟨ao, c, h5, h6⟩ := h2 rfl (by decide)
  exact ⟨ao, c, h5, h6, h4⟩
theorem dec_km (w : World) (ao : Option Addr) (c : Nat) (h : Bytes w ao [8, 1, 2, 3, 3]) (hno : ao = none → False) : Calls Tryz.prog 20 #[.slice ao 5 c] w fun e w' => e = .returned (.tuple #[.agg km.cells.toArray, .int .i64 0]) ∧ Below w.heap.size w w' :=
  decode_count w ao c 1 2 3 3 h hno (by intro x hx; simp at hx; unfold isByte; omega) km_is
theorem put_any (w : World) : Calls Tryz.prog 22 #[.int .u8 1, .int .u32 2, .int .u8 3, .int .u16 4] w fun e w' => e = .returned (.agg (Rq.mk 1 2 1 3 4).cells.toArray) ∧ Below w.heap.size w w' := by
  simp only [Rq.cells]
  go_enter Tryz.func22, Tryz.ntmps22
  go_wp2_with fail
  (try simp only [Exit.inBlock, Exit.then])
  refine bodyPost_ret (results_cell_row (P := Tryz.prog) rfl _ _ w.heap.size 27 _ (0, 0) _ rfl (heap_alloc_new _ _) Tryz.underlying27 rfl size27) rfl ?_
  exact ⟨rfl, (Below.refl _ _).alloc (Nat.le_refl _) _⟩

set_option maxHeartbeats 8000000 in
theorem known_any (w : World) (ht : Tab w) : Calls Tryz.prog 5 #[] w fun e w' => e = .returned (.bool true) ∧ Below w.heap.size w w' := by
  obtain ⟨V, hV⟩ : ∃ V, V = w.alloc (.cells Vz.toArray 37) := ⟨_, rfl⟩
  have hVn : V.heap[w.heap.size]? = some (.cells Vz.toArray 37 (0, 0)) := by rw [hV]; exact heap_alloc_new _ _
  obtain ⟨U, hU⟩ : ∃ U, U = V.setCells w.heap.size 0 km.cells := ⟨_, rfl⟩
  have hkk := fun k (h : k ≠ w.heap.size) => setCells_kept w.heap.size km.cells 0 V k h
  have hUb : Below w.heap.size w U := by
    refine ⟨?_, ?_, ?_, ?_, fun k hk => ?_⟩
    · rw [hU, (hkk (w.heap.size + 1) (by omega)).2.2.1, hV]; rfl
    · rw [hU, (hkk (w.heap.size + 1) (by omega)).2.2.2.1, hV]; rfl
    · rw [hU, (hkk (w.heap.size + 1) (by omega)).2.2.2.2, hV]; rfl
    · rw [hU, (hkk (w.heap.size + 1) (by omega)).2.1, hV]; simp
    · rw [hU, (hkk k (by omega)).1, hV]; exact heap_alloc_old _ _ hk
  have hUM : U.heap[w.heap.size]? = some (.cells km.cells.toArray 37 (0, 0)) := by rw [hU, setCells_block _ 37 _ _ _ _ hVn, over_zero]
  have hth : V.there w.heap.size 0 25 := fun i hi => by
    refine ⟨?_, frozen_of_row _ _ _ _ _ hVn⟩
    rw [cell_of_row _ _ _ _ _ _ hVn]; simp [Vz]; omega
  have HTH := Lib.hid hth
  have HV := Lib.hid hV
  have HU := Lib.hid hU
  have HUB := Lib.hid hUb
  have HUM := Lib.hid hUM
  have HT := Lib.hid ht
  clear hV hVn hU hkk hUb hUM hth ht
  go_enter Tryz.func5, Tryz.ntmps5
  go_upto_region 1 with fail
  refine wp_region_lit ?_
  refine wpl_val (v := .agg km.cells.toArray) (w1 := w) rfl (by simp only [km, dm, Mg.cells, Rq.zero, Vt.zero]; go_simp) _ rfl ?_
  refine wpl_val (v := .pointer (some ⟨w.heap.size, 0, none⟩)) (w1 := V) rfl (by have e1 := HV.out; simp only [Vz] at e1; rw [e1]; go_simp) _ rfl ?_
  refine wpList_store_mid rfl 37 (.tmp 1) (.tmp 6) rfl w.heap.size 0 km.cells.toArray rfl rfl HTH.out size37 (all_oneCell_toArray km.one) ?_
  dsimp only
  rw [← HU.out]
  clear HTH HV HU
  generalize hA0 : km.cells.toArray = A0 at *
  have HA0 := Lib.hid hA0
  clear hA0
  go_upto_region 2 with fail
  refine wp_region_lit ?_
  refine wpList_load_row rfl 37 (.tmp 1) rfl w.heap.size rfl 37 _ (0, 0) _ HUM.out Tryz.underlying37 rfl (by rw [← HA0.out]; exact size37) ?_
  go_wp2_with fail
  have CE := enc_km U
  rw [HA0.out] at CE
  refine Calls.mono CE ?_
  rintro e1 w1 ⟨ao, c, rfl, hnew, hb1⟩
  have hby := own_bytes hnew.1
  have hno : ao = none → False := fun h => by have := (hnew.none h).1; simp at this
  have HAO := Lib.hid (fun ad (e : ao = some ad) => Nat.lt_of_lt_of_le (lt_of_block HUM.out) (hnew.2 ad e))
  have CD := dec_km w1 ao c hby hno
  rw [HA0.out] at CD
  have HBY := Lib.hid hby
  have HNO := Lib.hid hno
  have X1 := Lib.hid ((hb1.block _ (lt_of_block HUM.out)).trans HUM.out)
  have B1 := Lib.hid (HUB.out.trans (hb1.mono HUB.out.size))
  have HCD := Lib.hid CD
  clear hnew hb1 hby hno CE CD
  go_wp2_with fail
  refine Calls.mono HCD.out ?_
  rintro e2 w2 ⟨rfl, hb2⟩
  have X2 : w2.heap[w.heap.size]? = some (.cells A0 37 (0, 0)) := (hb2.block _ (lt_of_block X1.out)).trans X1.out
  have B2 := B1.out.trans (hb2.mono B1.out.size)
  have Y2 := bytes_below HBY.out hb2 (Nat.le_refl _)
  obtain ⟨M, hMs⟩ : ∃ M, M = w2.heap.size := ⟨_, rfl⟩
  obtain ⟨V2, hV2⟩ : ∃ V2, V2 = w2.alloc (.cells Vz.toArray 37) := ⟨_, rfl⟩
  have hVn : V2.heap[M]? = some (.cells Vz.toArray 37 (0, 0)) := by rw [hV2, hMs]; exact heap_alloc_new _ _
  obtain ⟨U2, hU2⟩ : ∃ U2, U2 = V2.setCells M 0 km.cells := ⟨_, rfl⟩
  have hkk := fun k (h : k ≠ M) => setCells_kept M km.cells 0 V2 k h
  have hUb : Below w2.heap.size w2 U2 := by
    have hnz := fun k (h : k < w2.heap.size) => hkk k (by omega)
    refine ⟨?_, ?_, ?_, ?_, fun k hk => ?_⟩
    · rw [hU2, (hkk (M + 1) (by omega)).2.2.1, hV2]; rfl
    · rw [hU2, (hkk (M + 1) (by omega)).2.2.2.1, hV2]; rfl
    · rw [hU2, (hkk (M + 1) (by omega)).2.2.2.2, hV2]; rfl
    · rw [hU2, (hkk (M + 1) (by omega)).2.1, hV2]; simp
    · rw [hU2, (hnz k hk).1, hV2]; exact heap_alloc_old _ _ hk
  have hUM : U2.heap[M]? = some (.cells km.cells.toArray 37 (0, 0)) := by rw [hU2, setCells_block _ 37 _ _ _ _ hVn, over_zero]
  have hth : V2.there M 0 25 := fun i hi => by
    refine ⟨?_, frozen_of_row _ _ _ _ _ hVn⟩
    rw [cell_of_row _ _ _ _ _ _ hVn]; simp [Vz]; omega
  have hGlt := lt_of_block X2
  have hGM : w.heap.size ≠ M := by omega
  have hG2 : U2.heap[w.heap.size]? = some (.cells km.cells.toArray 37 (0, 0)) := by rw [hUb.block _ hGlt, X2, HA0.out]
  have Y3 := bytes_below Y2 hUb (Nat.le_refl _)
  have B3 := B2.trans (hUb.mono B2.size)
  obtain ⟨U3, hU3⟩ : ∃ U3, U3 = U2.setCell ⟨w.heap.size, 4, none⟩ (.int .u32 1) := ⟨_, rfl⟩
  have hG3 : U3.heap[w.heap.size]? = some (.cells km1.cells.toArray 37 (0, 0)) := by rw [hU3, heap_setCell_same _ _ _ _ _ _ hG2, km_set]
  have hM3 : U3.heap[M]? = some (.cells km.cells.toArray 37 (0, 0)) := by rw [hU3, heap_setCell_other _ _ _ _ (by simpa using fun e => hGM e.symm)]; exact hUM
  have K3 : Kept (fun k => k = w.heap.size) U2 U3 := by rw [hU3]; exact (Kept.refl _ _).setCell _ _ (fun _ => rfl)
  have Y4 : Bytes U3 ao [8, 1, 2, 3, 3] := bytes_kept Y3 K3 (fun ad e _ h => by have := HAO.out ad e; omega)
  have B4 : Below w.heap.size w U3 := B3.trans (K3.below (B := w.heap.size) B3.size (fun k e => by omega))
  have hstr : (convert 35 9 (.slice ao 5 c)).run Tryz.prog U3 = .ok (.string ⟨#[8, 1, 2, 3, 3]⟩) U3 := str_bytes (l := [8, 1, 2, 3, 3]) Y4 (fun h => (HNO.out h).elim)
  have c4 : U2.cell? ⟨w.heap.size, 4, none⟩ = some (.int .u32 0) := cell_box (m := km) hG2 4
  have f4 : U2.frozen? ⟨w.heap.size, 4, none⟩ = false := frozen_of_row _ _ _ _ _ hG2
  have HZ := Lib.hid (msg_load (m := km1) hG3)
  have cM : U3.cell? ⟨M, 12, none⟩ = some (.int .u8 3) := cell_box (m := km) hM3 12
  have HTH := Lib.hid hth
  have HV2 := Lib.hid hV2
  have HMS := Lib.hid hMs
  have HU2 := Lib.hid hU2
  have HU3 := Lib.hid hU3
  have HB4 := Lib.hid B4
  have HST := Lib.hid hstr
  have HTB := Lib.hid (Tab.on HT.out B4)
  clear hb2 X2 B2 Y2 hMs hV2 hVn hU2 hkk hUb hUM hth hGlt hGM hG2 Y3 B3 hU3 hG3 hM3 K3 Y4 B4 hstr
  dsimp only
  refine ‹∀ (a : Act) (w : World), wpList Tryz.prog _ _ _ a w → _› _ _ ?_
  refine wpl_val (v := .tuple #[.agg A0, .int .i64 0]) (w1 := w2) rfl rfl _ rfl ?_
  refine wpl_val (v := .agg A0) (w1 := w2) rfl (by go_simp) _ rfl ?_
  refine wpl_val (v := .int .i64 0) (w1 := w2) rfl (by go_simp) _ rfl ?_
  refine wpl_val (v := .pointer (some ⟨M, 0, none⟩)) (w1 := V2) rfl (by have e1 := HV2.out; simp only [Vz] at e1; rw [HMS.out, e1]; go_simp) _ rfl ?_
  refine wpList_store_mid rfl 37 (.tmp 4) (.tmp 15) rfl M 0 km.cells.toArray rfl (by rw [HA0.out]; rfl) HTH.out size37 (all_oneCell_toArray km.one) ?_
  dsimp only
  rw [← HU2.out]
  clear HTH HV2 HMS HU2
  go_upto_region 5 with fail
  rw [← HU3.out]
  clear HU3 c4 f4
  have hstr := HST.out
  refine wp_region_lit ?_
  refine wv (.int .i64 0) (U3) (rfl) ?_
  refine wv (.bool true) (U3) (by go_simp) ?_
  refine wv (.bool true) (U3) (rfl) ?_
  refine wpl_valg (v := .int .i64 0) (w1 := U3) rfl (rfl) ({ tmps := #[.bool false, .pointer (some ⟨w.heap.size, 0, none⟩), .slice ao 5 c, .int .i64 0, .pointer (some ⟨M, 0, none⟩), .int .i64 0, .agg A0, .tuple #[.slice ao 5 c, .int .i64 0], .agg A0, .tuple #[.slice ao 5 c, .int .i64 0], .slice ao 5 c, .int .i64 0, .tuple #[.agg A0, .int .i64 0], .slice ao 5 c, .tuple #[.agg A0, .int .i64 0], .agg A0, .int .i64 0, .pointer (some ⟨w.heap.size, 4, none⟩), .int .i64 0, .bool true, .bool true, .int .i64 0, undef, undef, undef, undef, undef, undef, undef, undef, undef, undef, undef, undef, undef, undef, undef, undef, undef, undef, undef, undef, undef, undef], defers := [] }) rfl ?_
  refine wpl_valg (v := .bool true) (w1 := U3) rfl (by go_simp) ({ tmps := #[.bool false, .pointer (some ⟨w.heap.size, 0, none⟩), .slice ao 5 c, .int .i64 0, .pointer (some ⟨M, 0, none⟩), .int .i64 0, .agg A0, .tuple #[.slice ao 5 c, .int .i64 0], .agg A0, .tuple #[.slice ao 5 c, .int .i64 0], .slice ao 5 c, .int .i64 0, .tuple #[.agg A0, .int .i64 0], .slice ao 5 c, .tuple #[.agg A0, .int .i64 0], .agg A0, .int .i64 0, .pointer (some ⟨w.heap.size, 4, none⟩), .int .i64 0, .bool true, .bool true, .int .i64 0, .bool true, undef, undef, undef, undef, undef, undef, undef, undef, undef, undef, undef, undef, undef, undef, undef, undef, undef, undef, undef, undef, undef], defers := [] }) rfl ?_
  refine wv (.bool true) (U3) (rfl) ?_
  refine wv (.bool true) (U3) (rfl) ?_
  refine wpl_valg (v := .slice ao 5 c) (w1 := U3) rfl (rfl) ({ tmps := #[.bool false, .pointer (some ⟨w.heap.size, 0, none⟩), .slice ao 5 c, .int .i64 0, .pointer (some ⟨M, 0, none⟩), .int .i64 0, .agg A0, .tuple #[.slice ao 5 c, .int .i64 0], .agg A0, .tuple #[.slice ao 5 c, .int .i64 0], .slice ao 5 c, .int .i64 0, .tuple #[.agg A0, .int .i64 0], .slice ao 5 c, .tuple #[.agg A0, .int .i64 0], .agg A0, .int .i64 0, .pointer (some ⟨w.heap.size, 4, none⟩), .int .i64 0, .bool true, .bool true, .int .i64 0, .bool true, .bool true, .bool true, .slice ao 5 c, undef, undef, undef, undef, undef, undef, undef, undef, undef, undef, undef, undef, undef, undef, undef, undef, undef, undef], defers := [] }) rfl ?_
  refine wpl_valg (v := .string ⟨#[8, 1, 2, 3, 3]⟩) (w1 := U3) rfl (by go_simp) ({ tmps := #[.bool false, .pointer (some ⟨w.heap.size, 0, none⟩), .slice ao 5 c, .int .i64 0, .pointer (some ⟨M, 0, none⟩), .int .i64 0, .agg A0, .tuple #[.slice ao 5 c, .int .i64 0], .agg A0, .tuple #[.slice ao 5 c, .int .i64 0], .slice ao 5 c, .int .i64 0, .tuple #[.agg A0, .int .i64 0], .slice ao 5 c, .tuple #[.agg A0, .int .i64 0], .agg A0, .int .i64 0, .pointer (some ⟨w.heap.size, 4, none⟩), .int .i64 0, .bool true, .bool true, .int .i64 0, .bool true, .bool true, .bool true, .slice ao 5 c, .string ⟨#[8, 1, 2, 3, 3]⟩, undef, undef, undef, undef, undef, undef, undef, undef, undef, undef, undef, undef, undef, undef, undef, undef, undef], defers := [] }) rfl ?_
  refine wpl_valg (v := .bool true) (w1 := U3) rfl (by go_simp) ({ tmps := #[.bool false, .pointer (some ⟨w.heap.size, 0, none⟩), .slice ao 5 c, .int .i64 0, .pointer (some ⟨M, 0, none⟩), .int .i64 0, .agg A0, .tuple #[.slice ao 5 c, .int .i64 0], .agg A0, .tuple #[.slice ao 5 c, .int .i64 0], .slice ao 5 c, .int .i64 0, .tuple #[.agg A0, .int .i64 0], .slice ao 5 c, .tuple #[.agg A0, .int .i64 0], .agg A0, .int .i64 0, .pointer (some ⟨w.heap.size, 4, none⟩), .int .i64 0, .bool true, .bool true, .int .i64 0, .bool true, .bool true, .bool true, .slice ao 5 c, .string ⟨#[8, 1, 2, 3, 3]⟩, .bool true, undef, undef, undef, undef, undef, undef, undef, undef, undef, undef, undef, undef, undef, undef, undef, undef], defers := [] }) rfl ?_
  refine wv (.bool true) (U3) (rfl) ?_
  refine wv (.bool true) (U3) (rfl) ?_
  refine wpl_valg (v := .pointer (some ⟨M, 12, none⟩)) (w1 := U3) rfl (by go_simp) ({ tmps := #[.bool false, .pointer (some ⟨w.heap.size, 0, none⟩), .slice ao 5 c, .int .i64 0, .pointer (some ⟨M, 0, none⟩), .int .i64 0, .agg A0, .tuple #[.slice ao 5 c, .int .i64 0], .agg A0, .tuple #[.slice ao 5 c, .int .i64 0], .slice ao 5 c, .int .i64 0, .tuple #[.agg A0, .int .i64 0], .slice ao 5 c, .tuple #[.agg A0, .int .i64 0], .agg A0, .int .i64 0, .pointer (some ⟨w.heap.size, 4, none⟩), .int .i64 0, .bool true, .bool true, .int .i64 0, .bool true, .bool true, .bool true, .slice ao 5 c, .string ⟨#[8, 1, 2, 3, 3]⟩, .bool true, .bool true, .bool true, .pointer (some ⟨M, 12, none⟩), undef, undef, undef, undef, undef, undef, undef, undef, undef, undef, undef, undef, undef], defers := [] }) rfl ?_
  refine wpl_valg (v := .int .u8 3) (w1 := U3) rfl (by go_simp) ({ tmps := #[.bool false, .pointer (some ⟨w.heap.size, 0, none⟩), .slice ao 5 c, .int .i64 0, .pointer (some ⟨M, 0, none⟩), .int .i64 0, .agg A0, .tuple #[.slice ao 5 c, .int .i64 0], .agg A0, .tuple #[.slice ao 5 c, .int .i64 0], .slice ao 5 c, .int .i64 0, .tuple #[.agg A0, .int .i64 0], .slice ao 5 c, .tuple #[.agg A0, .int .i64 0], .agg A0, .int .i64 0, .pointer (some ⟨w.heap.size, 4, none⟩), .int .i64 0, .bool true, .bool true, .int .i64 0, .bool true, .bool true, .bool true, .slice ao 5 c, .string ⟨#[8, 1, 2, 3, 3]⟩, .bool true, .bool true, .bool true, .pointer (some ⟨M, 12, none⟩), .int .u8 3, undef, undef, undef, undef, undef, undef, undef, undef, undef, undef, undef, undef], defers := [] }) rfl ?_
  refine wpl_valg (v := .bool true) (w1 := U3) rfl (by go_simp) ({ tmps := #[.bool false, .pointer (some ⟨w.heap.size, 0, none⟩), .slice ao 5 c, .int .i64 0, .pointer (some ⟨M, 0, none⟩), .int .i64 0, .agg A0, .tuple #[.slice ao 5 c, .int .i64 0], .agg A0, .tuple #[.slice ao 5 c, .int .i64 0], .slice ao 5 c, .int .i64 0, .tuple #[.agg A0, .int .i64 0], .slice ao 5 c, .tuple #[.agg A0, .int .i64 0], .agg A0, .int .i64 0, .pointer (some ⟨w.heap.size, 4, none⟩), .int .i64 0, .bool true, .bool true, .int .i64 0, .bool true, .bool true, .bool true, .slice ao 5 c, .string ⟨#[8, 1, 2, 3, 3]⟩, .bool true, .bool true, .bool true, .pointer (some ⟨M, 12, none⟩), .int .u8 3, .bool true, undef, undef, undef, undef, undef, undef, undef, undef, undef, undef, undef], defers := [] }) rfl ?_
  refine wv (.bool true) (U3) (rfl) ?_
  refine wv (.bool true) (U3) (rfl) ?_
  refine wpl_valg (v := .agg km1.cells.toArray) (w1 := U3) rfl (exec_load 37 (.tmp 1) rfl rfl HZ.out) ({ tmps := #[.bool false, .pointer (some ⟨w.heap.size, 0, none⟩), .slice ao 5 c, .int .i64 0, .pointer (some ⟨M, 0, none⟩), .int .i64 0, .agg A0, .tuple #[.slice ao 5 c, .int .i64 0], .agg A0, .tuple #[.slice ao 5 c, .int .i64 0], .slice ao 5 c, .int .i64 0, .tuple #[.agg A0, .int .i64 0], .slice ao 5 c, .tuple #[.agg A0, .int .i64 0], .agg A0, .int .i64 0, .pointer (some ⟨w.heap.size, 4, none⟩), .int .i64 0, .bool true, .bool true, .int .i64 0, .bool true, .bool true, .bool true, .slice ao 5 c, .string ⟨#[8, 1, 2, 3, 3]⟩, .bool true, .bool true, .bool true, .pointer (some ⟨M, 12, none⟩), .int .u8 3, .bool true, .bool true, .bool true, .agg km1.cells.toArray, undef, undef, undef, undef, undef, undef, undef, undef], defers := [] }) rfl ?_
  have C1 := is_km1 U3
  generalize km1.cells.toArray = A1 at C1 ⊢
  clear hstr cM
  go_wp2_with fail
  refine Calls.mono C1 ?_
  rintro e3 w3 ⟨rfl, hb3⟩
  have HB3 := Lib.hid hb3
  clear hb3 C1
  go_wp2_with fail
  refine Calls.mono (put_any w3) ?_
  rintro e4 w4 ⟨rfl, hb4⟩
  have hB : Below U3.heap.size U3 w4 := HB3.out.trans (hb4.mono HB3.out.size)
  have CT := text_any (Rq.mk 1 2 1 3 4) (by unfold Rq.ok; decide) w4 (Tab.on HTB.out hB)
  rw [kr_text] at CT
  have HB5 := Lib.hid hB
  have HCT := Lib.hid CT
  simp only [Rq.cells] at HCT ⊢
  clear hb4 hB CT
  go_wp2_with fail
  refine Calls.mono HCT.out ?_
  rintro e5 w5 ⟨rfl, hb5⟩
  have HB6 := Lib.hid (HB4.out.trans ((HB5.out.trans (hb5.mono HB5.out.size)).mono HB4.out.size))
  clear hb5
  go_wp2_with fail
  go_ret
  refine ⟨?_, HB6.out⟩
  first | rfl | trace_state
end Go.Proofs.YtbpfkeeikhhlnaaGreatDoor
namespace Go.Proofs.YtbpfkeeikhhlnaaGreatDoor
open Go.RowKit
set_option maxRecDepth 100000

/-- at block R lies a reader that has the bytes l left; they lie in an elder block -/
def Rb (w : World) (R : Nat) (l : List Int) : Prop :=
  ∃ ao cap, w.heap[R]? = some (.cells #[.slice ao l.length cap] 120 (0, 0)) ∧ Bytes w ao l ∧ l.length ≤ cap ∧ (ao = none → cap = 0) ∧ (∀ ad, ao = some ad → 0 < l.length → ad.block < R) ∧ ∀ x ∈ l, isByte x
theorem Rb.toRd {w : World} {R : Nat} {l : List Int} (h : Rb w R l) : Rd w R l := by
  obtain ⟨ao, cap, h1, h2, h3, h4, h5, h6⟩ := h
  exact ⟨ao, cap, h1, h2, h3, h4, fun ad e hp => Nat.ne_of_lt (h5 ad e hp), h6⟩
theorem Rd.up {w : World} {R : Nat} {l : List Int} {ao : Option Addr} {n cap : Nat} (h : Rd w R l) (hb : w.heap[R]? = some (.cells #[.slice ao n cap] 120 (0, 0))) (hlt : ∀ ad, ao = some ad → 0 < l.length → ad.block < R) : Rb w R l := by
  obtain ⟨ao', cap', h1, h2, h3, h4, h5, h6⟩ := h
  have e := h1
  rw [hb] at e
  simp at e
  obtain ⟨rfl, _, _⟩ := e
  exact ⟨ao, cap', h1, h2, h3, h4, hlt, h6⟩
theorem Rb.lt {w : World} {R : Nat} {l : List Int} (h : Rb w R l) : R < w.heap.size := h.toRd.lt
theorem Rb.byte {w : World} {R : Nat} {l : List Int} (h : Rb w R l) (i : Nat) (hi : i < l.length) : isByte (l.getD i 0) := h.toRd.byte i hi
theorem Rb.kept {S : Nat → Prop} {w w' : World} {R : Nat} {l : List Int} (h : Rb w R l) (hk : Kept S w w') (hS : ∀ k, k ≤ R → ¬ S k) : Rb w' R l := by
  obtain ⟨ao, cap, hb, hB, hcap, hnone, hne, hby⟩ := h
  refine ⟨ao, cap, ?_, bytes_kept hB hk (fun ad e hpos => hS _ (Nat.le_of_lt (hne ad e hpos))), hcap, hnone, hne, hby⟩
  rw [hk.block R (lt_of_block hb) (hS R (Nat.le_refl _))]; exact hb
theorem Rb.below {w w' : World} {R : Nat} {l : List Int} (h : Rb w R l) (hk : Below w.heap.size w w') : Rb w' R l := h.kept (Kept.ofBelow (S := fun _ => False) hk) (fun _ _ h => h)
theorem Rb.drewN {w : World} {R : Nat} {l : List Int} (h : Rb w R l) (n : Nat) : Rb (w.drewN n) R l := h.kept ((Kept.refl (fun _ => False) w).drewN n) (fun _ _ h => h)

theorem take_b (w : World) (R : Nat) (l : List Int) (n : Nat) (h : Rb w R l) (hn : n ≤ l.length) (hl : l.length ≤ 1000000) :
    Calls Tryz.prog 104 #[.pointer (some ⟨R, 0, none⟩), .int .i64 n] w fun e w' => ∃ ao c, e = .returned (.slice ao n c) ∧ n ≤ c ∧ Bytes w' ao (l.take n) ∧ (ao = none → c = 0) ∧ Rb w' R (l.drop n) ∧ Kept (fun k => k = R) w w' := by
  obtain ⟨ao, cap, hb, hB, hcap, hnone, hne, hby⟩ := h
  cases ao with
  | none =>
    obtain rfl := hnone rfl
    obtain rfl : l = [] := List.eq_nil_of_length_eq_zero (by omega)
    obtain rfl : n = 0 := by simpa using hn
    refine (take_none w R hb).mono ?_
    rintro e w' ⟨rfl, rfl⟩
    exact ⟨none, 0, rfl, Nat.le_refl _, fun i h => by simp at h, fun _ => rfl, ⟨none, 0, one_setCell hb, fun i h => by simp at h, Nat.le_refl _, fun _ => rfl, fun _ _ h => by simp at h, fun x hx => by simp at hx⟩, (Kept.refl _ w).setCell _ _ (fun _ => rfl)⟩
  | some ad =>
    refine (take_raw w R ad l.length cap n hb hn hcap hl).mono ?_
    rintro e w' ⟨rfl, rfl⟩
    refine ⟨some ad, cap, rfl, by omega, ?_, fun h => by (cases h), (rd_drop hb hB hcap (fun hp => Nat.ne_of_lt (hne ad rfl hp)) hby hn).up (one_setCell hb) ?_, (Kept.refl _ w).setCell _ _ (fun _ => rfl)⟩
    · intro i hi
      simp only [List.length_take] at hi
      obtain ⟨ad', e, h⟩ := hB i (by omega)
      injection e with e; subst e
      refine ⟨_, rfl, ?_⟩
      rw [World.cell?_of_block (w := w) (Below.heap_setCell _ _ _ _ (by rw [add_block]; exact Nat.ne_of_lt (hne ad rfl (by omega)))), h]
      simp [List.getD_eq_getElem?_getD, show i < n from by omega]
    · intro a e hpos
      rw [List.length_drop] at hpos
      injection e with e
      have hlt := hne ad rfl (by omega)
      rw [← e]
      split
      · exact hlt
      · rw [add_block]; exact hlt

set_option maxHeartbeats 1600000 in
theorem r8_b (w : World) (R : Nat) (l : List Int) (h : Rb w R l) (h1 : 1 ≤ l.length) (hl : l.length ≤ 1000000) :
    Calls Tryz.prog 83 #[.pointer (some ⟨R, 0, none⟩)] w fun e w' => e = .returned (.tuple #[.int .u8 (l.getD 0 0), .int .i64 0]) ∧ Rb w' R (l.drop 1) ∧ Kept (fun k => k = R) w w' := by
  have T := Lib.hid (take_b w R l 1 h h1 hl)
  obtain ⟨x0, hx0⟩ : ∃ x, x = l.getD 0 0 := ⟨_, rfl⟩
  have y0 : isByte x0 := by rw [hx0]; exact h.byte 0 (by omega)
  have HX0 := Lib.hid hx0
  clear hx0
  obtain ⟨ao, cap, hb, _⟩ := h
  have hc := cell_of_one hb
  clear hb
  generalize hm : l.length = m at *
  have HM := Lib.hid hm
  clear hm
  go_enter Tryz.func83, Tryz.ntmps83
  go_wp2_with fail
  refine T.out.mono ?_
  rintro e w' ⟨ao', c', rfl, hc1, hB, hnn, hR, hK⟩
  obtain ⟨g, off, rfl, hcell⟩ := bytes_at hB (by rw [List.length_take, HM.out]; omega)
  have c0 := hcell 0 (by rw [List.length_take, HM.out]; omega)
  rw [getD_take l 1 0 (by omega), ← HX0.out, Nat.add_zero] at c0
  have HR := Lib.hid hR
  have HK := Lib.hid hK
  clear hB hnn hR hK hcell
  go_wp2_with fail
  exact bodyPost_ret (v := .tuple #[.int .u8 x0, .int .i64 0]) (by simp [results, Tryz.results83, go_sem]) rfl ⟨by rw [HX0.out], HR.out, HK.out⟩
end Go.Proofs.YtbpfkeeikhhlnaaGreatDoor
namespace Go.Proofs.YtbpfkeeikhhlnaaGreatDoor
open Go.RowKit
set_option maxRecDepth 100000

/-- what is left, and the first fault (0: none) -/
structure Sr where
  l : List Int
  f : Int

/-- a number of k bytes -/
def gN (k : Nat) (num : List Int → Int) (s : Sr) : Int × Sr := if s.f = 0 then (if k ≤ s.l.length then (num s.l, ⟨s.l.drop k, 0⟩) else (0, ⟨s.l, 20⟩)) else (0, s)
def p8 : Sr → Int × Sr := gN 1 fun l => l.getD 0 0
def p16 : Sr → Int × Sr := gN 2 rd16
/-- a source lies at S, its reader at R -/
structure Sat (w : World) (S R : Nat) (s : Sr) : Prop where
  src : w.heap[S]? = some (.cells #[.pointer (some ⟨R, 0, none⟩), .int .i64 s.f] 94 (0, 0))
  rd : Rb w R s.l
  ord : R < S
  len : s.l.length ≤ 100000

def SR (S R : Nat) : Nat → Prop := fun k => k = S ∨ k = R

theorem Sat.ne {w : World} {S R : Nat} {s : Sr} (h : Sat w S R s) : S ≠ R := by have := h.ord; omega
theorem Sat.lt {w : World} {S R : Nat} {s : Sr} (h : Sat w S R s) : S < w.heap.size ∧ R < w.heap.size := ⟨lt_of_block h.src, h.rd.lt⟩
theorem Sat.on {w w' : World} {S R : Nat} {s : Sr} (h : Sat w S R s) (hb : Below w.heap.size w w') : Sat w' S R s :=
  ⟨(hb.block _ (lt_of_block h.src)).trans h.src, h.rd.below hb, h.ord, h.len⟩
theorem Sat.cell0 {w : World} {S R : Nat} {s : Sr} (h : Sat w S R s) : w.cell? ⟨S, 0, none⟩ = some (.pointer (some ⟨R, 0, none⟩)) := by rw [cell_of_row _ _ _ _ _ _ h.src]; rfl
theorem Sat.cell1 {w : World} {S R : Nat} {s : Sr} (h : Sat w S R s) : w.cell? ⟨S, 1, none⟩ = some (.int .i64 s.f) := by rw [cell_of_row _ _ _ _ _ _ h.src]; rfl
theorem Sat.free1 {w : World} {S R : Nat} {s : Sr} (h : Sat w S R s) : w.frozen? ⟨S, 1, none⟩ = false := frozen_of_row _ _ _ _ _ h.src
/-- what is written behind the reader leaves it as it was -/
theorem Sat.kept {T : Nat → Prop} {w w' : World} {S R : Nat} {s : Sr} (h : Sat w S R s) (hk : Kept T w w') (hS : ¬ T S) (hT : ∀ k, k ≤ R → ¬ T k) : Sat w' S R s :=
  ⟨by rw [hk.block S (lt_of_block h.src) hS]; exact h.src, h.rd.kept hk hT, h.ord, h.len⟩
/-- a fault is kept -/
theorem Sat.fault {w : World} {S R : Nat} {s : Sr} (h : Sat w S R s) (f : Int) : Sat (w.setCell ⟨S, 1, none⟩ (.int .i64 f)) S R ⟨s.l, f⟩ := by
  have hk : Kept (fun k => k = S) w (w.setCell ⟨S, 1, none⟩ (.int .i64 f)) := (Kept.refl _ _).setCell _ _ (fun _ => rfl)
  have ho := h.ord
  exact ⟨heap_setCell_same _ _ _ _ _ _ h.src, h.rd.kept hk (fun k hk' e => by omega), ho, h.len⟩
theorem Sat.read {w w' : World} {S R : Nat} {s : Sr} (h : Sat w S R s) {l : List Int} (hr : Rb w' R l) (hk : Kept (fun k => k = R) w w') (hl : l.length ≤ s.l.length) : Sat w' S R ⟨l, s.f⟩ :=
  ⟨by rw [hk.block S (lt_of_block h.src) h.ne]; exact h.src, hr, h.ord, Nat.le_trans hl h.len⟩
theorem Kept.sr {S R : Nat} {w w' : World} (h : Kept (fun k => k = R) w w') : Kept (SR S R) w w' := h.mono (fun _ _ e => .inr e)
theorem Kept.sf {S R : Nat} {w w' : World} (h : Kept (fun k => k = S) w w') : Kept (SR S R) w w' := h.mono (fun _ _ e => .inl e)

set_option maxHeartbeats 1600000 in
theorem get_8 (w : World) (S R : Nat) (s : Sr) (h : Sat w S R s) :
    Calls Tryz.prog 82 #[.pointer (some ⟨S, 0, none⟩), .func (.func 83) #[.pointer (some ⟨R, 0, none⟩)] #[]] w fun e w' => e = .returned (.int .u8 (p8 s).1) ∧ Sat w' S R (p8 s).2 ∧ Kept (SR S R) w w' := by
  have q1 := h.cell1
  have z1 := h.free1
  have H := Lib.hid h
  unfold p8 gN
  by_cases hf : s.f = 0
  · rw [if_pos hf]
    rw [hf] at q1
    have HF := Lib.hid hf
    by_cases hk : 1 ≤ s.l.length
    · rw [if_pos hk]
      have C := Lib.hid (r8_b w R s.l h.rd hk (Nat.le_trans h.len (by decide)))
      have HR : Hid (∀ w1, Rb w1 R (s.l.drop 1) → Kept (fun k => k = R) w w1 → Sat w1 S R ⟨s.l.drop 1, 0⟩) := Lib.hid (fun w1 h1 h2 => by have := h.read h1 h2 (by simp); rw [hf] at this; exact this)
      simp only
      clear h hf hk
      generalize s.l.getD 0 0 = x at *
      go_enter Tryz.func82, Tryz.ntmps82
      go_wp2_with fail
      refine Calls.mono C.out ?_
      rintro e w1 ⟨rfl, h2, h3⟩
      have H2 := Lib.hid (HR.out w1 h2 h3)
      have H3 := Lib.hid h3
      clear h2 h3
      go_wp2_with fail
      go_ret
      exact ⟨rfl, H2.out, H3.out.sr⟩
    · rw [if_neg hk]
      have C := Lib.hid (r8_short w R s.l h.rd.toRd (by omega))
      simp only
      clear h hf hk
      go_enter Tryz.func82, Tryz.ntmps82
      go_wp2_with fail
      refine Calls.mono C.out ?_
      rintro e w1 ⟨rfl, rfl⟩
      go_wp2_with fail
      go_ret
      exact ⟨rfl, H.out.fault 20, Kept.sf ((Kept.refl _ _).setCell _ _ (fun _ => rfl))⟩
  · rw [if_neg hf]
    have hf2 : (s.f == 0) = false := by simp [hf]
    simp only
    clear h hf
    go_enter Tryz.func82, Tryz.ntmps82
    go_wp2_with fail
    go_ret
    exact ⟨rfl, H.out, Kept.refl _ _⟩

set_option maxHeartbeats 1600000 in
theorem s8 (w : World) (S R : Nat) (s : Sr) (h : Sat w S R s) :
    Calls Tryz.prog 59 #[.pointer (some ⟨S, 0, none⟩)] w fun e w' => e = .returned (.int .u8 (p8 s).1) ∧ Sat w' S R (p8 s).2 ∧ Kept (SR S R) w w' := by
  have q0 := h.cell0
  have C := Lib.hid (get_8 w S R s h)
  generalize p8 s = x at C ⊢
  have hmf : ∀ (fn : Fn) (first cap : Array Value) (w : World), (Instr.makeFunc fn first cap).run Tryz.prog w = .ok (.func fn first cap) w := fun _ _ _ _ => rfl
  clear h
  go_enter Tryz.func59, Tryz.ntmps59
  go_wp2_with fail
  refine Calls.mono C.out ?_
  rintro e w1 ⟨rfl, h2, h3⟩
  have H2 := Lib.hid h2
  have H3 := Lib.hid h3
  clear h2 h3
  go_wp2_with fail
  go_ret
  exact ⟨rfl, H2.out, H3.out⟩
end Go.Proofs.YtbpfkeeikhhlnaaGreatDoor
namespace Go.Proofs.YtbpfkeeikhhlnaaGreatDoor
open Go.RowKit
set_option maxRecDepth 100000

def hm (k f t e : Int) : Mg := { k := k, f := f, t := t, e := e, vw := 0, sq := 0, rq := Rq.zero, ro := 0, ct := 0, pg := 0, rs := 0, vt := Vt.zero, vs := ⟨none, 0, 0⟩, sm := ⟨none, 0, 0⟩, dt := ⟨none, 0, 0⟩ }

theorem Row.kept {α : Type} {S : Nat → Prop} {w w' : World} {k : Nat} {enc : α → List Value} {v : Value} {xs : List α} (h : Row w k enc v xs) (hk : Kept S w w') (hS : ∀ b off n c, v = .slice (some ⟨b, off, none⟩) n c → ¬ S b) : Row w' k enc v xs := by
  obtain ⟨ao, cap, e, h1, h2, h3, h4⟩ := h
  refine ⟨ao, cap, e, h1, h2, h3, fun j x hj => ?_⟩
  obtain ⟨b, off, e2, hc⟩ := h4 j x hj
  refine ⟨b, off, e2, fun i u hu => ?_⟩
  have h5 := hc i u hu
  subst e2
  rw [← h5]
  exact World.cell?_of_block (hk.block b (cell_block h5) (hS b off _ _ e))
end Go.Proofs.YtbpfkeeikhhlnaaGreatDoor
namespace Go.Proofs.YtbpfkeeikhhlnaaGreatDoor
open Go.RowKit
set_option maxRecDepth 100000

theorem there_row {w : World} {g n : Nat} {Z : Array Value} {T : TypeId} (h : w.heap[g]? = some (.cells Z T (0, 0))) (hn : Z.size = n) : w.there g 0 n := by
  intro i hi
  refine ⟨?_, frozen_of_row _ _ _ _ _ h⟩
  rw [cell_of_row _ _ _ _ _ _ h]; simp; omega
theorem Kept.new {S R g : Nat} {w W w5 : World} {vs : List Value} (hb : Below w.heap.size w W) (hk : Kept (SR S R) W w5) (hg : w.heap.size ≤ g) : Kept (SR S R) w (w5.setCells g 0 vs) := by
  have h1 : Kept (SR S R) w w5 := (Kept.ofBelow (S := SR S R) hb).trans hk (fun _ _ h => h)
  have hh := fun k (h : k ≠ g) => setCells_kept g vs 0 w5 k h
  refine ⟨?_, ?_, ?_, ?_, fun k hk' hs => ?_⟩
  · rw [(hh (g + 1) (by omega)).2.2.1]; exact h1.os
  · rw [(hh (g + 1) (by omega)).2.2.2.1]; exact h1.tape
  · rw [(hh (g + 1) (by omega)).2.2.2.2]; exact h1.output
  · rw [(hh (g + 1) (by omega)).2.1]; exact h1.size
  · rw [(hh k (by omega)).1]; exact h1.block k hk' hs
theorem Kept.apart {g : Nat} {w : World} {vs : List Value} : Kept (fun k => k = g) w (w.setCells g 0 vs) := by
  have hh := fun k (h : k ≠ g) => setCells_kept g vs 0 w k h
  refine ⟨?_, ?_, ?_, ?_, fun k hk' hs => ?_⟩
  · rw [(hh (g + 1) (by omega)).2.2.1]
  · rw [(hh (g + 1) (by omega)).2.2.2.1]
  · rw [(hh (g + 1) (by omega)).2.2.2.2]
  · rw [(hh (g + 1) (by omega)).2.1]; exact Nat.le_refl _
  · exact (hh k hs).1
end Go.Proofs.YtbpfkeeikhhlnaaGreatDoor
namespace Go.Proofs.YtbpfkeeikhhlnaaGreatDoor
open Go.RowKit
set_option maxRecDepth 100000

/-- so many, one behind the other -/
def pN {α : Type} (one : Sr → α × Sr) (s : Sr) : Nat → List α × Sr
  | 0 => ([], s)
  | j + 1 => ((pN one s j).1 ++ [(one (pN one s j).2).1], (one (pN one s j).2).2)
theorem pN_len {α : Type} (one : Sr → α × Sr) (s : Sr) (j : Nat) : (pN one s j).1.length = j := by
  induction j with
  | zero => rfl
  | succ j ih => simp [pN, ih]
def TG (S R g : Nat) : Nat → Prop := fun k => SR S R k ∨ k = g
theorem kept_setCells {w : World} {g o : Nat} {vs : List Value} : Kept (fun k => k = g) w (w.setCells g o vs) := by
  have hh := fun k (h : k ≠ g) => setCells_kept g vs o w k h
  refine ⟨?_, ?_, ?_, ?_, fun k hk' hs => ?_⟩
  · rw [(hh (g + 1) (by omega)).2.2.1]
  · rw [(hh (g + 1) (by omega)).2.2.2.1]
  · rw [(hh (g + 1) (by omega)).2.2.2.2]
  · rw [(hh (g + 1) (by omega)).2.1]; exact Nat.le_refl _
  · exact (hh k hs).1
theorem there_part {w : World} {g n o k : Nat} (h : w.there g 0 n) (hk : o + k ≤ n) : w.there g o k := fun j hj => by
  have := h (o + j) (by omega)
  simpa using this
/-- the row, behind j of n -/
structure RowJ {α : Type} (enc : α → List Value) (k : Nat) (one : Sr → α × Sr) (s : Sr) (w V wr : World) (S R g n j : Nat) : Prop where
  th : wr.there g 0 (n * k)
  ra : wr.rangeAt g 0 ((pN one s j).1.flatMap enc)
  sat : Sat wr S R (pN one s j).2
  kept : Kept (TG S R g) V wr
theorem RowJ.row {α : Type} {enc : α → List Value} {k : Nat} {one : Sr → α × Sr} {s : Sr} {w V wr : World} {S R g n : Nat} (h : RowJ enc k one s w V wr S R g n n) (henc : ∀ x, (enc x).length = k) (hn : n ≤ 1000) : Row wr k enc (.slice (some ⟨g, 0, none⟩) n n) (pN one s n).1 := by
  refine ⟨some ⟨g, 0, none⟩, n, by rw [pN_len], (fun e => by cases e), by rw [pN_len]; exact Nat.le_refl _, by rw [pN_len]; omega, fun j x hj => ⟨g, 0, rfl, fun i u hu => ?_⟩⟩
  have key : ∀ (xs : List α) (j i : Nat) (x : α) (u : Value), xs[j]? = some x → (enc x)[i]? = some u → (xs.flatMap enc)[j * k + i]? = some u := by
    intro xs
    induction xs with
    | nil => intro j i x u hx; simp at hx
    | cons y r ih =>
      intro j i x u hx hu
      have hy := henc y
      cases j with
      | zero =>
        simp at hx
        subst hx
        have hi : i < (enc y).length := by
          rcases Nat.lt_or_ge i (enc y).length with h | h
          · exact h
          · rw [List.getElem?_eq_none h] at hu; cases hu
        rw [List.flatMap_cons, Nat.zero_mul, Nat.zero_add, List.getElem?_append_left hi]; exact hu
      | succ j =>
        rw [List.flatMap_cons, List.getElem?_append_right (by rw [hy, Nat.succ_mul]; omega), hy]
        have := ih j i x u (by simpa using hx) hu
        rw [show (j + 1) * k + i - k = j * k + i from by rw [Nat.succ_mul]; omega]
        exact this
  have := h.ra (j * k + i) u (key _ j i x u hj hu)
  simpa [Nat.add_assoc] using this
end Go.Proofs.YtbpfkeeikhhlnaaGreatDoor
namespace Go.Proofs.YtbpfkeeikhhlnaaGreatDoor
open Go.RowKit
set_option maxRecDepth 100000

/-- a vote's words, and what its lists hold -/
structure Vp where
  f : Int
  e : Int
  vw : Int
  lo : Int
  c : Vc
/-- lists that were made since -/
def NewV (H : Nat) (v : Vt) : Prop := (∀ ad, v.ms.a = some ad → H ≤ ad.block) ∧ (∀ ad, v.p.a = some ad → H ≤ ad.block) ∧ ∀ ad, v.q.a = some ad → H ≤ ad.block
theorem row_new {α : Type} {T : Nat → Prop} {w w' : World} {k H : Nat} {enc : α → List Value} {v : Sl} {xs : List α} (h : Row w k enc v.val xs) (hk : Kept T w w') (hv : ∀ ad, v.a = some ad → H ≤ ad.block) (hT : ∀ b, T b → b < H) : Row w' k enc v.val xs :=
  h.kept hk (fun b off n c e hb => by
    injection e with e _ _
    have h1 := hv _ e
    have h2 := hT b hb
    simp only at h1
    omega)
theorem VtAt.new {T : Nat → Prop} {w w' : World} {H : Nat} {v : Vt} {c : Vc} (h : VtAt w v c) (hk : Kept T w w') (hv : NewV H v) (hT : ∀ b, T b → b < H) : VtAt w' v c :=
  ⟨row_new h.1 hk hv.1 hT, row_new h.2.1 hk hv.2.1 hT, row_new h.2.2 hk hv.2.2 hT⟩
theorem Vt.one (v : Vt) : ∀ u ∈ v.cells, u.oneCell' = true := by
  intro u hu
  simp [Vt.cells] at hu
  (repeat' (rcases hu with rfl | hu))
  all_goals first | rfl | (subst hu; rfl)
end Go.Proofs.YtbpfkeeikhhlnaaGreatDoor
namespace Go.Proofs.YtbpfkeeikhhlnaaGreatDoor
open Go.RowKit
set_option maxRecDepth 100000

def toVp (x : Vt × Vc) : Vp := ⟨x.1.f, x.1.e, x.1.vw, x.1.lo, x.2⟩
/-- votes that were made since -/
def NewS (H : Nat) (v : Sl) (vl : List (Vt × Vc)) : Prop := (∀ ad, v.a = some ad → H ≤ ad.block) ∧ ∀ x ∈ vl, NewV H x.1
end Go.Proofs.YtbpfkeeikhhlnaaGreatDoor
namespace Go.Proofs.YtbpfkeeikhhlnaaGreatDoor
open Go.RowKit
set_option maxRecDepth 100000

theorem Sat.drewN {w : World} {S R : Nat} {s : Sr} (h : Sat w S R s) (n : Nat) : Sat (w.drewN n) S R s := ⟨h.src, h.rd.drewN n, h.ord, h.len⟩
end Go.Proofs.YtbpfkeeikhhlnaaGreatDoor
namespace Go.Proofs.YtbpfkeeikhhlnaaGreatDoor
open Go.RowKit
set_option maxRecDepth 100000

/-- a message as it is read: its words, what its lists hold -/
structure Mq where
  w : Wd
  vt : Vp
  vs : List Vp
  sm : List Int
  dt : List Int
def NewM (H : Nat) (m : Mg) (c : Mc) : Prop := NewV H m.vt ∧ NewS H m.vs c.vs ∧ (∀ ad, m.sm.a = some ad → H ≤ ad.block) ∧ ∀ ad, m.dt.a = some ad → H ≤ ad.block
theorem dt_new {T : Nat → Prop} {w w' : World} {H : Nat} {v : Sl} {l : List Int} (h : DtAt w v l) (hk : Kept T w w') (hv : ∀ ad, v.a = some ad → H ≤ ad.block) (hT : ∀ b, T b → b < H) : DtAt w' v l := by
  obtain ⟨h1, h2, h3, h4, h5, h6⟩ := h
  exact ⟨h1, bytes_kept h2 hk (fun ad e _ hb => by have := hv ad e; have := hT _ hb; omega), h3, h4, h5, h6⟩
theorem vs_new {T : Nat → Prop} {w w' : World} {H : Nat} {v : Sl} {l : List (Vt × Vc)} (h : VsAt w v l) (hk : Kept T w w') (hv : NewS H v l) (hT : ∀ b, T b → b < H) : VsAt w' v l :=
  ⟨row_new h.1 hk hv.1 hT, fun x hx => (h.2 x hx).new hk (hv.2 x hx) hT⟩
theorem MgAt.new {T : Nat → Prop} {w w' : World} {H : Nat} {m : Mg} {c : Mc} (h : MgAt w m c) (hk : Kept T w w') (hv : NewM H m c) (hT : ∀ b, T b → b < H) : MgAt w' m c :=
  ⟨h.vt.new hk hv.1 hT, vs_new h.vs hk hv.2.1 hT, row_new h.sm hk hv.2.2.1 hT, dt_new h.dt hk hv.2.2.2 hT⟩

/-- a message that is being read lies at M -/
structure MqAt (w : World) (M : Nat) (m : Mg) (c : Mc) (x : Mq) : Prop where
  box : w.heap[M]? = some (.cells m.cells.toArray 37 (0, 0))
  dat : MgAt w m c
  new : NewM (M + 1) m c
  wd : m.toWd = x.w
  vt : toVp (m.vt, c.vt) = x.vt
  vs : c.vs.map toVp = x.vs
  sm : c.sm = x.sm
  dt : c.dt = x.dt
def SRM (S R M : Nat) : Nat → Prop := fun k => SR S R k ∨ k = M
theorem MqAt.call {w w1 : World} {S R M : Nat} {m : Mg} {c : Mc} {x : Mq} (h : MqAt w M m c x) (hk : Kept (SR S R) w w1) (hS : S < M) (hR : R < M) : MqAt w1 M m c x := by
  have hT : ∀ b, SR S R b → b < M + 1 := fun b e => by rcases e with e | e; omega; omega
  exact ⟨by rw [hk.block M (lt_of_block h.box) (fun e => by rcases e with e | e; omega; omega)]; exact h.box, h.dat.new hk h.new hT, h.new, h.wd, h.vt, h.vs, h.sm, h.dt⟩
theorem MqAt.below {w w1 : World} {M : Nat} {m : Mg} {c : Mc} {x : Mq} (h : MqAt w M m c x) (hb : Below w.heap.size w w1) : MqAt w1 M m c x :=
  ⟨(hb.block _ (lt_of_block h.box)).trans h.box, h.dat.below hb, h.new, h.wd, h.vt, h.vs, h.sm, h.dt⟩
/-- some cells of it are written -/
theorem MqAt.put {w : World} {M o : Nat} {m m' : Mg} {c c' : Mc} {x x' : Mq} {vs : List Value} (h : MqAt w M m c x) (hd : MgAt w m' c') (hn : NewM (M + 1) m' c') (ho : over m.cells.toArray o vs = m'.cells.toArray) (h1 : m'.toWd = x'.w) (h2 : toVp (m'.vt, c'.vt) = x'.vt) (h3 : c'.vs.map toVp = x'.vs) (h4 : c'.sm = x'.sm) (h5 : c'.dt = x'.dt) :
    MqAt (w.setCells M o vs) M m' c' x' :=
  ⟨by rw [setCells_block _ 37 _ _ _ _ h.box, ho], hd.new (T := fun k => k = M) kept_setCells hn (fun b e => by omega), hn, h1, h2, h3, h4, h5⟩
theorem Sat.put {w : World} {S R M o : Nat} {s : Sr} {vs : List Value} (h : Sat w S R s) (hS : S < M) (hR : R < M) : Sat (w.setCells M o vs) S R s := h.kept (T := fun k => k = M) kept_setCells (by omega) (fun k hk e => by omega)
theorem MqAt.cell {w : World} {M : Nat} {m : Mg} {c : Mc} {x : Mq} (h : MqAt w M m c x) (i : Nat) : w.cell? ⟨M, i, none⟩ = m.cells[i]? := cell_box h.box i
theorem MqAt.free {w : World} {M : Nat} {m : Mg} {c : Mc} {x : Mq} (h : MqAt w M m c x) (i : Nat) : w.frozen? ⟨M, i, none⟩ = false := frozen_of_row _ _ _ _ _ h.box
theorem Kept.put {S R M o : Nat} {w W w1 : World} {vs : List Value} (hb : Below w.heap.size w W) (hk : Kept (SR S R) W w1) : Kept (SRM S R M) w (w1.setCells M o vs) :=
  ((Kept.ofBelow (S := SRM S R M) hb).trans hk (fun _ _ e => .inl e)).trans kept_setCells (fun _ _ e => .inr e)
end Go.Proofs.YtbpfkeeikhhlnaaGreatDoor
namespace Go.Proofs.YtbpfkeeikhhlnaaGreatDoor
open Go.RowKit
set_option maxRecDepth 100000

theorem Rq.one (r : Rq) : ∀ u ∈ r.cells, u.oneCell' = true := by
  intro u hu
  simp [Rq.cells] at hu
  (repeat' (rcases hu with rfl | hu))
  all_goals first | rfl | (subst hu; rfl)
theorem MqAt.there {w : World} {M : Nat} {m : Mg} {c : Mc} {x : Mq} (h : MqAt w M m c x) (o k : Nat) (ho : o + k ≤ 25) : w.there M o k := there_part (there_row (n := 25) h.box rfl) ho

theorem Sat.drew {w : World} {S R : Nat} {s : Sr} (h : Sat w S R s) : Sat w.drew S R s := h.on ((Below.refl _ _).drew)
end Go.Proofs.YtbpfkeeikhhlnaaGreatDoor
namespace Go.Proofs.YtbpfkeeikhhlnaaGreatDoor
open Go.RowKit
set_option maxRecDepth 100000

def SrOk (s : Sr) : Prop := ∀ x ∈ s.l, isByte x
theorem SrOk.at {s : Sr} (h : SrOk s) (i : Nat) : isByte (s.l.getD i 0) := by
  rw [List.getD_eq_getElem?_getD]
  rcases Nat.lt_or_ge i s.l.length with hi | hi
  · rw [List.getElem?_eq_getElem hi]; exact h _ (List.getElem_mem hi)
  · rw [List.getElem?_eq_none hi]; exact ⟨by decide, by decide⟩
def MqOk (x : Mq) : Prop := VcOk x.vt.c ∧ ∀ v ∈ x.vs, VcOk v.c
theorem MqAt.ok {w : World} {M : Nat} {m : Mg} {c : Mc} {x : Mq} (h : MqAt w M m c x) (hx : MqOk x) : McOk c := by
  refine ⟨?_, fun y hy => ?_⟩
  · have := hx.1
    rw [← h.vt] at this
    exact this
  · have : toVp y ∈ x.vs := by rw [← h.vs]; exact List.mem_map_of_mem hy
    exact hx.2 _ this
end Go.Proofs.YtbpfkeeikhhlnaaGreatDoor
namespace Go.Proofs.YtbpfkeeikhhlnaaGreatDoor
open Go.RowKit
set_option maxRecDepth 100000

/-- a message in memory is what was read -/
structure RelQ (m : Mg) (c : Mc) (x : Mq) : Prop where
  wd : m.toWd = x.w
  vt : toVp (m.vt, c.vt) = x.vt
  vs : c.vs.map toVp = x.vs
  sm : c.sm = x.sm
  dt : c.dt = x.dt
theorem MqAt.rel {w : World} {M : Nat} {m : Mg} {c : Mc} {x : Mq} (h : MqAt w M m c x) : RelQ m c x := ⟨h.wd, h.vt, h.vs, h.sm, h.dt⟩
/-- what stands while the parts are read -/
structure DecJ (w : World) (S R M g0 : Nat) (wr : World) (m : Mg) (c : Mc) (y : Mq × Sr) : Prop where
  mq : MqAt wr M m c y.1
  sat : Sat wr S R y.2
  g0 : wr.heap[g0]? = some (.cells Vz.toArray 37 (0, 0))
  bel : Below w.heap.size w wr
theorem DecJ.on {w : World} {S R M g0 : Nat} {wr wx : World} {m : Mg} {c : Mc} {y : Mq × Sr} (h : DecJ w S R M g0 wr m c y) (hb : Below wr.heap.size wr wx) : DecJ w S R M g0 wx m c y :=
  ⟨h.mq.below hb, h.sat.on hb, (hb.block _ (lt_of_block h.g0)).trans h.g0, h.bel.trans (hb.mono h.bel.size)⟩
end Go.Proofs.YtbpfkeeikhhlnaaGreatDoor
namespace Go.Proofs.YtbpfkeeikhhlnaaGreatDoor
open Go.RowKit
set_option maxRecDepth 100000

/-- a way to read: behind a fault there is one; what is read well hangs on what is taken alone -/
structure Good {α : Type} (p : Sr → α × Sr) : Prop where
  back : ∀ s, (p s).2.f = 0 → s.f = 0
  ext : ∀ s r, (p s).2.f = 0 → p ⟨s.l ++ r, s.f⟩ = ((p s).1, ⟨(p s).2.l ++ r, 0⟩)

/-- one behind the other -/
theorem Good.then {α β γ : Type} {p : Sr → α × Sr} {q : α → Sr → β × Sr} (hp : Good p) (hq : ∀ a, Good (q a)) (f : α → β → γ) : Good (fun s => (f (p s).1 (q (p s).1 (p s).2).1, (q (p s).1 (p s).2).2)) := by
  refine ⟨fun s h => hp.back s ((hq _).back _ h), fun s r h => ?_⟩
  have h1 := (hq _).back _ h
  have e1 := hp.ext s r h1
  have e2 := (hq (p s).1).ext (p s).2 r h
  simp only [e1]
  rw [h1] at e2
  simp only [e2]
theorem Good.map {α β : Type} {p : Sr → α × Sr} (hp : Good p) (f : α → β) : Good (fun s => (f (p s).1, (p s).2)) := by
  refine ⟨fun s h => hp.back s h, fun s r h => ?_⟩
  simp only [hp.ext s r h]
end Go.Proofs.YtbpfkeeikhhlnaaGreatDoor
namespace Go.Proofs.YtbpfkeeikhhlnaaGreatDoor
open Go.RowKit
set_option maxRecDepth 100000

def Mk.ok (x : Mk) : Prop := (0 ≤ x.s ∧ x.s ≤ 4294967295) ∧ 0 ≤ x.r ∧ x.r ≤ 18446744073709551615
def En.ok (x : En) : Prop := (0 ≤ x.s ∧ x.s ≤ 4294967295) ∧ (0 ≤ x.v ∧ x.v ≤ 4294967295) ∧ x.rq.ok
def Vc.ok (c : Vc) : Prop := (∀ x ∈ c.ms, x.ok) ∧ (∀ x ∈ c.p, x.ok) ∧ ∀ x ∈ c.q, x.ok
def Vt.ok (v : Vt) : Prop := (0 ≤ v.f ∧ v.f ≤ 255) ∧ (0 ≤ v.e ∧ v.e ≤ 255) ∧ (0 ≤ v.vw ∧ v.vw ≤ 4294967295) ∧ 0 ≤ v.lo ∧ v.lo ≤ 4294967295
end Go.Proofs.YtbpfkeeikhhlnaaGreatDoor
namespace Go.Proofs.YtbpfkeeikhhlnaaGreatDoor
open Go.RowKit
set_option maxRecDepth 100000

/-- its numbers are in range -/
structure MgOk (m : Mg) (c : Mc) : Prop where
  k : isByte m.k
  f : isByte m.f
  t : isByte m.t
  e : isByte m.e
  ct : isByte m.ct
  pg : isByte m.pg
  vw : 0 ≤ m.vw ∧ m.vw ≤ 4294967295
  sq : 0 ≤ m.sq ∧ m.sq ≤ 4294967295
  rq : m.rq.ok
  ro : 0 ≤ m.ro ∧ m.ro ≤ 18446744073709551615
  rs : 0 ≤ m.rs ∧ m.rs ≤ 4294967295
  vt : m.vt.ok ∧ c.vt.ok
  vs : ∀ x ∈ c.vs, x.1.ok ∧ x.2.ok
  sm : ∀ x ∈ c.sm, 0 ≤ x ∧ x ≤ 18446744073709551615
end Go.Proofs.YtbpfkeeikhhlnaaGreatDoor
