/- MsgBack: the walk. -/
import Derived.Test.YtmkeckablkccnaaDoorSh2
import Derived.Test.YtmkeckablkccnaaDoorSr16
namespace Go.Proofs.YtmkeckablkccnaaDoor
open Go.RowKit
set_option maxRecDepth 100000

theorem box_on {w w' : World} {g : Nat} {m : Mg} (h : w.heap[g]? = some (.cells m.cells.toArray 37 (0, 0))) (hb : Below w.heap.size w w') : w'.heap[g]? = some (.cells m.cells.toArray 37 (0, 0)) := by
  rw [hb.block g (lt_of_block h)]; exact h

theorem RowU.below {α : Type} {w w' : World} {k : Nat} {enc : α → List Value} {v : Value} {xs : List α} (h : RowU w k enc v xs) (hb : Below w.heap.size w w') : RowU w' k enc v xs := by
  obtain ⟨ao, cap, rfl, h1, h2, h3, h4⟩ := h
  refine ⟨ao, cap, rfl, h1, h2, h3, fun j x hj => ?_⟩
  obtain ⟨b, off, e, hc⟩ := h4 j x hj
  refine ⟨b, off, e, fun i u hu => ?_⟩
  have := hc i u hu
  rw [hb.cell (cell_block this)]; exact this
/-- its bytes are read as it -/
theorem dec_yes {w w' : World} {m m' : Mg} {c c' : Mc} {err : Int} (hm : MgAt w m c) (hok : MgOk m c) (hi : isM m c = true) (h : DecD w' (encM m c) m' c' err) : err = 0 ∧ isM m' c' = true ∧ MgAt w' m' c' ∧ McOk c' ∧ sameM m' c' m c = true := by
  have e := rdsM m c hok (isM_short hm hi) hi []
  rw [List.append_nil] at e
  rcases h with ⟨h0, _, _, h3, h4, h5, h6⟩ | ⟨_, _, h1 | h1 | ⟨w2, m2, c2, h1, h2, h3⟩⟩
  · rw [e] at h6
    exact ⟨h0, h3, h4, h5, relQ_same h6⟩
  · rw [e] at h1; exact absurd rfl h1
  · rw [e] at h1; exact absurd rfl h1
  · rw [e] at h2
    have := isM_rel hm h1 ((sameM_iff _ _ _ _).1 (relQ_same h2))
    rw [h3, hi] at this
    cases this
theorem dec_more {w w' : World} {m m' : Mg} {c c' : Mc} {err : Int} (hm : MgAt w m c) (hok : MgOk m c) (hi : isM m c = true) (h : DecD w' (encM m c ++ [0]) m' c' err) : err ≠ 0 := by
  have e := rdsM m c hok (isM_short hm hi) hi [0]
  rcases h with ⟨_, _, h2, _⟩ | ⟨h0, _⟩
  · rw [e] at h2; cases h2
  · exact h0
theorem dec_cut {w w' : World} {m m' : Mg} {c c' : Mc} {err : Int} {k : Nat} (hm : MgAt w m c) (hok : MgOk m c) (hi : isM m c = true) (hk : k < (encM m c).length) (h : DecD w' ((encM m c).take k) m' c' err) : err ≠ 0 := by
  have e := cutM m c hok (isM_short hm hi) hi ((encM m c).take k) ((encM m c).drop k) (List.take_append_drop _ _) (fun e => by have := congrArg List.length e; simp at this; omega)
  rcases h with ⟨_, h1, _⟩ | ⟨h0, _⟩
  · exact absurd h1 e
  · exact h0

set_option maxHeartbeats 16000000 in
theorem back_any (m : Mg) (c : Mc) (cut : Int) (w : World) (hu : MgU w m c) (hok : MgOk m c) (ht : Tab w) :
    Calls Tryd.prog 3 #[.agg m.cells.toArray, .int .i64 cut] w fun e w' => e = .returned (.bool true) ∧ Below w.heap.size w w' := by
  have hb : Below w.heap.size w (w.alloc (.cells m.cells.toArray 37)) := (Below.refl _ _).alloc (Nat.le_refl _) _
  have bx : (w.alloc (.cells m.cells.toArray 37)).heap[w.heap.size]? = some (.cells m.cells.toArray 37 (0, 0)) := heap_alloc_new _ _
  obtain ⟨W, hW⟩ : ∃ W, W = w.alloc (.cells m.cells.toArray 37) := ⟨_, rfl⟩
  rw [← hW] at hb bx
  have HB := Lib.hid hb
  have HBX := Lib.hid bx
  have HW := Lib.hid hW
  have HU := Lib.hid hu
  have HOK := Lib.hid hok
  have HT := Lib.hid ht
  obtain ⟨gx, hgx⟩ : ∃ gx, gx = w.heap.size := ⟨_, rfl⟩
  rw [← hgx] at HBX
  have HGX := Lib.hid hgx
  have eA : (#[.int .u8 m.k, .int .u8 m.f, .int .u8 m.t, .int .u8 m.e, .int .u32 m.vw, .int .u32 m.sq, .int .u8 m.rq.c, .int .u32 m.rq.t, .int .u8 m.rq.k, .int .u8 m.rq.y, .int .u16 m.rq.v, .int .u64 m.ro, .int .u8 m.ct, .int .u8 m.pg, .int .u32 m.rs, .int .u8 m.vt.f, .int .u8 m.vt.e, .int .u32 m.vt.vw, .int .u32 m.vt.lo, .slice m.vt.ms.a m.vt.ms.n m.vt.ms.c, .slice m.vt.p.a m.vt.p.n m.vt.p.c, .slice m.vt.q.a m.vt.q.n m.vt.q.c, .slice m.vs.a m.vs.n m.vs.c, .slice m.sm.a m.sm.n m.sm.c, .slice m.dt.a m.dt.n m.dt.c] : Array Value) = m.cells.toArray := rfl
  have EA := Lib.hid eA
  clear hb bx hW hgx eA hu hok ht
  simp only [Mg.cells] at HW ⊢
  go_enter Tryd.func3, Tryd.ntmps3
  go_upto_region 1 with fail
  rw [← HW.out, ← HGX.out, EA.out]
  clear HW EA
  go_wp2_with fail
  refine Calls.mono (known_any W (Tab.on HT.out HB.out)) ?_
  rintro e w1 ⟨rfl, hb⟩
  have HB1 := Lib.hid (Below.up HB.out hb)
  have HBX1 := Lib.hid (box_on HBX.out hb)
  clear hb HBX HB
  go_wp2_with (first | (refine wpList_load_row rfl 37 (.tmp 2) rfl gx rfl 37 _ (0, 0) _ HBX1.out Tryd.underlying37 rfl size37 ?_; refine Hid.out ?_) | go_in)
  refine Lib.hid ?_
  go_wp2_with fail
  refine Calls.mono (help10 w1 m (c.vs.map Prod.fst) (HU.out.votes.below HB1.out)) ?_
  rintro e w2 ⟨b, rfl, hfew, hb⟩
  have HFEW := Lib.hid hfew
  have HB2 := Lib.hid (Below.up HB1.out hb)
  have HBX2 := Lib.hid (box_on HBX1.out hb)
  clear hb hfew HB1 HBX1
  cases b with
  | false =>
    go_wp2_with fail
    go_ret
    exact ⟨rfl, HB2.out⟩
  | true =>
  have HAT := Lib.hid (show MgAt w2 m c from (HU.out.at (HFEW.out rfl).1 (HFEW.out rfl).2.1 (HFEW.out rfl).2.2.1 (HFEW.out rfl).2.2.2.1 (HFEW.out rfl).2.2.2.2).below HB2.out)
  clear HFEW HU
  go_wp2_with (first | (refine wpList_load_row rfl 37 (.tmp 2) rfl gx rfl 37 _ (0, 0) _ HBX2.out Tryd.underlying37 rfl size37 ?_; refine Hid.out ?_) | go_in)
  refine Lib.hid ?_
  go_wp2_with fail
  refine Calls.mono (enc_ok w2 m c HAT.out HOK.out.mc (Tab.on HT.out HB2.out)) ?_
  rintro e w3 ⟨h3, hb⟩
  have HB3 := Lib.hid (Below.up HB2.out hb)
  have HBX3 := Lib.hid (box_on HBX2.out hb)
  have HAT3 := Lib.hid (HAT.out.below hb)
  clear hb HB2 HBX2 HAT
  rcases h3 with ⟨hno, rfl⟩ | ⟨hyes, ao, k, rfl, hnew⟩
  · go_wp2_with fail
    go_ret
    exact ⟨rfl, HB3.out⟩
  have hl7 := encM_len7 HAT3.out hyes
  have hby := allB_enc HAT3.out HOK.out hyes
  have HYES := Lib.hid hyes
  have hfo := own_form hnew.1
  have HBY := Lib.hid hby
  have HBS := Lib.hid (own_bytes hnew.1)
  have hnk : (encM m c).length ≤ k := by
    rcases hnew.1.2 with ⟨e, _⟩ | ⟨g', cap', cur, e, _, _, r1, _⟩
    · injection e with e1 e2 e3
      omega
    · injection e with e1 e2 e3
      omega
  obtain ⟨el, hel⟩ : ∃ el, el = encM m c := ⟨_, rfl⟩
  rw [← hel] at hnk hl7 hfo HBY HBS ⊢
  have HEL := Lib.hid hel
  generalize hn : el.length = n at *
  have HN := Lib.hid hn
  have HNONE := Lib.hid (show ao = none → n = 0 ∧ k = 0 by
    obtain ⟨ao', cap', e, h⟩ := hfo
    injection e with e1 e2 e3
    subst e1 e3
    exact h)
  clear hel hn hfo hby hnew hyes
  have CD := Lib.hid (by
    have := decode_any w3 ao k el HBS.out (fun e => ⟨List.eq_nil_of_length_eq_zero (by rw [HN.out]; exact (HNONE.out e).1), (HNONE.out e).2⟩) (by rw [HN.out]; omega) HBY.out (Tab.on HT.out HB3.out)
    rw [HN.out] at this
    exact this)
  go_wp2_with fail
  refine Calls.mono CD.out ?_
  rintro e w4 ⟨m1, c1, err, rfl, hd, hb⟩
  rw [HEL.out] at hd
  obtain ⟨rfl, hi1, ha1, ho1, hs1⟩ := dec_yes HAT3.out HOK.out HYES.out hd
  have HB4 := Lib.hid (Below.up HB3.out hb)
  have HBX4 := Lib.hid (box_on HBX3.out hb)
  have HAT4 := Lib.hid (HAT3.out.below hb)
  have HBS4 := Lib.hid (bytes_below HBS.out hb (Nat.le_refl _))
  have HI1 := Lib.hid hi1
  have HA1 := Lib.hid ha1
  have HO1 := Lib.hid ho1
  have HS1 := Lib.hid hs1
  clear hb hd hi1 ha1 ho1 hs1 CD HB3 HBX3 HAT3 HBS
  obtain ⟨V, hV⟩ : ∃ V, V = w4.alloc (.cells Vz.toArray 37) := ⟨_, rfl⟩
  obtain ⟨U, hU⟩ : ∃ U, U = V.setCells w4.heap.size 0 m1.cells := ⟨_, rfl⟩
  obtain ⟨u1, u2, u3⟩ := msg_new w4 m1 (show U = (w4.alloc (.cells Vz.toArray 37)).setCells w4.heap.size 0 m1.cells by rw [hU, hV])
  rw [← hV] at u3
  have HV := Lib.hid hV
  obtain ⟨gy, hgy⟩ : ∃ gy, gy = w4.heap.size := ⟨_, rfl⟩
  have HGYE := Lib.hid hgy
  rw [← hgy] at hU u3 u1
  have HU := Lib.hid hU
  have HT1 := Lib.hid u3
  have HY := Lib.hid u1
  have HUB := Lib.hid u2
  clear hU u1 u2 u3 hV hgy
  rename_i K1 hK1 K2 hK2
  refine hK2 _ _ ?_
  clear hK2 K2
  refine wpl_val (v := .tuple #[.agg m1.cells.toArray, .int .i64 0]) (w1 := w4) rfl (by go_simp) ({ tmps := #[_, _, _, _, _, _, _, _, _, _, _, _, _, _, _, _, _, _, _, _, _, _, _, _, _, .tuple #[.agg m1.cells.toArray, .int .i64 0], _, .tuple #[.agg m1.cells.toArray, .int .i64 0], _, _, _, _, _, _, _, _, _, _, _, _, _, _, _, _, _, _, _, _, _, _, _, _, _, _, _, _, _, _, _, _, _, _, _, _, _, _, _, _, _, _, _, _], defers := [] }) rfl ?_
  refine wpl_val (v := .agg m1.cells.toArray) (w1 := w4) rfl (by go_simp) ({ tmps := #[_, _, _, _, _, _, _, _, _, _, _, _, _, _, _, _, _, _, _, _, _, _, _, _, _, .tuple #[.agg m1.cells.toArray, .int .i64 0], _, .tuple #[.agg m1.cells.toArray, .int .i64 0], .agg m1.cells.toArray, _, _, _, _, _, _, _, _, _, _, _, _, _, _, _, _, _, _, _, _, _, _, _, _, _, _, _, _, _, _, _, _, _, _, _, _, _, _, _, _, _, _, _], defers := [] }) rfl ?_
  refine wpl_val (v := .int .i64 0) (w1 := w4) rfl (by go_simp) ({ tmps := #[_, _, _, _, _, _, _, _, _, _, _, _, _, _, _, _, _, _, _, _, _, _, _, _, _, .tuple #[.agg m1.cells.toArray, .int .i64 0], _, .tuple #[.agg m1.cells.toArray, .int .i64 0], .agg m1.cells.toArray, .int .i64 0, _, _, _, _, _, _, _, _, _, _, _, _, _, _, _, _, _, _, _, _, _, _, _, _, _, _, _, _, _, _, _, _, _, _, _, _, _, _, _, _, _, _], defers := [] }) rfl ?_
  refine wpl_val (v := .pointer (some ⟨gy, 0, none⟩)) (w1 := V) rfl (by have e1 := HV.out; simp only [Vz] at e1; rw [e1, HGYE.out]; go_simp) ({ tmps := #[_, _, _, _, _, _, _, .pointer (some ⟨gy, 0, none⟩), _, _, _, _, _, _, _, _, _, _, _, _, _, _, _, _, _, .tuple #[.agg m1.cells.toArray, .int .i64 0], _, .tuple #[.agg m1.cells.toArray, .int .i64 0], .agg m1.cells.toArray, .int .i64 0, _, _, _, _, _, _, _, _, _, _, _, _, _, _, _, _, _, _, _, _, _, _, _, _, _, _, _, _, _, _, _, _, _, _, _, _, _, _, _, _, _, _], defers := [] }) rfl ?_
  refine wpList_store_mid rfl 37 (.tmp 7) (.tmp 28) rfl gy 0 m1.cells.toArray rfl rfl HT1.out size37 (all_oneCell_toArray (Mg.one _)) ?_
  dsimp only
  rw [← HU.out]
  clear HU HT1 HV HGYE
  have HB5 := Lib.hid (Below.up HB4.out HUB.out)
  have HBX5 := Lib.hid (box_on HBX4.out HUB.out)
  have HAT5 := Lib.hid (HAT4.out.below HUB.out)
  have HBS5 := Lib.hid (bytes_below HBS4.out HUB.out (Nat.le_refl _))
  have HA5 := Lib.hid (HA1.out.below HUB.out)
  clear HUB HB4 HBX4 HAT4 HBS4 HA1
  have HN0 := Lib.hid (show 0 + n ≤ 10000000 by omega)
  go_wp2_with (at_builtin
               refine wpList_app _ rfl (.const (.slice none 0 0)) (.tmp 31) rfl (.slice none 0 0) 0 [] rfl (World.ownsRow_nil _ _ _ _) ao n k el rfl HN.out HBS5.out HNONE.out HN0.out ?_
               intro ao1 cap1 wA ho' hk' hg'
               rw [Nat.zero_add] at ho' hg' ⊢
               have HOA := Lib.hid (show wA.ownsRow 0 5 1 (.slice ao1 n cap1) n (vals el) from ho')
               have HKA := Lib.hid hk'
               have HGA := Lib.hid hg'
               clear ho' hk' hg'
               refine Hid.out ?_)
  refine Lib.hid ?_
  have hbA : Below U.heap.size U wA := HKA.out.below (Nat.le_refl _) (fun k e => by simp [Value.ownBlock] at e)
  have hbX : Below U.heap.size U (wA.alloc (.cells #[.int .u8 0] 5)) := hbA.alloc hbA.size _
  have HBXX := Lib.hid hbX
  have HN1 := Lib.hid (show n + 1 ≤ 10000000 by omega)
  have HOX := Lib.hid (HOA.out.alloc (.cells #[.int .u8 0] 5))
  have HNB := Lib.hid (show Bytes (wA.alloc (.cells #[.int .u8 0] 5)) (some ⟨wA.heap.size, 0, none⟩) [0] from bytes_new wA [0] 5)
  clear hbA hbX HKA HOA HN0
  go_wp2_with (at_builtin
               refine wpList_app _ rfl (.tmp 32) (.tmp 33) rfl (.slice ao1 n cap1) n el rfl HOX.out (some ⟨wA.heap.size, 0, none⟩) 1 1 [0] rfl rfl HNB.out (by intro h; cases h) HN1.out ?_
               intro ao2 cap2 wB ho' hk' hg'
               have HOB := Lib.hid ho'
               have HKB := Lib.hid hk'
               clear ho' hk' hg'
               refine Hid.out ?_)
  refine Lib.hid ?_
  have hbB : Below U.heap.size U wB := HBXX.out.trans (HKB.out.below HBXX.out.size (fun k e => by
    rcases HGA.out with h | h
    · rw [h] at e; simp [Value.ownBlock] at e
    · rw [h] at e; injection e with e; omega))
  have HBB := Lib.hid hbB
  have HELB := Lib.hid (show (el ++ [0]).length = n + 1 by rw [List.length_append, HN.out]; rfl)
  have HBYB := Lib.hid (show ∀ x ∈ el ++ [0], isByte x from fun x hx => by
    rcases List.mem_append.1 hx with h | h
    · exact HBY.out x h
    · simp at h; rw [h]; exact ⟨by decide, by decide⟩)
  have CE := Lib.hid (by
    have hf := own_form HOB.out
    have := decode_any wB ao2 cap2 (el ++ [0]) (own_bytes HOB.out) (fun e => by
      obtain ⟨ao', cap', e1, h⟩ := hf
      injection e1 with e1 e2 e3
      subst e1 e3
      have := (h e).1
      omega) (by rw [HELB.out]; omega) HBYB.out (Tab.on HT.out (Below.up HB5.out HBB.out))
    rw [HELB.out] at this
    exact this)
  clear hbB HBXX HKB HGA HOX HNB HN1 HOB HBYB
  go_wp2_with fail
  refine Calls.mono CE.out ?_
  rintro e w6 ⟨m2, c2, f2, rfl, hd, hb⟩
  rw [HEL.out] at hd
  have hf2 := dec_more HAT5.out HOK.out HYES.out hd
  have hUB := Below.up HBB.out hb
  have HB6 := Lib.hid (Below.up HB5.out hUB)
  have HBX6 := Lib.hid (box_on HBX5.out hUB)
  have HAT6 := Lib.hid (HAT5.out.below hUB)
  have HBS6 := Lib.hid (bytes_below HBS5.out hUB (Nat.le_refl _))
  have HA6 := Lib.hid (HA5.out.below hUB)
  have HY6 := Lib.hid (box_on HY.out hUB)
  clear hb hd hUB CE HBB HELB HB5 HBX5 HAT5 HBS5 HA5 HY
  obtain ⟨Y, hV⟩ : ∃ Y, Y = w6.alloc (.cells Vz.toArray 37) := ⟨_, rfl⟩
  obtain ⟨X, hU⟩ : ∃ X, X = Y.setCells w6.heap.size 0 m2.cells := ⟨_, rfl⟩
  obtain ⟨u1, u2, u3⟩ := msg_new w6 m2 (show X = (w6.alloc (.cells Vz.toArray 37)).setCells w6.heap.size 0 m2.cells by rw [hU, hV])
  rw [← hV] at u3
  have HV := Lib.hid hV
  obtain ⟨gz, hgy⟩ : ∃ gz, gz = w6.heap.size := ⟨_, rfl⟩
  have HGYE := Lib.hid hgy
  rw [← hgy] at hU u3 u1
  have HU := Lib.hid hU
  have HT1 := Lib.hid u3
  have HZ := Lib.hid u1
  have HUB := Lib.hid u2
  clear hU u1 u2 u3 hV hgy
  rename_i K1 hK1 K2 hK2
  refine hK2 _ _ ?_
  clear hK2 K2
  refine wpl_val (v := .tuple #[.agg m2.cells.toArray, .int .i64 f2]) (w1 := w6) rfl (by go_simp) ({ tmps := #[_, _, _, _, _, _, _, _, _, _, _, _, _, _, _, _, _, _, _, _, _, _, _, _, _, _, _, _, _, _, .tuple #[.agg m2.cells.toArray, .int .i64 f2], _, _, _, _, .tuple #[.agg m2.cells.toArray, .int .i64 f2], _, _, _, _, _, _, _, _, _, _, _, _, _, _, _, _, _, _, _, _, _, _, _, _, _, _, _, _, _, _, _, _, _, _, _, _], defers := [] }) rfl ?_
  refine wpl_val (v := .agg m2.cells.toArray) (w1 := w6) rfl (by go_simp) ({ tmps := #[_, _, _, _, _, _, _, _, _, _, _, _, _, _, _, _, _, _, _, _, _, _, _, _, _, _, _, _, _, _, .tuple #[.agg m2.cells.toArray, .int .i64 f2], _, _, _, _, .tuple #[.agg m2.cells.toArray, .int .i64 f2], .agg m2.cells.toArray, _, _, _, _, _, _, _, _, _, _, _, _, _, _, _, _, _, _, _, _, _, _, _, _, _, _, _, _, _, _, _, _, _, _, _], defers := [] }) rfl ?_
  refine wpl_val (v := .int .i64 f2) (w1 := w6) rfl (by go_simp) ({ tmps := #[_, _, _, _, _, _, _, _, _, _, _, _, _, _, _, _, _, _, _, _, _, _, _, _, _, _, _, _, _, _, .tuple #[.agg m2.cells.toArray, .int .i64 f2], _, _, _, _, .tuple #[.agg m2.cells.toArray, .int .i64 f2], .agg m2.cells.toArray, .int .i64 f2, _, _, _, _, _, _, _, _, _, _, _, _, _, _, _, _, _, _, _, _, _, _, _, _, _, _, _, _, _, _, _, _, _, _], defers := [] }) rfl ?_
  refine wpl_val (v := .pointer (some ⟨gz, 0, none⟩)) (w1 := Y) rfl (by have e1 := HV.out; simp only [Vz] at e1; rw [e1, HGYE.out]; go_simp) ({ tmps := #[_, _, _, _, _, _, _, _, .pointer (some ⟨gz, 0, none⟩), _, _, _, _, _, _, _, _, _, _, _, _, _, _, _, _, _, _, _, _, _, .tuple #[.agg m2.cells.toArray, .int .i64 f2], _, _, _, _, .tuple #[.agg m2.cells.toArray, .int .i64 f2], .agg m2.cells.toArray, .int .i64 f2, _, _, _, _, _, _, _, _, _, _, _, _, _, _, _, _, _, _, _, _, _, _, _, _, _, _, _, _, _, _, _, _, _, _], defers := [] }) rfl ?_
  refine wpList_store_mid rfl 37 (.tmp 8) (.tmp 36) rfl gz 0 m2.cells.toArray rfl rfl HT1.out size37 (all_oneCell_toArray (Mg.one _)) ?_
  dsimp only
  rw [← HU.out]
  clear HU HT1 HV HGYE
  have HB7 := Lib.hid (Below.up HB6.out HUB.out)
  have HBX7 := Lib.hid (box_on HBX6.out HUB.out)
  have HAT7 := Lib.hid (HAT6.out.below HUB.out)
  have HBS7 := Lib.hid (bytes_below HBS6.out HUB.out (Nat.le_refl _))
  have HA7 := Lib.hid (HA6.out.below HUB.out)
  have HY7 := Lib.hid (box_on HY6.out HUB.out)
  clear HUB HB6 HBX6 HAT6 HBS6 HA6 HY6 HZ
  go_upto_region 10 with fail
  refine wp_region_lit ?_
  refine wpl_val (v := .int .i64 0) (w1 := X) rfl (by go_simp) ({ tmps := #[_, _, _, _, _, _, _, _, _, _, _, _, _, _, _, _, _, _, _, _, _, _, _, _, _, _, _, _, _, _, _, _, _, _, _, _, _, _, .int .i64 0, _, _, _, _, _, _, _, _, _, _, _, _, _, _, _, _, _, _, _, _, _, _, _, _, _, _, _, _, _, _, _, _, _], defers := [] }) rfl ?_
  refine wpl_val (v := .bool false) (w1 := X) rfl (by go_simp) ({ tmps := #[_, _, _, _, _, _, _, _, _, _, _, _, _, _, _, _, _, _, _, _, _, _, _, _, _, _, _, _, _, _, _, _, _, _, _, _, _, _, .int .i64 0, .bool false, _, _, _, _, _, _, _, _, _, _, _, _, _, _, _, _, _, _, _, _, _, _, _, _, _, _, _, _, _, _, _, _], defers := [] }) rfl ?_
  refine wpl_val (v := .bool false) (w1 := X) rfl (by go_simp) ({ tmps := #[_, _, _, _, _, _, _, _, _, _, _, _, _, _, _, _, _, _, _, _, _, _, _, _, _, _, _, _, _, _, _, _, _, _, _, _, _, _, .int .i64 0, .bool false, .bool false, _, _, _, _, _, _, _, _, _, _, _, _, _, _, _, _, _, _, _, _, _, _, _, _, _, _, _, _, _, _, _], defers := [] }) rfl ?_
  refine wpl_valg (v := .agg m1.cells.toArray) (w1 := X) rfl (exec_load 37 (.tmp 7) rfl rfl (msg_load HY7.out)) ({ tmps := #[_, _, _, _, _, _, _, _, _, _, _, _, _, _, _, _, _, _, _, _, _, _, _, _, _, _, _, _, _, _, _, _, _, _, _, _, _, _, .int .i64 0, .bool false, .bool false, .agg m1.cells.toArray, _, _, _, _, _, _, _, _, _, _, _, _, _, _, _, _, _, _, _, _, _, _, _, _, _, _, _, _, _, _], defers := [] }) rfl ?_
  refine wpl_valg (v := .agg m.cells.toArray) (w1 := X) rfl (exec_load 37 (.tmp 2) rfl rfl (msg_load HBX7.out)) ({ tmps := #[_, _, _, _, _, _, _, _, _, _, _, _, _, _, _, _, _, _, _, _, _, _, _, _, _, _, _, _, _, _, _, _, _, _, _, _, _, _, .int .i64 0, .bool false, .bool false, .agg m1.cells.toArray, .agg m.cells.toArray, _, _, _, _, _, _, _, _, _, _, _, _, _, _, _, _, _, _, _, _, _, _, _, _, _, _, _, _, _], defers := [] }) rfl ?_
  go_wp2_with fail
  refine Calls.mono (same_any X m1 m c1 c HA7.out HAT7.out) ?_
  rintro e w8 ⟨rfl, hb⟩
  rw [HS1.out]
  have HB8 := Lib.hid (Below.up HB7.out hb)
  have HAT8 := Lib.hid (HAT7.out.below hb)
  have HBS8 := Lib.hid (bytes_below HBS7.out hb (Nat.le_refl _))
  have HA8 := Lib.hid (HA7.out.below hb)
  have HY8 := Lib.hid (box_on HY7.out hb)
  clear hb HB7 HAT7 HBS7 HA7 HY7 HBX7 HS1
  have hf20 : (f2 == 0) = false := by simpa using hf2
  rename_i K1 hK1 K2 hK2
  refine hK2 _ _ ?_
  clear hK2 K2
  refine wpl_valg (v := .bool false) (w1 := w8) rfl (by go_simp) ({ tmps := #[_, _, _, _, _, _, _, _, _, _, _, _, _, _, _, _, _, _, _, _, _, _, _, _, _, _, _, _, _, _, _, _, _, _, _, _, _, _, .int .i64 0, .bool false, .bool false, .agg m1.cells.toArray, .agg m.cells.toArray, .bool true, .bool false, _, _, _, _, _, _, _, _, _, _, _, _, _, _, _, _, _, _, _, _, _, _, _, _, _, _, _], defers := [] }) rfl ?_
  refine wpl_val (v := .bool false) (w1 := w8) rfl (by go_simp) ({ tmps := #[_, _, _, _, _, _, _, _, _, _, _, _, _, _, _, _, _, _, _, _, _, _, _, _, _, _, _, _, _, _, _, _, _, _, _, _, _, _, .int .i64 0, .bool false, .bool false, .agg m1.cells.toArray, .agg m.cells.toArray, .bool true, .bool false, .bool false, _, _, _, _, _, _, _, _, _, _, _, _, _, _, _, _, _, _, _, _, _, _, _, _, _, _], defers := [] }) rfl ?_
  refine wpl_val (v := .bool false) (w1 := w8) rfl (by go_simp) ({ tmps := #[_, _, _, _, _, _, _, _, _, _, _, _, _, _, _, _, _, _, _, _, _, _, _, _, _, _, _, _, _, _, _, _, _, _, _, _, _, _, .int .i64 0, .bool false, .bool false, .agg m1.cells.toArray, .agg m.cells.toArray, .bool true, .bool false, .bool false, .bool false, _, _, _, _, _, _, _, _, _, _, _, _, _, _, _, _, _, _, _, _, _, _, _, _, _], defers := [] }) rfl ?_
  refine wpl_valg (v := .int .i64 f2) (w1 := w8) rfl (by go_simp) ({ tmps := #[_, _, _, _, _, _, _, _, _, _, _, _, _, _, _, _, _, _, _, _, _, _, _, _, _, _, _, _, _, _, _, _, _, _, _, _, _, _, .int .i64 0, .bool false, .bool false, .agg m1.cells.toArray, .agg m.cells.toArray, .bool true, .bool false, .bool false, .bool false, .int .i64 f2, _, _, _, _, _, _, _, _, _, _, _, _, _, _, _, _, _, _, _, _, _, _, _, _], defers := [] }) rfl ?_
  refine wpl_valg (v := .bool false) (w1 := w8) rfl (by go_simp) ({ tmps := #[_, _, _, _, _, _, _, _, _, _, _, _, _, _, _, _, _, _, _, _, _, _, _, _, _, _, _, _, _, _, _, _, _, _, _, _, _, _, .int .i64 0, .bool false, .bool false, .agg m1.cells.toArray, .agg m.cells.toArray, .bool true, .bool false, .bool false, .bool false, .int .i64 f2, .bool false, _, _, _, _, _, _, _, _, _, _, _, _, _, _, _, _, _, _, _, _, _, _, _], defers := [] }) rfl ?_
  refine wpl_val (v := .bool false) (w1 := w8) rfl (by go_simp) ({ tmps := #[_, _, _, _, _, _, _, _, _, _, _, _, _, _, _, _, _, _, _, _, _, _, _, _, _, _, _, _, _, _, _, _, _, _, _, _, _, _, .int .i64 0, .bool false, .bool false, .agg m1.cells.toArray, .agg m.cells.toArray, .bool true, .bool false, .bool false, .bool false, .int .i64 f2, .bool false, .bool false, _, _, _, _, _, _, _, _, _, _, _, _, _, _, _, _, _, _, _, _, _, _], defers := [] }) rfl ?_
  refine wpl_val (v := .bool false) (w1 := w8) rfl (by go_simp) ({ tmps := #[_, _, _, _, _, _, _, _, _, _, _, _, _, _, _, _, _, _, _, _, _, _, _, _, _, _, _, _, _, _, _, _, _, _, _, _, _, _, .int .i64 0, .bool false, .bool false, .agg m1.cells.toArray, .agg m.cells.toArray, .bool true, .bool false, .bool false, .bool false, .int .i64 f2, .bool false, .bool false, .bool false, _, _, _, _, _, _, _, _, _, _, _, _, _, _, _, _, _, _, _, _, _], defers := [] }) rfl ?_
  refine wpl_valg (v := .agg m1.cells.toArray) (w1 := w8) rfl (exec_load 37 (.tmp 7) rfl rfl (msg_load HY8.out)) ({ tmps := #[_, _, _, _, _, _, _, _, _, _, _, _, _, _, _, _, _, _, _, _, _, _, _, _, _, _, _, _, _, _, _, _, _, _, _, _, _, _, .int .i64 0, .bool false, .bool false, .agg m1.cells.toArray, .agg m.cells.toArray, .bool true, .bool false, .bool false, .bool false, .int .i64 f2, .bool false, .bool false, .bool false, .agg m1.cells.toArray, _, _, _, _, _, _, _, _, _, _, _, _, _, _, _, _, _, _, _, _], defers := [] }) rfl ?_
  go_wp2_with fail
  refine Calls.mono (is_all w8 m1 c1 HA8.out HO1.out (Tab.on HT.out HB8.out)) ?_
  rintro e w9 ⟨rfl, hb⟩
  rw [HI1.out]
  have HB9 := Lib.hid (Below.up HB8.out hb)
  have HAT9 := Lib.hid (HAT8.out.below hb)
  have HBS9 := Lib.hid (bytes_below HBS8.out hb (Nat.le_refl _))
  clear hb HB8 HAT8 HBS8 HA8 HY8 HI1 HO1
  by_cases h1 : cut < 0
  · go_wp2_with fail
    go_ret
    exact ⟨rfl, HB9.out⟩
  by_cases h2 : (n : Int) ≤ cut
  · go_wp2_with fail
    go_ret
    exact ⟨rfl, HB9.out⟩
  obtain ⟨q, rfl⟩ : ∃ q : Nat, cut = q := ⟨cut.toNat, by omega⟩
  have hqn : q < n := by omega
  have hqk : q ≤ k := by omega
  have hlt : ((encM m c).take q).length = q := by rw [List.length_take, ← HEL.out, HN.out]; omega
  have HLT := Lib.hid hlt
  have CF := Lib.hid (by
    have := decode_any w9 ao k ((encM m c).take q) (fun i hi => by
      rw [HLT.out] at hi
      obtain ⟨ad, e1, e2⟩ := HBS9.out i (by rw [HN.out]; omega)
      refine ⟨ad, e1, ?_⟩
      rw [e2, ← HEL.out]
      simp only [List.getD_eq_getElem?_getD]
      rw [List.getElem?_take_of_lt hi]) (fun e => by have := (HNONE.out e).1; omega) (by rw [HLT.out]; omega) (fun x hx => HBY.out x (by rw [HEL.out]; exact List.mem_of_mem_take hx)) (Tab.on HT.out HB9.out)
    rw [HLT.out] at this
    exact this)
  clear hlt h1 h2
  cases ao with
  | none => have := (HNONE.out rfl).1; omega
  | some ad =>
  have hnn : ¬ n = 0 := by omega
  have hkk : ¬ k = 0 := by omega
  go_wp2_with fail
  refine Calls.mono CF.out ?_
  rintro e wC ⟨m3, c3, f3, rfl, hd, hb⟩
  have hf3 := dec_cut HAT9.out HOK.out HYES.out (by rw [← HEL.out, HN.out]; exact hqn) hd
  have hf30 : (f3 != 0) = true := by simpa using hf3
  have HBC := Lib.hid (Below.up HB9.out hb)
  clear hb hd CF
  go_wp2_with fail
  go_ret
  exact ⟨rfl, HBC.out⟩
end Go.Proofs.YtmkeckablkccnaaDoor
