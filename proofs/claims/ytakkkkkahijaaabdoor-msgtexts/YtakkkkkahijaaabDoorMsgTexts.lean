/- For every two requests MsgTexts returns true and leaves its arguments as they were; the tables that strconv and math/bits read are as the program's own text lays them (the card ties them). No other condition. -/
import Derived.Test.YtakkkkkahijaaabDoorKnown
import Derived.Test.YtakkkkkahijaaabDoorInj
import Derived.Test.YtakkkkkahijaaabDoorTie
import Derived.Test.YtakkkkkahijaaabDoorCards
import Derived.ProofKit
import Derived.OpenShut
import Derived.LaidMore
import Derived.Lay
import Derived.SevenTiedAt
import Derived.Stop.Joined
import Derived.Stop.LaidErr
import Derived.Lib.LaidTab
namespace Go.Proofs.YtakkkkkahijaaabDoor.msgTexts
open Go.ChangeShapes Go.WideShapes Go.ChangeAt Go.RowKit
set_option maxRecDepth 100000

theorem req_load {w' : World} {g : Nat} {r : Rq} (h : w'.heap[g]? = some (.cells r.cells.toArray 27 (0, 0))) : (Instr.loadAt 27 (.pointer (some ⟨g, 0, none⟩))).run Tryd.prog w' = .ok (.agg r.cells.toArray) w' := by
  have := run_loadVar_row (P := Tryd.prog) w' g 27 27 _ (0, 0) _ h Tryd.underlying27 rfl size27
  simp only [Instr.loadAt, Instr.sureAddr, Sem.run_bind, Sem.run_pure, Result.andThen_ok, this]

set_option maxHeartbeats 8000000 in
theorem texts_any (a b : Rq) (hra : a.ok) (hrb : b.ok) (w : World) (ht : Tab w) : Calls Tryd.prog 3 #[.agg a.cells.toArray, .agg b.cells.toArray] w fun e w' => e = .returned (.bool true) ∧ Below w.heap.size w w' := by
  obtain ⟨W, hW⟩ : ∃ W, W = (w.alloc (.cells a.cells.toArray 27)).alloc (.cells b.cells.toArray 27) := ⟨_, rfl⟩
  have hWs : W.heap.size = w.heap.size + 2 := by rw [hW]; simp
  have hWb : Below w.heap.size w W := by rw [hW]; exact ((Below.refl _ _).alloc (Nat.le_refl _) _).alloc (by simp) _
  have fa : ∀ w', Below W.heap.size W w' → w'.heap[w.heap.size]? = some (.cells a.cells.toArray 27 (0, 0)) := fun w' h => by rw [h.block w.heap.size (by omega), hW]; exact heap_alloc2_old _ _ _
  have fb : ∀ w', Below W.heap.size W w' → w'.heap[w.heap.size + 1]? = some (.cells b.cells.toArray 27 (0, 0)) := fun w' h => by rw [h.block (w.heap.size + 1) (by omega), hW]; exact heap_alloc2_new _ _ _
  have hT := Tab.on ht hWb
  have LA := Lib.hid (fun w' h => req_load (fa w' h))
  have LB := Lib.hid (fun w' h => req_load (fb w' h))
  have CK := Lib.hid (fun w' (h : Below W.heap.size W w') => known_any w' (Tab.on hT h))
  have CA := Lib.hid (fun w' (h : Below W.heap.size W w') => text_any a hra w' (Tab.on hT h))
  have CB := Lib.hid (fun w' (h : Below W.heap.size W w') => text_any b hrb w' (Tab.on hT h))
  have EQ := Lib.hid (fun w => eql27 a b w)
  have EG := Lib.hid (fun op x y w => guard27 op x y a b w)
  have TQ := Lib.hid (fun w => text_eql a b hra hrb w)
  have TG := Lib.hid (fun op x y w => (GuardAt.string Tryd.prog 9) op x y (⟨a.text.toArray⟩ : ByteArray) (⟨b.text.toArray⟩ : ByteArray) w)
  have BQ := Lib.hid (fun w => show (binOp .eql 4 (.bool (decide (a = b))) (.bool (decide (a = b)))).run Tryd.prog w = .ok (.bool true) w by simp [binOp, run_equal_bool w 4 _ _ Tryd.underlying4])
  have BG := Lib.hid (fun op x y w => (GuardAt.bool Tryd.prog 4) op x y (decide (a = b)) (decide (a = b)) w)
  have HWB := Lib.hid hWb
  have HWS := Lib.hid hWs
  have hW0 := Below.refl W.heap.size W
  simp only [Rq.cells] at hW ⊢
  have HW := Lib.hid hW
  clear hWb hWs hW fa fb hT ht
  go_enter Tryd.func3, Tryd.ntmps3
  go_wp2_with fail
  rw [← HW.out]
  have eA : (#[.int .u8 a.c, .int .u32 a.t, .int .u8 a.k, .int .u8 a.y, .int .u16 a.v] : Array Value) = a.cells.toArray := rfl
  have eB : (#[.int .u8 b.c, .int .u32 b.t, .int .u8 b.k, .int .u8 b.y, .int .u16 b.v] : Array Value) = b.cells.toArray := rfl
  rw [eA, eB]
  clear eA eB HW
  generalize a.cells.toArray = ra at *
  generalize b.cells.toArray = rb at *
  generalize (⟨a.text.toArray⟩ : ByteArray) = ta at *
  generalize (⟨b.text.toArray⟩ : ByteArray) = tb at *
  generalize decide (a = b) = eb at *
  generalize hg : w.heap.size = g at *
  refine wp_region_held_drew (S := fun w' => Below W.heap.size W w') (by kernel_rfl) hW0.drew (fun hS => ?_)
  refine wpAnyH_ready (rs := [0]) (by kernel_rfl) (by simp) ?_
  refine AllReadyH.cons rfl (fun K hK => ?_) AllReadyH.nil
  rw [if_pos (by rfl)]
  go_simp
  refine Calls.mono (CK.out _ hS) ?_
  rintro e w1 ⟨rfl, hb⟩
  refine hK.out ({ tmps := #[.agg ra, .agg rb, .pointer (some ⟨g, 0, none⟩), .pointer (some ⟨g + 1, 0, none⟩), .bool false, .bool true, undef, undef, undef, undef, undef, undef, undef, undef, undef, undef, undef], defers := [] }) w1 (Below.up hS hb) (fun hS => ?_)
  clear hK K
  refine takeA (i := 1) (v := .bool true) ({ tmps := #[.agg ra, .agg rb, .pointer (some ⟨g, 0, none⟩), .pointer (some ⟨g + 1, 0, none⟩), .bool false, .bool true, .bool true, undef, undef, undef, undef, undef, undef, undef, undef, undef, undef], defers := [] }) rfl (by kernel_rfl) (by kernel_rfl) (by kernel_rfl) (fun _ _ _ h => h) (.inl ⟨rfl, fun _ _ => rfl⟩) hS rfl ?_
  refine takeA (i := 2) (v := .agg ra) ({ tmps := #[.agg ra, .agg rb, .pointer (some ⟨g, 0, none⟩), .pointer (some ⟨g + 1, 0, none⟩), .bool false, .bool true, .bool true, .agg ra, undef, undef, undef, undef, undef, undef, undef, undef, undef], defers := [] }) rfl (by kernel_rfl) (by kernel_rfl) (by kernel_rfl) (fun _ _ _ h => h) (yi_load 27 (.tmp 2) _ rfl rfl rfl LA.out) hS rfl ?_
  refine takeA (i := 4) (v := .agg rb) ({ tmps := #[.agg ra, .agg rb, .pointer (some ⟨g, 0, none⟩), .pointer (some ⟨g + 1, 0, none⟩), .bool false, .bool true, .bool true, .agg ra, undef, .agg rb, undef, undef, undef, undef, undef, undef, undef], defers := [] }) rfl (by kernel_rfl) (by kernel_rfl) (by kernel_rfl) (fun _ _ _ h => h) (yi_load 27 (.tmp 3) _ rfl rfl rfl LB.out) hS rfl ?_
  refine takeA (i := 7) (v := .agg ra) ({ tmps := #[.agg ra, .agg rb, .pointer (some ⟨g, 0, none⟩), .pointer (some ⟨g + 1, 0, none⟩), .bool false, .bool true, .bool true, .agg ra, undef, .agg rb, undef, undef, .agg ra, undef, undef, undef, undef], defers := [] }) rfl (by kernel_rfl) (by kernel_rfl) (by kernel_rfl) (fun _ _ _ h => h) (yi_load 27 (.tmp 2) _ rfl rfl rfl LA.out) hS rfl ?_
  refine takeA (i := 8) (v := .agg rb) ({ tmps := #[.agg ra, .agg rb, .pointer (some ⟨g, 0, none⟩), .pointer (some ⟨g + 1, 0, none⟩), .bool false, .bool true, .bool true, .agg ra, undef, .agg rb, undef, undef, .agg ra, .agg rb, undef, undef, undef], defers := [] }) rfl (by kernel_rfl) (by kernel_rfl) (by kernel_rfl) (fun _ _ _ h => h) (yi_load 27 (.tmp 3) _ rfl rfl rfl LB.out) hS rfl ?_
  refine takeA (i := 9) (v := .bool eb) ({ tmps := #[.agg ra, .agg rb, .pointer (some ⟨g, 0, none⟩), .pointer (some ⟨g + 1, 0, none⟩), .bool false, .bool true, .bool true, .agg ra, undef, .agg rb, undef, undef, .agg ra, .agg rb, .bool eb, undef, undef], defers := [] }) rfl (by kernel_rfl) (by kernel_rfl) (by kernel_rfl) (fun _ _ _ h => h) (yi_eql rfl 27 (.tmp 12) (.tmp 13) rfl rfl rfl EQ.out EG.out) hS rfl ?_
  refine wpAnyH_ready (rs := [3]) (by kernel_rfl) (by simp) ?_
  refine AllReadyH.cons rfl (fun K hK => ?_) AllReadyH.nil
  rw [if_pos (by rfl)]
  go_simp
  refine Calls.mono (CA.out _ hS) ?_
  rintro e w2 ⟨rfl, hb⟩
  refine hK.out ({ tmps := #[.agg ra, .agg rb, .pointer (some ⟨g, 0, none⟩), .pointer (some ⟨g + 1, 0, none⟩), .bool false, .bool true, .bool true, .agg ra, .string ta, .agg rb, undef, undef, .agg ra, .agg rb, .bool eb, undef, undef], defers := [] }) w2 (Below.up hS hb) (fun hS => ?_)
  clear hK K
  refine wpAnyH_ready (rs := [5]) (by kernel_rfl) (by simp) ?_
  refine AllReadyH.cons rfl (fun K hK => ?_) AllReadyH.nil
  rw [if_pos (by rfl)]
  go_simp
  refine Calls.mono (CB.out _ hS) ?_
  rintro e w3 ⟨rfl, hb⟩
  refine hK.out ({ tmps := #[.agg ra, .agg rb, .pointer (some ⟨g, 0, none⟩), .pointer (some ⟨g + 1, 0, none⟩), .bool false, .bool true, .bool true, .agg ra, .string ta, .agg rb, .string tb, undef, .agg ra, .agg rb, .bool eb, undef, undef], defers := [] }) w3 (Below.up hS hb) (fun hS => ?_)
  clear hK K
  refine takeA (i := 6) (v := .bool eb) ({ tmps := #[.agg ra, .agg rb, .pointer (some ⟨g, 0, none⟩), .pointer (some ⟨g + 1, 0, none⟩), .bool false, .bool true, .bool true, .agg ra, .string ta, .agg rb, .string tb, .bool eb, .agg ra, .agg rb, .bool eb, undef, undef], defers := [] }) rfl (by kernel_rfl) (by kernel_rfl) (by kernel_rfl) (fun _ _ _ h => h) (yi_eql rfl 9 (.tmp 8) (.tmp 10) rfl rfl rfl TQ.out TG.out) hS rfl ?_
  refine takeA (i := 10) (v := .bool true) ({ tmps := #[.agg ra, .agg rb, .pointer (some ⟨g, 0, none⟩), .pointer (some ⟨g + 1, 0, none⟩), .bool false, .bool true, .bool true, .agg ra, .string ta, .agg rb, .string tb, .bool eb, .agg ra, .agg rb, .bool eb, .bool true, undef], defers := [] }) rfl (by kernel_rfl) (by kernel_rfl) (by kernel_rfl) (fun _ _ _ h => h) (yi_eql rfl 4 (.tmp 11) (.tmp 14) rfl rfl rfl BQ.out BG.out) hS rfl ?_
  refine takeA (i := 11) (v := .bool true) ({ tmps := #[.agg ra, .agg rb, .pointer (some ⟨g, 0, none⟩), .pointer (some ⟨g + 1, 0, none⟩), .bool false, .bool true, .bool true, .agg ra, .string ta, .agg rb, .string tb, .bool eb, .agg ra, .agg rb, .bool eb, .bool true, .bool true], defers := [] }) rfl (by kernel_rfl) (by kernel_rfl) (by kernel_rfl) (fun _ _ _ h => h) (.inl ⟨rfl, fun _ _ => rfl⟩) hS rfl ?_
  refine takeA (i := 12) (v := .bool true) ({ tmps := #[.agg ra, .agg rb, .pointer (some ⟨g, 0, none⟩), .pointer (some ⟨g + 1, 0, none⟩), .bool true, .bool true, .bool true, .agg ra, .string ta, .agg rb, .string tb, .bool eb, .agg ra, .agg rb, .bool eb, .bool true, .bool true], defers := [] }) rfl (by kernel_rfl) (by kernel_rfl) (by kernel_rfl) (fun _ _ _ h => h) (.inl ⟨rfl, fun _ _ => rfl⟩) hS rfl ?_
  refine wpAnyH_done (by kernel_rfl) ?_ _
  go_wp2_with fail
  go_ret
  exact ⟨rfl, by rw [hg]; exact HWB.out.trans (hS.mono (by rw [HWS.out]; omega))⟩

theorem own : ownKnob Tryd.prog.godebug = none := by kernel_rfl
theorem laidOut : laidOutB Tryd.prog = true := by kernel_rfl

theorem tab_of {W : World} (h : laidMetH Tryd.prog Rows.msgTextsRow.laid W) : Tab W := by
  rw [MakeChecks.laidMetH_plain _ _ _ (by kernel_rfl)] at h
  have h3 := h.tail.tail
  exact Lib.tabIs_of_head (g := 0) (t := 139) (e := 31) (n := 20) (by kernel_rfl) (by kernel_rfl) (by kernel_rfl) (by kernel_rfl) (by kernel_rfl) (by kernel_rfl) h3

theorem open_req {H : Type} {enc : TypeId × Value → H} {W : World} {b0 base : Nat} {spare : Nat → Bool} {held : Bool} {v : Value} {d : DataW H} {p : List MemPlace} (hv : Value.okWide Tryd.prog W .any b0 27 v)
    (h : DataW.Trod enc Tryd.prog W base spare held 27 v d p) : ∃ r : Rq, v = .agg r.cells.toArray ∧ r.ok := by
  obtain ⟨cs, rfl, hsz⟩ := okWide_struct Tryd.underlying27 hv
  obtain ⟨fuel, hf⟩ := h
  have c27 : Tryd.prog.cellsOf 27 = 5 := by kernel_rfl
  have c25 : Tryd.prog.cellsOf 25 = 3 := by kernel_rfl
  have c5 : Tryd.prog.cellsOf 5 = 1 := by kernel_rfl
  have c22 : Tryd.prog.cellsOf 22 = 1 := by kernel_rfl
  have c23 : Tryd.prog.cellsOf 23 = 1 := by kernel_rfl
  obtain ⟨l⟩ := cs
  match l, hsz.trans c27 with
  | [x0, x1, x2, x3, x4], _ =>
    obtain ⟨ys, n, _, _, _, hl, hy⟩ := DataW.trod_struct Tryd.underlying27 (show DataW.trod enc Tryd.prog W base spare held fuel 27 [x0, x1, x2, x3, x4] = some (d, p) from hf)
    have g : ∀ j, j < 3 → ∃ y, ys[j]? = some y := fun j hj => ⟨_, List.getElem?_eq_getElem (by rw [hl]; exact hj)⟩
    obtain ⟨y0, e0⟩ := g 0 (by omega)
    obtain ⟨y1, e1⟩ := g 1 (by omega)
    obtain ⟨y2, e2⟩ := g 2 (by omega)
    have f0 : DataW.trod enc Tryd.prog W base spare held n 5 [x0] = some y0 := by
      have this : DataW.trod enc Tryd.prog W base spare held n 5 (([x0, x1, x2, x3, x4].drop 0).take (Tryd.prog.cellsOf 5)) = ys[0]? := hy 0 _ rfl
      rw [c5] at this
      rw [← e0]; exact this
    have f1 : DataW.trod enc Tryd.prog W base spare held n 22 [x1] = some y1 := by
      have this : DataW.trod enc Tryd.prog W base spare held n 22 (([x0, x1, x2, x3, x4].drop 1).take (Tryd.prog.cellsOf 22)) = ys[1]? := hy 1 _ rfl
      rw [c22] at this
      rw [← e1]; exact this
    have f2 : DataW.trod enc Tryd.prog W base spare held n 25 [x2, x3, x4] = some y2 := by
      have this : DataW.trod enc Tryd.prog W base spare held n 25 (([x0, x1, x2, x3, x4].drop 2).take (Tryd.prog.cellsOf 25)) = ys[2]? := hy 2 _ rfl
      rw [c25] at this
      rw [← e2]; exact this
    obtain ⟨zs, n2, _, _, _, hl2, hz⟩ := DataW.trod_struct Tryd.underlying25 f2
    have g2 : ∀ j, j < 3 → ∃ y, zs[j]? = some y := fun j hj => ⟨_, List.getElem?_eq_getElem (by rw [hl2]; exact hj)⟩
    obtain ⟨u0, d0⟩ := g2 0 (by omega)
    obtain ⟨u1, d1⟩ := g2 1 (by omega)
    obtain ⟨u2, d2⟩ := g2 2 (by omega)
    have k0 : DataW.trod enc Tryd.prog W base spare held n2 5 [x2] = some u0 := by
      have this : DataW.trod enc Tryd.prog W base spare held n2 5 (([x2, x3, x4].drop 0).take (Tryd.prog.cellsOf 5)) = zs[0]? := hz 0 _ rfl
      rw [c5] at this
      rw [← d0]; exact this
    have k1 : DataW.trod enc Tryd.prog W base spare held n2 5 [x3] = some u1 := by
      have this : DataW.trod enc Tryd.prog W base spare held n2 5 (([x2, x3, x4].drop 1).take (Tryd.prog.cellsOf 5)) = zs[1]? := hz 1 _ rfl
      rw [c5] at this
      rw [← d1]; exact this
    have k2 : DataW.trod enc Tryd.prog W base spare held n2 23 [x4] = some u2 := by
      have this : DataW.trod enc Tryd.prog W base spare held n2 23 (([x2, x3, x4].drop 2).take (Tryd.prog.cellsOf 23)) = zs[2]? := hz 2 _ rfl
      rw [c23] at this
      rw [← d2]; exact this
    obtain ⟨a0, q0, _, b0⟩ := DataW.trod_int Tryd.underlying5 f0
    obtain ⟨a1, q1, _, b1⟩ := DataW.trod_int Tryd.underlying22 f1
    obtain ⟨a2, q2, _, b2⟩ := DataW.trod_int Tryd.underlying5 k0
    obtain ⟨a3, q3, _, b3⟩ := DataW.trod_int Tryd.underlying5 k1
    obtain ⟨a4, q4, _, b4⟩ := DataW.trod_int Tryd.underlying23 k2
    injection q0 with q0; injection q1 with q1; injection q2 with q2; injection q3 with q3; injection q4 with q4
    subst q0 q1 q2 q3 q4
    refine ⟨⟨a0, a1, a2, a3, a4⟩, rfl, ?_⟩
    simp [Lit.wf, IntKind.min, IntKind.max, IntKind.signed, IntKind.bits] at b0 b1 b2 b3 b4
    unfold Rq.ok
    simp only
    omega

theorem lifted (os : Os) (started : os.Started) (H : Type) (enc : TypeId × Value → H) :
    ReturnsInHanded {} Tryd.checked os 3 .any (fun w args => (Rows.msgTextsSpec.pre enc Tryd.prog Tryd.f3 Rows.msgTextsRow.domain false w args ∧ laidMetH Tryd.prog Rows.msgTextsRow.laid w) ∧ sizedMet enc Tryd.prog Tryd.f3 (OpenSpec.ofChange Rows.msgTextsSpec) false w args)
      (Rows.msgTextsSpec.post enc Tryd.prog Tryd.f3 false true false false) := by
  refine returnsInHanded_of_change_and (C := Tryd.checked) (X := fun w _ => laidMetH Tryd.prog Rows.msgTextsRow.laid w) (fun _ _ _ hh h => h.of_heap hh) own started (by kernel_rfl) Tryd.func3
    (ChangeSpec.witness_shaped (enc := enc) (C := Tryd.checked) (os := os) (X := fun w _ => laidMetH Tryd.prog Rows.msgTextsRow.laid w) false (World.laidAll Tryd.prog os Rows.msgTextsRow.laid) #[.agg #[.int .u8 0, .int .u32 0, .int .u8 0, .int .u8 0, .int .u16 0], .agg #[.int .u8 0, .int .u32 0, .int .u8 0, .int .u8 0, .int .u16 0]] 8 (World.laidAll_os _ _ _)
      (World.shaped_of_ZipB (by kernel_rfl) (by kernel_rfl)) (by kernel_rfl) (by kernel_rfl) (by kernel_rfl)
      (by rw [MakeChecks.laidMetH_plain _ _ _ (by kernel_rfl)]; exact laidMet_laidAll _ (by kernel_rfl) (by kernel_rfl))) ?_
  intro W base args ds gs before hval0 hW hc _ hL _
  have hval : ∀ (j : Nat) t v, Tryd.f3.params[j]? = some t → args[j]? = some v → Value.okWide Tryd.prog W .any base t v := hval0
  have hW' := hW
  obtain ⟨p, q, hA0, hV, rfl, _, _⟩ := hW
  have hA : DataW.TrodAll enc Tryd.prog W 0 (fun _ => true) true Tryd.f3.params.toList args.toList ds p := hA0
  rw [Tryd.params3] at hA hval
  obtain ⟨v0, vs0, d0, ds0, p0, q0, hargs, rfl, rfl, h0, r0⟩ := trodAll_cons hA
  obtain ⟨v1, vs1, d1, ds1, p1, q1, rfl, rfl, rfl, h1, r1⟩ := trodAll_cons r0
  obtain ⟨rfl, rfl, rfl⟩ := trodAll_nil r1
  obtain rfl : args = #[v0, v1] := by cases args; simp_all
  obtain ⟨rfl, rfl⟩ := trodVars_none hV
  obtain ⟨r, rfl, hr⟩ := open_req (hval 0 27 v0 rfl rfl) h0
  obtain ⟨s, rfl, hs⟩ := open_req (hval 1 27 v1 rfl rfl) h1
  have k0 := h0
  have k1 := h1
  have lt0 : ∀ x ∈ p0, x.block < W.heap.size := by obtain ⟨m, hm⟩ := k0; exact DataW.trod_lt m _ _ _ hm
  have lt1 : ∀ x ∈ p1, x.block < W.heap.size := by obtain ⟨m, hm⟩ := k1; exact DataW.trod_lt m _ _ _ hm
  refine (texts_any r s hr hs W (tab_of hL)).mono fun e W' ⟨he, bel⟩ => ?_
  subst he
  exact ⟨_, rfl, _, _, _, [], _, [], hW', trodAll_mk1 (shut_bool Tryd.underlying4 _), (trodAll_cons_mk (Below.trod laidOut (by kernel_rfl) (of_decide_eq_true (by kernel_rfl)) k0 bel lt0) (trodAll_cons_mk (Below.trod laidOut (by kernel_rfl) (of_decide_eq_true (by kernel_rfl)) k1 bel lt1) trodAll_mk0)), rfl, bel.frame _, fun h => by cases h⟩

theorem over : Rows.msgTextsRow.holds Tryd.pinned (OpenSpec.ofChange Rows.msgTextsSpec) :=
  OpenClaim.holds_of_wide 3 Tryd.f3 rfl rfl rfl rfl rfl rfl rfl ⟨rfl, rfl, rfl, rfl, rfl⟩ rfl rfl rfl rfl rfl (by kernel_rfl) Tryd.func3 (by kernel_rfl)
    (of_decide_eq_true (by kernel_rfl)) (by unfold Func.isWrapper; first | (rw [if_pos (by decide +kernel)]; kernel_rfl) | (rw [if_neg (by decide +kernel)]; exact ⟨rfl, rfl⟩))
    (fun os started H enc _ => lifted os started H enc)

theorem proved : Rows.MsgTextsCardSaid :=
  Claim7.holds_tied_plain_at .later [] [.data, .data, .data] true (true, "0d782a694b8d529d4571ffb20e8fbd04820ddd92ed744823baea95051e69e7c6") false over (fun _ h => by cases h) (by kernel_rfl) (fun _ h => by cases h) msgTexts_row_tie rfl ⟨rfl, rfl⟩ (by kernel_rfl) rfl
    (fun f fn hf hfn => by
      obtain rfl : f = 3 := Option.some.inj ((show Tryd.prog.funcNamed "palisade/palisadelaw3.MsgTexts" = some 3 by kernel_rfl).symm.trans hf) |>.symm
      obtain rfl : fn = Tryd.f3 := (Option.some.inj (Tryd.func3.symm.trans hfn)).symm
      exact ⟨by kernel_rfl, fun j t ht => by
        rw [Tryd.params3] at ht
        have hm : t ∈ [27] := by simpa using Array.mem_of_getElem? ht
        have hall : ([27].all fun u => !Tryd.prog.wantsStandIn u) = true := by kernel_rfl
        exact (show Tryd.prog.wantsStandIn t = false by simpa using List.all_eq_true.1 hall t hm)⟩)
    (by kernel_rfl)
#print axioms proved
end Go.Proofs.YtakkkkkahijaaabDoor.msgTexts
