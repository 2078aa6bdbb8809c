/- For every request MsgReqs returns true and leaves its argument as it was; the tables that strconv and math/bits read are as the program's own text lays them (the card ties them). No other condition. -/
import Derived.Test.YtakkkkkahijaaaaDoorReqs
import Derived.Test.YtakkkkkahijaaaaDoorTie
import Derived.Test.YtakkkkkahijaaaaDoorCards
import Derived.ProofKit
import Derived.OpenShut
import Derived.LaidMore
import Derived.Lay
import Derived.SevenTiedAt
import Derived.Stop.Joined
import Derived.Stop.LaidErr
import Derived.Lib.LaidTab
namespace Go.Proofs.YtakkkkkahijaaaaDoor.msgReqs
open Go.ChangeShapes Go.WideShapes Go.ChangeAt Go.RowKit

theorem own : ownKnob Tryd.prog.godebug = none := by kernel_rfl
theorem laidOut : laidOutB Tryd.prog = true := by kernel_rfl

theorem tab_of {W : World} (h : laidMetH Tryd.prog Rows.msgReqsRow.laid W) : Tab W := by
  rw [MakeChecks.laidMetH_plain _ _ _ (by kernel_rfl)] at h
  have h3 := h.tail.tail
  exact Lib.tabIs_of_head (g := 0) (t := 150) (e := 28) (n := 20) (by kernel_rfl) (by kernel_rfl) (by kernel_rfl) (by kernel_rfl) (by kernel_rfl) (by kernel_rfl) h3

set_option maxRecDepth 100000 in
theorem open_req {H : Type} {enc : TypeId × Value → H} {W : World} {b0 base : Nat} {spare : Nat → Bool} {held : Bool} {v : Value} {d : DataW H} {p : List MemPlace} (hv : Value.okWide Tryd.prog W .any b0 27 v)
    (h : DataW.Trod enc Tryd.prog W base spare held 27 v d p) : ∃ r : Rq, v = .agg r.cells.toArray ∧ r.ok := by
  obtain ⟨cs, rfl, hsz⟩ := okWide_struct Tryd.underlying27 hv
  obtain ⟨fuel, hf⟩ := h
  have c27 : Tryd.prog.cellsOf 27 = 5 := by kernel_rfl
  have c25 : Tryd.prog.cellsOf 25 = 3 := by kernel_rfl
  have c5 : Tryd.prog.cellsOf 5 = 1 := by kernel_rfl
  have c22 : Tryd.prog.cellsOf 22 = 1 := by kernel_rfl
  have c23 : Tryd.prog.cellsOf 23 = 1 := by kernel_rfl
  obtain ⟨l⟩ := cs
  match l, hsz.trans c27 with
  | [x0, x1, x2, x3, x4], _ =>
    obtain ⟨ys, n, _, _, _, hl, hy⟩ := DataW.trod_struct Tryd.underlying27 (show DataW.trod enc Tryd.prog W base spare held fuel 27 [x0, x1, x2, x3, x4] = some (d, p) from hf)
    have g : ∀ j, j < 3 → ∃ y, ys[j]? = some y := fun j hj => ⟨_, List.getElem?_eq_getElem (by rw [hl]; exact hj)⟩
    obtain ⟨y0, e0⟩ := g 0 (by omega)
    obtain ⟨y1, e1⟩ := g 1 (by omega)
    obtain ⟨y2, e2⟩ := g 2 (by omega)
    have f0 : DataW.trod enc Tryd.prog W base spare held n 5 [x0] = some y0 := by
      have this : DataW.trod enc Tryd.prog W base spare held n 5 (([x0, x1, x2, x3, x4].drop 0).take (Tryd.prog.cellsOf 5)) = ys[0]? := hy 0 _ rfl
      rw [c5] at this
      rw [← e0]; exact this
    have f1 : DataW.trod enc Tryd.prog W base spare held n 22 [x1] = some y1 := by
      have this : DataW.trod enc Tryd.prog W base spare held n 22 (([x0, x1, x2, x3, x4].drop 1).take (Tryd.prog.cellsOf 22)) = ys[1]? := hy 1 _ rfl
      rw [c22] at this
      rw [← e1]; exact this
    have f2 : DataW.trod enc Tryd.prog W base spare held n 25 [x2, x3, x4] = some y2 := by
      have this : DataW.trod enc Tryd.prog W base spare held n 25 (([x0, x1, x2, x3, x4].drop 2).take (Tryd.prog.cellsOf 25)) = ys[2]? := hy 2 _ rfl
      rw [c25] at this
      rw [← e2]; exact this
    obtain ⟨zs, n2, _, _, _, hl2, hz⟩ := DataW.trod_struct Tryd.underlying25 f2
    have g2 : ∀ j, j < 3 → ∃ y, zs[j]? = some y := fun j hj => ⟨_, List.getElem?_eq_getElem (by rw [hl2]; exact hj)⟩
    obtain ⟨u0, d0⟩ := g2 0 (by omega)
    obtain ⟨u1, d1⟩ := g2 1 (by omega)
    obtain ⟨u2, d2⟩ := g2 2 (by omega)
    have k0 : DataW.trod enc Tryd.prog W base spare held n2 5 [x2] = some u0 := by
      have this : DataW.trod enc Tryd.prog W base spare held n2 5 (([x2, x3, x4].drop 0).take (Tryd.prog.cellsOf 5)) = zs[0]? := hz 0 _ rfl
      rw [c5] at this
      rw [← d0]; exact this
    have k1 : DataW.trod enc Tryd.prog W base spare held n2 5 [x3] = some u1 := by
      have this : DataW.trod enc Tryd.prog W base spare held n2 5 (([x2, x3, x4].drop 1).take (Tryd.prog.cellsOf 5)) = zs[1]? := hz 1 _ rfl
      rw [c5] at this
      rw [← d1]; exact this
    have k2 : DataW.trod enc Tryd.prog W base spare held n2 23 [x4] = some u2 := by
      have this : DataW.trod enc Tryd.prog W base spare held n2 23 (([x2, x3, x4].drop 2).take (Tryd.prog.cellsOf 23)) = zs[2]? := hz 2 _ rfl
      rw [c23] at this
      rw [← d2]; exact this
    obtain ⟨a0, q0, _, b0⟩ := DataW.trod_int Tryd.underlying5 f0
    obtain ⟨a1, q1, _, b1⟩ := DataW.trod_int Tryd.underlying22 f1
    obtain ⟨a2, q2, _, b2⟩ := DataW.trod_int Tryd.underlying5 k0
    obtain ⟨a3, q3, _, b3⟩ := DataW.trod_int Tryd.underlying5 k1
    obtain ⟨a4, q4, _, b4⟩ := DataW.trod_int Tryd.underlying23 k2
    injection q0 with q0; injection q1 with q1; injection q2 with q2; injection q3 with q3; injection q4 with q4
    subst q0 q1 q2 q3 q4
    refine ⟨⟨a0, a1, a2, a3, a4⟩, rfl, ?_⟩
    simp [Lit.wf, IntKind.min, IntKind.max, IntKind.signed, IntKind.bits] at b0 b1 b2 b3 b4
    unfold Rq.ok
    simp only
    omega

set_option maxRecDepth 100000 in
theorem lifted (os : Os) (started : os.Started) (H : Type) (enc : TypeId × Value → H) :
    ReturnsInHanded {} Tryd.checked os 6 .any (fun w args => (Rows.msgReqsSpec.pre enc Tryd.prog Tryd.f6 Rows.msgReqsRow.domain false w args ∧ laidMetH Tryd.prog Rows.msgReqsRow.laid w) ∧ sizedMet enc Tryd.prog Tryd.f6 (OpenSpec.ofChange Rows.msgReqsSpec) false w args)
      (Rows.msgReqsSpec.post enc Tryd.prog Tryd.f6 false true false false) := by
  refine returnsInHanded_of_change_and (C := Tryd.checked) (X := fun w _ => laidMetH Tryd.prog Rows.msgReqsRow.laid w) (fun _ _ _ hh h => h.of_heap hh) own started (by kernel_rfl) Tryd.func6
    (ChangeSpec.witness_shaped (enc := enc) (C := Tryd.checked) (os := os) (X := fun w _ => laidMetH Tryd.prog Rows.msgReqsRow.laid w) false (World.laidAll Tryd.prog os Rows.msgReqsRow.laid) #[.agg #[.int .u8 0, .int .u32 0, .int .u8 0, .int .u8 0, .int .u16 0]] 8 (World.laidAll_os _ _ _)
      (World.shaped_of_ZipB (by kernel_rfl) (by kernel_rfl)) (by kernel_rfl) (by kernel_rfl) (by kernel_rfl)
      (by rw [MakeChecks.laidMetH_plain _ _ _ (by kernel_rfl)]; exact laidMet_laidAll _ (by kernel_rfl) (by kernel_rfl))) ?_
  intro W base args ds gs before hval0 hW hc _ hL _
  have hval : ∀ (j : Nat) t v, Tryd.f6.params[j]? = some t → args[j]? = some v → Value.okWide Tryd.prog W .any base t v := hval0
  have hW' := hW
  obtain ⟨p, q, hA0, hV, rfl, _, _⟩ := hW
  have hA : DataW.TrodAll enc Tryd.prog W 0 (fun _ => true) true Tryd.f6.params.toList args.toList ds p := hA0
  rw [Tryd.params6] at hA hval
  obtain ⟨v0, d0, rfl, rfl, h0⟩ := trodAll_one hA
  obtain ⟨rfl, rfl⟩ := trodVars_none hV
  obtain ⟨r, rfl, hr⟩ := open_req (hval 0 27 v0 rfl rfl) h0
  have k0 := h0
  have lt0 : ∀ x ∈ p, x.block < W.heap.size := by obtain ⟨m, hm⟩ := k0; exact DataW.trod_lt m _ _ _ hm
  refine (reqs_any r hr W (tab_of hL)).mono fun e W' ⟨he, bel⟩ => ?_
  subst he
  exact ⟨_, rfl, _, _, _, [], _, [], hW', trodAll_mk1 (shut_bool Tryd.underlying4 _), trodAll_mk1 (Below.trod laidOut (by kernel_rfl) (of_decide_eq_true (by kernel_rfl)) k0 bel lt0), rfl, bel.frame _, fun h => by cases h⟩

theorem over : Rows.msgReqsRow.holds Tryd.pinned (OpenSpec.ofChange Rows.msgReqsSpec) :=
  OpenClaim.holds_of_wide 6 Tryd.f6 rfl rfl rfl rfl rfl rfl rfl ⟨rfl, rfl, rfl, rfl, rfl⟩ rfl rfl rfl rfl rfl (by kernel_rfl) Tryd.func6 (by kernel_rfl)
    (of_decide_eq_true (by kernel_rfl)) (by unfold Func.isWrapper; first | (rw [if_pos (by decide +kernel)]; kernel_rfl) | (rw [if_neg (by decide +kernel)]; exact ⟨rfl, rfl⟩))
    (fun os started H enc _ => lifted os started H enc)

theorem proved : Rows.MsgReqsCardSaid :=
  Claim7.holds_tied_plain_at .later [] [.data, .data, .data] true (true, "eaaa400bd572b9e66bd7c21aa4cbe77bd87db9b65d0c6d8d528e52ce948cef39") false over (fun _ h => by cases h) (by kernel_rfl) (fun _ h => by cases h) msgReqs_row_tie rfl ⟨rfl, rfl⟩ (by kernel_rfl) rfl
    (fun f fn hf hfn => by
      obtain rfl : f = 6 := Option.some.inj ((show Tryd.prog.funcNamed "palisade/palisadelaw3.MsgReqs" = some 6 by kernel_rfl).symm.trans hf) |>.symm
      obtain rfl : fn = Tryd.f6 := (Option.some.inj (Tryd.func6.symm.trans hfn)).symm
      exact ⟨by kernel_rfl, fun j t ht => by
        rw [Tryd.params6] at ht
        have hm : t ∈ [27] := by simpa using Array.mem_of_getElem? ht
        have hall : ([27].all fun u => !Tryd.prog.wantsStandIn u) = true := by kernel_rfl
        exact (show Tryd.prog.wantsStandIn t = false by simpa using List.all_eq_true.1 hall t hm)⟩)
    (by kernel_rfl)
#print axioms proved
end Go.Proofs.YtakkkkkahijaaaaDoor.msgReqs
