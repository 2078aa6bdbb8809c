/- MsgTells: the walk. -/
import Derived.Test.YtbpfkeeikhhlnaaGreatDoorT03
import Derived.Test.YtbpfkeeikhhlnaaGreatDoorC08
import Derived.Test.YtbpfkeeikhhlnaaGreatDoorC02
import Derived.Shelf.LaysM
import Derived.Shelf.Strconv.AppendUint10
import Derived.Test.YtbpfkeeikhhlnaaGreatDoorC01
import Derived.Test.YtbpfkeeikhhlnaaGreatDoorT01
import Derived.Deep.QuietTactic
import Derived.BigQuiet
import Derived.Deep.RegionWith
import Derived.Laws.StructEq
import Derived.Shelf.SlicesQ.Equal
import Derived.Test.YtbpfkeeikhhlnaaGreatDoorC03
import Derived.Shelf.SlicesQ.Load
import Derived.Lib.SlBy2
import Derived.Test.YtbpfkeeikhhlnaaGreatDoorRows
import Derived.WalkKit
import Derived.WalkSpells
import Derived.WalkLawsBesides
import Derived.OwnWalk
import Derived.Maps.AppendAt
import Derived.Laws.OwnMore
import Derived.Laws.BytesArg
import Derived.OneCell
import Derived.Below
import Derived.Lib.Hide
import Derived.Deep.RegionHeld3
import Derived.Test.YtbpfkeeikhhlnaaGreatDoorC06
import Derived.Deep.Cut
import Derived.Laws.Cover1
import Derived.Test.YtbpfkeeikhhlnaaGreatDoorC16
import Derived.Test.YtbpfkeeikhhlnaaGreatDoorC14
import Derived.Test.YtbpfkeeikhhlnaaGreatDoorC09
import Derived.Deep.CutRange
import Derived.Lib.Bytes
import Derived.Test.YtbpfkeeikhhlnaaGreatDoorC15
namespace Go.Proofs.YtbpfkeeikhhlnaaGreatDoor
open Go.RowKit
set_option maxRecDepth 100000

theorem wpl_any {P : Program} {ops : Array Oper} {Q : Exit → Act → World → Prop} {o : Oper} {rest : List Oper} {a : Act} {w : World} (hw : Region.wanted o (yielded ops a.tmps) = true) (h : ∀ K, (∀ a w, wpList P ops Q rest a w → K a w) → o.wp P a w K Q) : wpList P ops Q (o :: rest) a w := by
  unfold wpList
  rw [if_pos hw]
  exact .inl (h _ fun _ _ h => h)
theorem wpl_v {P : Program} {ops : Array Oper} {Q : Exit → Act → World → Prop} {o : Oper} {rest : List Oper} {a a' : Act} {w : World} {v : Value} (hw : Region.wanted o (yielded ops a.tmps) = true) (h : (execOp a.eval o).run P w = .ok (.value v) w) (ha : a.put o.dst v = a') (k : wpList P ops Q rest a' w) : wpList P ops Q (o :: rest) a w :=
  wpl_any hw fun K hK => by subst ha; unfold Oper.wp; rw [h]; exact hK _ _ k
theorem wpl_no {P : Program} {ops : Array Oper} {Q : Exit → Act → World → Prop} {o : Oper} {rest : List Oper} {a a' : Act} {w : World} (hw : Region.wanted o (yielded ops a.tmps) = false) (ha : a.put o.dst undef = a') (k : wpList P ops Q rest a' w) : wpList P ops Q (o :: rest) a w := by
  unfold wpList
  rw [if_neg (by rw [hw]; simp)]
  subst ha
  exact k
theorem ex_load {P : Program} {o : Oper} {a : Act} {w : World} {v : Value} (ty : TypeId) (x : Operand) (p : Value) (ho : o.op = .load ty x) (hx : a.eval x = p) (h : (Instr.loadAt ty p).run P w = .ok v w) : (execOp a.eval o).run P w = .ok (.value v) w := by
  unfold execOp
  simp only [ho, hx, Sem.run_bind, h, Result.andThen_ok, Sem.run_pure]

set_option maxHeartbeats 16000000 in
theorem tells_any (m n : Mg) (c d : Mc) (r : Rq) (v : Vt) (vc : Vc) (w : World) (hu : MgU w m c) (hok : MgOk m c) (hu2 : MgU w n d) (hok2 : MgOk n d) (hr : r.ok) (hv : VtU w v vc) (hvo : v.ok ∧ vc.ok) (ht : Tab w) :
    Calls Tryz.prog 3 #[.agg m.cells.toArray, .agg n.cells.toArray, .agg r.cells.toArray, .agg v.cells.toArray] w fun e w' => e = .returned (.bool true) ∧ Below w.heap.size w w' := by
  obtain ⟨W, hW⟩ : ∃ W, W = (((w.alloc (.cells m.cells.toArray 37)).alloc (.cells n.cells.toArray 37)).alloc (.cells r.cells.toArray 27)).alloc (.cells v.cells.toArray 32) := ⟨_, rfl⟩
  have hs : W.heap.size = w.heap.size + 1 + 1 + 1 + 1 := by rw [hW]; simp
  have hb : Below w.heap.size w W := by rw [hW]; exact ((((Below.refl _ _).alloc (Nat.le_refl _) _).alloc (by simp) _).alloc (by simp; omega) _).alloc (by simp; omega) _
  have b4 : W.heap[w.heap.size]? = some (.cells m.cells.toArray 37 (0, 0)) := by
    rw [hW, heap_alloc_old _ _ (by simp; omega), heap_alloc_old _ _ (by simp; omega)]; exact heap_alloc2_old _ _ _
  have b5 : W.heap[w.heap.size + 1]? = some (.cells n.cells.toArray 37 (0, 0)) := by
    rw [hW, heap_alloc_old _ _ (by simp), heap_alloc_old _ _ (by simp)]; exact heap_alloc2_new _ _ _
  have b6 : W.heap[w.heap.size + 1 + 1]? = some (.cells r.cells.toArray 27 (0, 0)) := by
    rw [hW, heap_alloc_old _ _ (by simp)]
    have := heap_alloc_new ((w.alloc (.cells m.cells.toArray 37)).alloc (.cells n.cells.toArray 37)) (.cells r.cells.toArray 27)
    simpa using this
  have b7 : W.heap[w.heap.size + 1 + 1 + 1]? = some (.cells v.cells.toArray 32 (0, 0)) := by
    rw [hW]
    have := heap_alloc_new (((w.alloc (.cells m.cells.toArray 37)).alloc (.cells n.cells.toArray 37)).alloc (.cells r.cells.toArray 27)) (.cells v.cells.toArray 32)
    simpa using this
  have L4 := Lib.hid (fun wx (h : Below W.heap.size W wx) => show (Instr.loadAt 37 (.pointer (some ⟨w.heap.size, 0, none⟩))).run Tryz.prog wx = .ok (.agg m.cells.toArray) wx by
    have hb : wx.heap[w.heap.size]? = some (.cells m.cells.toArray 37 (0, 0)) := by rw [h.block _ (by omega)]; exact b4
    simp only [Instr.loadAt, Instr.sureAddr, Sem.run_bind, Sem.run_pure, Result.andThen_ok, run_loadVar_row (P := Tryz.prog) wx (w.heap.size) 37 37 m.cells.toArray (0, 0) _ hb Tryz.underlying37 rfl size37])
  have L5 := Lib.hid (fun wx (h : Below W.heap.size W wx) => show (Instr.loadAt 37 (.pointer (some ⟨w.heap.size + 1, 0, none⟩))).run Tryz.prog wx = .ok (.agg n.cells.toArray) wx by
    have hb : wx.heap[w.heap.size + 1]? = some (.cells n.cells.toArray 37 (0, 0)) := by rw [h.block _ (by omega)]; exact b5
    simp only [Instr.loadAt, Instr.sureAddr, Sem.run_bind, Sem.run_pure, Result.andThen_ok, run_loadVar_row (P := Tryz.prog) wx (w.heap.size + 1) 37 37 n.cells.toArray (0, 0) _ hb Tryz.underlying37 rfl size37])
  have L6 := Lib.hid (fun wx (h : Below W.heap.size W wx) => show (Instr.loadAt 27 (.pointer (some ⟨w.heap.size + 1 + 1, 0, none⟩))).run Tryz.prog wx = .ok (.agg r.cells.toArray) wx by
    have hb : wx.heap[w.heap.size + 1 + 1]? = some (.cells r.cells.toArray 27 (0, 0)) := by rw [h.block _ (by omega)]; exact b6
    simp only [Instr.loadAt, Instr.sureAddr, Sem.run_bind, Sem.run_pure, Result.andThen_ok, run_loadVar_row (P := Tryz.prog) wx (w.heap.size + 1 + 1) 27 27 r.cells.toArray (0, 0) _ hb Tryz.underlying27 rfl (by kernel_rfl)])
  have L7 := Lib.hid (fun wx (h : Below W.heap.size W wx) => show (Instr.loadAt 32 (.pointer (some ⟨w.heap.size + 1 + 1 + 1, 0, none⟩))).run Tryz.prog wx = .ok (.agg v.cells.toArray) wx by
    have hb : wx.heap[w.heap.size + 1 + 1 + 1]? = some (.cells v.cells.toArray 32 (0, 0)) := by rw [h.block _ (by omega)]; exact b7
    simp only [Instr.loadAt, Instr.sureAddr, Sem.run_bind, Sem.run_pure, Result.andThen_ok, run_loadVar_row (P := Tryz.prog) wx (w.heap.size + 1 + 1 + 1) 32 32 v.cells.toArray (0, 0) _ hb Tryz.underlying32 rfl (by kernel_rfl)])
  have HW := Lib.hid hW
  have HB := Lib.hid hb
  have HU := Lib.hid (And.intro hu (And.intro hu2 (And.intro hv ht)))
  have HO := Lib.hid (And.intro hok (And.intro hok2 (And.intro hr hvo)))
  have HS := Lib.hid hs
  clear b4 b5 b6 b7 hW hb hu hok hu2 hok2 hr hv hvo ht hs
  have KN := Lib.hid (known_any W (Tab.on HU.out.2.2.2 HB.out))
  have HP1 := Lib.hid (fun wx (h : Below w.heap.size w wx) => help10 wx m (c.vs.map Prod.fst) (RowU.below HU.out.1.votes h))
  have HP2 := Lib.hid (fun wx (h : Below w.heap.size w wx) => help10 wx n (d.vs.map Prod.fst) (RowU.below HU.out.2.1.votes h))
  obtain ⟨A, hA⟩ : ∃ A, A = m.cells.toArray := ⟨_, rfl⟩
  obtain ⟨B, hB⟩ : ∃ B, B = n.cells.toArray := ⟨_, rfl⟩
  obtain ⟨C, hC⟩ : ∃ C, C = r.cells.toArray := ⟨_, rfl⟩
  obtain ⟨D, hD⟩ : ∃ D, D = v.cells.toArray := ⟨_, rfl⟩
  rw [← hA] at L4 HW HP1
  rw [← hB] at L5 HW HP2
  rw [← hC] at L6 HW
  rw [← hD] at L7 HW
  rw [← hA, ← hB, ← hC, ← hD]
  have HA := Lib.hid (And.intro hA (And.intro hB (And.intro hC hD)))
  have HPV := Lib.hid (fun wx => help25 wx v)
  rw [← hD] at HPV
  clear hA hB hC hD
  obtain ⟨G, hG⟩ : ∃ G, G = w.heap.size := ⟨_, rfl⟩
  go_enter Tryz.func3, Tryz.ntmps3
  go_upto_region 1 with fail
  rw [← HW.out]
  go_wp2_with fail
  refine KN.out.mono ?_
  rintro e w1 ⟨rfl, b1⟩
  have HB1 := Lib.hid b1
  clear b1 KN
  go_upto_region 3 with fail
  refine wp_region_lit ?_
  refine wpl_v (v := .agg A) (by kernel_rfl) (ex_load 37 (.tmp 4) _ rfl rfl (L4.out _ HB1.out)) (a' := { tmps := #[.agg A, .agg B, .agg C, .agg D, .pointer (some ⟨w.heap.size, 0, none⟩), .pointer (some ⟨w.heap.size + 1, 0, none⟩), .pointer (some ⟨w.heap.size + 1 + 1, 0, none⟩), .pointer (some ⟨w.heap.size + 1 + 1 + 1, 0, none⟩), .bool false, undef, undef, undef, undef, .bool true, .bool false, .agg A, undef, undef, undef, undef, undef, undef, undef, undef, undef, undef, undef, undef, undef, undef, undef, undef, undef, undef, undef, undef, undef, undef, undef, undef, undef, undef, undef, undef, undef, undef, undef, undef, undef, undef, undef, undef, undef, undef, undef, undef, undef, undef, undef, undef, undef, undef, undef, undef, undef, undef, undef, undef, undef, undef, undef, undef, undef, undef, undef, undef, undef, undef, undef, undef, undef, undef, undef, undef, undef], defers := [] }) rfl ?_
  refine wpl_any (by kernel_rfl) fun K hK => ?_
  go_simp
  refine Calls.mono (HP1.out w1 (Below.up HB.out HB1.out)) ?_
  rintro e w2 ⟨b, rfl, hf0, hb⟩
  have HB2 := Lib.hid (Below.up HB1.out hb)
  have HF0 := Lib.hid hf0
  clear hb hf0
  cases b with
  | false =>
    refine hK ({ tmps := #[.agg A, .agg B, .agg C, .agg D, .pointer (some ⟨w.heap.size, 0, none⟩), .pointer (some ⟨w.heap.size + 1, 0, none⟩), .pointer (some ⟨w.heap.size + 1 + 1, 0, none⟩), .pointer (some ⟨w.heap.size + 1 + 1 + 1, 0, none⟩), .bool false, undef, undef, undef, undef, .bool true, .bool false, .agg A, .bool false, undef, undef, undef, undef, undef, undef, undef, undef, undef, undef, undef, undef, undef, undef, undef, undef, undef, undef, undef, undef, undef, undef, undef, undef, undef, undef, undef, undef, undef, undef, undef, undef, undef, undef, undef, undef, undef, undef, undef, undef, undef, undef, undef, undef, undef, undef, undef, undef, undef, undef, undef, undef, undef, undef, undef, undef, undef, undef, undef, undef, undef, undef, undef, undef, undef, undef, undef, undef], defers := [] }) _ ?_
    clear hK K
    refine wpl_v (v := .bool true) (by kernel_rfl) (by go_simp) (a' := { tmps := #[.agg A, .agg B, .agg C, .agg D, .pointer (some ⟨w.heap.size, 0, none⟩), .pointer (some ⟨w.heap.size + 1, 0, none⟩), .pointer (some ⟨w.heap.size + 1 + 1, 0, none⟩), .pointer (some ⟨w.heap.size + 1 + 1 + 1, 0, none⟩), .bool false, undef, undef, undef, undef, .bool true, .bool false, .agg A, .bool false, .bool true, undef, undef, undef, undef, undef, undef, undef, undef, undef, undef, undef, undef, undef, undef, undef, undef, undef, undef, undef, undef, undef, undef, undef, undef, undef, undef, undef, undef, undef, undef, undef, undef, undef, undef, undef, undef, undef, undef, undef, undef, undef, undef, undef, undef, undef, undef, undef, undef, undef, undef, undef, undef, undef, undef, undef, undef, undef, undef, undef, undef, undef, undef, undef, undef, undef, undef, undef], defers := [] }) rfl ?_
    refine wpl_v (v := .bool true) (by kernel_rfl) (by rfl) (a' := { tmps := #[.agg A, .agg B, .agg C, .agg D, .pointer (some ⟨w.heap.size, 0, none⟩), .pointer (some ⟨w.heap.size + 1, 0, none⟩), .pointer (some ⟨w.heap.size + 1 + 1, 0, none⟩), .pointer (some ⟨w.heap.size + 1 + 1 + 1, 0, none⟩), .bool false, undef, undef, undef, undef, .bool true, .bool false, .agg A, .bool false, .bool true, .bool true, undef, undef, undef, undef, undef, undef, undef, undef, undef, undef, undef, undef, undef, undef, undef, undef, undef, undef, undef, undef, undef, undef, undef, undef, undef, undef, undef, undef, undef, undef, undef, undef, undef, undef, undef, undef, undef, undef, undef, undef, undef, undef, undef, undef, undef, undef, undef, undef, undef, undef, undef, undef, undef, undef, undef, undef, undef, undef, undef, undef, undef, undef, undef, undef, undef, undef], defers := [] }) rfl ?_
    refine wpl_no (by kernel_rfl) (a' := { tmps := #[.agg A, .agg B, .agg C, .agg D, .pointer (some ⟨w.heap.size, 0, none⟩), .pointer (some ⟨w.heap.size + 1, 0, none⟩), .pointer (some ⟨w.heap.size + 1 + 1, 0, none⟩), .pointer (some ⟨w.heap.size + 1 + 1 + 1, 0, none⟩), .bool false, undef, undef, undef, undef, .bool true, .bool false, .agg A, .bool false, .bool true, .bool true, undef, undef, undef, undef, undef, undef, undef, undef, undef, undef, undef, undef, undef, undef, undef, undef, undef, undef, undef, undef, undef, undef, undef, undef, undef, undef, undef, undef, undef, undef, undef, undef, undef, undef, undef, undef, undef, undef, undef, undef, undef, undef, undef, undef, undef, undef, undef, undef, undef, undef, undef, undef, undef, undef, undef, undef, undef, undef, undef, undef, undef, undef, undef, undef, undef, undef], defers := [] }) rfl ?_
    refine wpl_no (by kernel_rfl) (a' := { tmps := #[.agg A, .agg B, .agg C, .agg D, .pointer (some ⟨w.heap.size, 0, none⟩), .pointer (some ⟨w.heap.size + 1, 0, none⟩), .pointer (some ⟨w.heap.size + 1 + 1, 0, none⟩), .pointer (some ⟨w.heap.size + 1 + 1 + 1, 0, none⟩), .bool false, undef, undef, undef, undef, .bool true, .bool false, .agg A, .bool false, .bool true, .bool true, undef, undef, undef, undef, undef, undef, undef, undef, undef, undef, undef, undef, undef, undef, undef, undef, undef, undef, undef, undef, undef, undef, undef, undef, undef, undef, undef, undef, undef, undef, undef, undef, undef, undef, undef, undef, undef, undef, undef, undef, undef, undef, undef, undef, undef, undef, undef, undef, undef, undef, undef, undef, undef, undef, undef, undef, undef, undef, undef, undef, undef, undef, undef, undef, undef, undef], defers := [] }) rfl ?_
    refine wpl_no (by kernel_rfl) (a' := { tmps := #[.agg A, .agg B, .agg C, .agg D, .pointer (some ⟨w.heap.size, 0, none⟩), .pointer (some ⟨w.heap.size + 1, 0, none⟩), .pointer (some ⟨w.heap.size + 1 + 1, 0, none⟩), .pointer (some ⟨w.heap.size + 1 + 1 + 1, 0, none⟩), .bool false, undef, undef, undef, undef, .bool true, .bool false, .agg A, .bool false, .bool true, .bool true, undef, undef, undef, undef, undef, undef, undef, undef, undef, undef, undef, undef, undef, undef, undef, undef, undef, undef, undef, undef, undef, undef, undef, undef, undef, undef, undef, undef, undef, undef, undef, undef, undef, undef, undef, undef, undef, undef, undef, undef, undef, undef, undef, undef, undef, undef, undef, undef, undef, undef, undef, undef, undef, undef, undef, undef, undef, undef, undef, undef, undef, undef, undef, undef, undef, undef], defers := [] }) rfl ?_
    refine wpl_v (v := .bool true) (by kernel_rfl) (by go_simp) (a' := { tmps := #[.agg A, .agg B, .agg C, .agg D, .pointer (some ⟨w.heap.size, 0, none⟩), .pointer (some ⟨w.heap.size + 1, 0, none⟩), .pointer (some ⟨w.heap.size + 1 + 1, 0, none⟩), .pointer (some ⟨w.heap.size + 1 + 1 + 1, 0, none⟩), .bool false, undef, undef, undef, undef, .bool true, .bool false, .agg A, .bool false, .bool true, .bool true, undef, undef, undef, .bool true, undef, undef, undef, undef, undef, undef, undef, undef, undef, undef, undef, undef, undef, undef, undef, undef, undef, undef, undef, undef, undef, undef, undef, undef, undef, undef, undef, undef, undef, undef, undef, undef, undef, undef, undef, undef, undef, undef, undef, undef, undef, undef, undef, undef, undef, undef, undef, undef, undef, undef, undef, undef, undef, undef, undef, undef, undef, undef, undef, undef, undef, undef], defers := [] }) rfl ?_
    refine wpl_v (v := .bool true) (by kernel_rfl) (by rfl) (a' := { tmps := #[.agg A, .agg B, .agg C, .agg D, .pointer (some ⟨w.heap.size, 0, none⟩), .pointer (some ⟨w.heap.size + 1, 0, none⟩), .pointer (some ⟨w.heap.size + 1 + 1, 0, none⟩), .pointer (some ⟨w.heap.size + 1 + 1 + 1, 0, none⟩), .bool false, undef, undef, undef, undef, .bool true, .bool false, .agg A, .bool false, .bool true, .bool true, undef, undef, undef, .bool true, .bool true, undef, undef, undef, undef, undef, undef, undef, undef, undef, undef, undef, undef, undef, undef, undef, undef, undef, undef, undef, undef, undef, undef, undef, undef, undef, undef, undef, undef, undef, undef, undef, undef, undef, undef, undef, undef, undef, undef, undef, undef, undef, undef, undef, undef, undef, undef, undef, undef, undef, undef, undef, undef, undef, undef, undef, undef, undef, undef, undef, undef, undef], defers := [] }) rfl ?_
    refine wpl_no (by kernel_rfl) (a' := { tmps := #[.agg A, .agg B, .agg C, .agg D, .pointer (some ⟨w.heap.size, 0, none⟩), .pointer (some ⟨w.heap.size + 1, 0, none⟩), .pointer (some ⟨w.heap.size + 1 + 1, 0, none⟩), .pointer (some ⟨w.heap.size + 1 + 1 + 1, 0, none⟩), .bool false, undef, undef, undef, undef, .bool true, .bool false, .agg A, .bool false, .bool true, .bool true, undef, undef, undef, .bool true, .bool true, undef, undef, undef, undef, undef, undef, undef, undef, undef, undef, undef, undef, undef, undef, undef, undef, undef, undef, undef, undef, undef, undef, undef, undef, undef, undef, undef, undef, undef, undef, undef, undef, undef, undef, undef, undef, undef, undef, undef, undef, undef, undef, undef, undef, undef, undef, undef, undef, undef, undef, undef, undef, undef, undef, undef, undef, undef, undef, undef, undef, undef], defers := [] }) rfl ?_
    refine wpl_no (by kernel_rfl) (a' := { tmps := #[.agg A, .agg B, .agg C, .agg D, .pointer (some ⟨w.heap.size, 0, none⟩), .pointer (some ⟨w.heap.size + 1, 0, none⟩), .pointer (some ⟨w.heap.size + 1 + 1, 0, none⟩), .pointer (some ⟨w.heap.size + 1 + 1 + 1, 0, none⟩), .bool false, undef, undef, undef, undef, .bool true, .bool false, .agg A, .bool false, .bool true, .bool true, undef, undef, undef, .bool true, .bool true, undef, undef, undef, undef, undef, undef, undef, undef, undef, undef, undef, undef, undef, undef, undef, undef, undef, undef, undef, undef, undef, undef, undef, undef, undef, undef, undef, undef, undef, undef, undef, undef, undef, undef, undef, undef, undef, undef, undef, undef, undef, undef, undef, undef, undef, undef, undef, undef, undef, undef, undef, undef, undef, undef, undef, undef, undef, undef, undef, undef, undef], defers := [] }) rfl ?_
    refine wpl_no (by kernel_rfl) (a' := { tmps := #[.agg A, .agg B, .agg C, .agg D, .pointer (some ⟨w.heap.size, 0, none⟩), .pointer (some ⟨w.heap.size + 1, 0, none⟩), .pointer (some ⟨w.heap.size + 1 + 1, 0, none⟩), .pointer (some ⟨w.heap.size + 1 + 1 + 1, 0, none⟩), .bool false, undef, undef, undef, undef, .bool true, .bool false, .agg A, .bool false, .bool true, .bool true, undef, undef, undef, .bool true, .bool true, undef, undef, undef, undef, undef, undef, undef, undef, undef, undef, undef, undef, undef, undef, undef, undef, undef, undef, undef, undef, undef, undef, undef, undef, undef, undef, undef, undef, undef, undef, undef, undef, undef, undef, undef, undef, undef, undef, undef, undef, undef, undef, undef, undef, undef, undef, undef, undef, undef, undef, undef, undef, undef, undef, undef, undef, undef, undef, undef, undef, undef], defers := [] }) rfl ?_
    refine wpl_v (v := .bool true) (by kernel_rfl) (by go_simp) (a' := { tmps := #[.agg A, .agg B, .agg C, .agg D, .pointer (some ⟨w.heap.size, 0, none⟩), .pointer (some ⟨w.heap.size + 1, 0, none⟩), .pointer (some ⟨w.heap.size + 1 + 1, 0, none⟩), .pointer (some ⟨w.heap.size + 1 + 1 + 1, 0, none⟩), .bool false, undef, undef, undef, undef, .bool true, .bool false, .agg A, .bool false, .bool true, .bool true, undef, undef, undef, .bool true, .bool true, undef, undef, undef, .bool true, undef, undef, undef, undef, undef, undef, undef, undef, undef, undef, undef, undef, undef, undef, undef, undef, undef, undef, undef, undef, undef, undef, undef, undef, undef, undef, undef, undef, undef, undef, undef, undef, undef, undef, undef, undef, undef, undef, undef, undef, undef, undef, undef, undef, undef, undef, undef, undef, undef, undef, undef, undef, undef, undef, undef, undef, undef], defers := [] }) rfl ?_
    go_wp2_with fail
    go_ret
    exact ⟨rfl, Below.up HB.out HB2.out⟩
  | true =>
  refine hK ({ tmps := #[.agg A, .agg B, .agg C, .agg D, .pointer (some ⟨w.heap.size, 0, none⟩), .pointer (some ⟨w.heap.size + 1, 0, none⟩), .pointer (some ⟨w.heap.size + 1 + 1, 0, none⟩), .pointer (some ⟨w.heap.size + 1 + 1 + 1, 0, none⟩), .bool false, undef, undef, undef, undef, .bool true, .bool false, .agg A, .bool true, undef, undef, undef, undef, undef, undef, undef, undef, undef, undef, undef, undef, undef, undef, undef, undef, undef, undef, undef, undef, undef, undef, undef, undef, undef, undef, undef, undef, undef, undef, undef, undef, undef, undef, undef, undef, undef, undef, undef, undef, undef, undef, undef, undef, undef, undef, undef, undef, undef, undef, undef, undef, undef, undef, undef, undef, undef, undef, undef, undef, undef, undef, undef, undef, undef, undef, undef, undef], defers := [] }) _ ?_
  clear hK K
  refine wpl_v (v := .bool false) (by kernel_rfl) (by go_simp) (a' := { tmps := #[.agg A, .agg B, .agg C, .agg D, .pointer (some ⟨w.heap.size, 0, none⟩), .pointer (some ⟨w.heap.size + 1, 0, none⟩), .pointer (some ⟨w.heap.size + 1 + 1, 0, none⟩), .pointer (some ⟨w.heap.size + 1 + 1 + 1, 0, none⟩), .bool false, undef, undef, undef, undef, .bool true, .bool false, .agg A, .bool true, .bool false, undef, undef, undef, undef, undef, undef, undef, undef, undef, undef, undef, undef, undef, undef, undef, undef, undef, undef, undef, undef, undef, undef, undef, undef, undef, undef, undef, undef, undef, undef, undef, undef, undef, undef, undef, undef, undef, undef, undef, undef, undef, undef, undef, undef, undef, undef, undef, undef, undef, undef, undef, undef, undef, undef, undef, undef, undef, undef, undef, undef, undef, undef, undef, undef, undef, undef, undef], defers := [] }) rfl ?_
  refine wpl_v (v := .bool false) (by kernel_rfl) (by rfl) (a' := { tmps := #[.agg A, .agg B, .agg C, .agg D, .pointer (some ⟨w.heap.size, 0, none⟩), .pointer (some ⟨w.heap.size + 1, 0, none⟩), .pointer (some ⟨w.heap.size + 1 + 1, 0, none⟩), .pointer (some ⟨w.heap.size + 1 + 1 + 1, 0, none⟩), .bool false, undef, undef, undef, undef, .bool true, .bool false, .agg A, .bool true, .bool false, .bool false, undef, undef, undef, undef, undef, undef, undef, undef, undef, undef, undef, undef, undef, undef, undef, undef, undef, undef, undef, undef, undef, undef, undef, undef, undef, undef, undef, undef, undef, undef, undef, undef, undef, undef, undef, undef, undef, undef, undef, undef, undef, undef, undef, undef, undef, undef, undef, undef, undef, undef, undef, undef, undef, undef, undef, undef, undef, undef, undef, undef, undef, undef, undef, undef, undef, undef], defers := [] }) rfl ?_
  refine wpl_v (v := .agg B) (by kernel_rfl) (ex_load 37 (.tmp 5) _ rfl rfl (L5.out _ HB2.out)) (a' := { tmps := #[.agg A, .agg B, .agg C, .agg D, .pointer (some ⟨w.heap.size, 0, none⟩), .pointer (some ⟨w.heap.size + 1, 0, none⟩), .pointer (some ⟨w.heap.size + 1 + 1, 0, none⟩), .pointer (some ⟨w.heap.size + 1 + 1 + 1, 0, none⟩), .bool false, undef, undef, undef, undef, .bool true, .bool false, .agg A, .bool true, .bool false, .bool false, .agg B, undef, undef, undef, undef, undef, undef, undef, undef, undef, undef, undef, undef, undef, undef, undef, undef, undef, undef, undef, undef, undef, undef, undef, undef, undef, undef, undef, undef, undef, undef, undef, undef, undef, undef, undef, undef, undef, undef, undef, undef, undef, undef, undef, undef, undef, undef, undef, undef, undef, undef, undef, undef, undef, undef, undef, undef, undef, undef, undef, undef, undef, undef, undef, undef, undef], defers := [] }) rfl ?_
  refine wpl_any (by kernel_rfl) fun K hK => ?_
  go_simp
  refine Calls.mono (HP2.out w2 (Below.up HB.out HB2.out)) ?_
  rintro e w3 ⟨b, rfl, hf1, hb⟩
  have HB3 := Lib.hid (Below.up HB2.out hb)
  have HF1 := Lib.hid hf1
  clear hb hf1
  cases b with
  | false =>
    refine hK ({ tmps := #[.agg A, .agg B, .agg C, .agg D, .pointer (some ⟨w.heap.size, 0, none⟩), .pointer (some ⟨w.heap.size + 1, 0, none⟩), .pointer (some ⟨w.heap.size + 1 + 1, 0, none⟩), .pointer (some ⟨w.heap.size + 1 + 1 + 1, 0, none⟩), .bool false, undef, undef, undef, undef, .bool true, .bool false, .agg A, .bool true, .bool false, .bool false, .agg B, .bool false, undef, undef, undef, undef, undef, undef, undef, undef, undef, undef, undef, undef, undef, undef, undef, undef, undef, undef, undef, undef, undef, undef, undef, undef, undef, undef, undef, undef, undef, undef, undef, undef, undef, undef, undef, undef, undef, undef, undef, undef, undef, undef, undef, undef, undef, undef, undef, undef, undef, undef, undef, undef, undef, undef, undef, undef, undef, undef, undef, undef, undef, undef, undef, undef], defers := [] }) _ ?_
    clear hK K
    refine wpl_v (v := .bool true) (by kernel_rfl) (by go_simp) (a' := { tmps := #[.agg A, .agg B, .agg C, .agg D, .pointer (some ⟨w.heap.size, 0, none⟩), .pointer (some ⟨w.heap.size + 1, 0, none⟩), .pointer (some ⟨w.heap.size + 1 + 1, 0, none⟩), .pointer (some ⟨w.heap.size + 1 + 1 + 1, 0, none⟩), .bool false, undef, undef, undef, undef, .bool true, .bool false, .agg A, .bool true, .bool false, .bool false, .agg B, .bool false, .bool true, undef, undef, undef, undef, undef, undef, undef, undef, undef, undef, undef, undef, undef, undef, undef, undef, undef, undef, undef, undef, undef, undef, undef, undef, undef, undef, undef, undef, undef, undef, undef, undef, undef, undef, undef, undef, undef, undef, undef, undef, undef, undef, undef, undef, undef, undef, undef, undef, undef, undef, undef, undef, undef, undef, undef, undef, undef, undef, undef, undef, undef, undef, undef], defers := [] }) rfl ?_
    refine wpl_v (v := .bool true) (by kernel_rfl) (by go_simp) (a' := { tmps := #[.agg A, .agg B, .agg C, .agg D, .pointer (some ⟨w.heap.size, 0, none⟩), .pointer (some ⟨w.heap.size + 1, 0, none⟩), .pointer (some ⟨w.heap.size + 1 + 1, 0, none⟩), .pointer (some ⟨w.heap.size + 1 + 1 + 1, 0, none⟩), .bool false, undef, undef, undef, undef, .bool true, .bool false, .agg A, .bool true, .bool false, .bool false, .agg B, .bool false, .bool true, .bool true, undef, undef, undef, undef, undef, undef, undef, undef, undef, undef, undef, undef, undef, undef, undef, undef, undef, undef, undef, undef, undef, undef, undef, undef, undef, undef, undef, undef, undef, undef, undef, undef, undef, undef, undef, undef, undef, undef, undef, undef, undef, undef, undef, undef, undef, undef, undef, undef, undef, undef, undef, undef, undef, undef, undef, undef, undef, undef, undef, undef, undef, undef], defers := [] }) rfl ?_
    refine wpl_v (v := .bool true) (by kernel_rfl) (by rfl) (a' := { tmps := #[.agg A, .agg B, .agg C, .agg D, .pointer (some ⟨w.heap.size, 0, none⟩), .pointer (some ⟨w.heap.size + 1, 0, none⟩), .pointer (some ⟨w.heap.size + 1 + 1, 0, none⟩), .pointer (some ⟨w.heap.size + 1 + 1 + 1, 0, none⟩), .bool false, undef, undef, undef, undef, .bool true, .bool false, .agg A, .bool true, .bool false, .bool false, .agg B, .bool false, .bool true, .bool true, .bool true, undef, undef, undef, undef, undef, undef, undef, undef, undef, undef, undef, undef, undef, undef, undef, undef, undef, undef, undef, undef, undef, undef, undef, undef, undef, undef, undef, undef, undef, undef, undef, undef, undef, undef, undef, undef, undef, undef, undef, undef, undef, undef, undef, undef, undef, undef, undef, undef, undef, undef, undef, undef, undef, undef, undef, undef, undef, undef, undef, undef, undef], defers := [] }) rfl ?_
    refine wpl_no (by kernel_rfl) (a' := { tmps := #[.agg A, .agg B, .agg C, .agg D, .pointer (some ⟨w.heap.size, 0, none⟩), .pointer (some ⟨w.heap.size + 1, 0, none⟩), .pointer (some ⟨w.heap.size + 1 + 1, 0, none⟩), .pointer (some ⟨w.heap.size + 1 + 1 + 1, 0, none⟩), .bool false, undef, undef, undef, undef, .bool true, .bool false, .agg A, .bool true, .bool false, .bool false, .agg B, .bool false, .bool true, .bool true, .bool true, undef, undef, undef, undef, undef, undef, undef, undef, undef, undef, undef, undef, undef, undef, undef, undef, undef, undef, undef, undef, undef, undef, undef, undef, undef, undef, undef, undef, undef, undef, undef, undef, undef, undef, undef, undef, undef, undef, undef, undef, undef, undef, undef, undef, undef, undef, undef, undef, undef, undef, undef, undef, undef, undef, undef, undef, undef, undef, undef, undef, undef], defers := [] }) rfl ?_
    refine wpl_no (by kernel_rfl) (a' := { tmps := #[.agg A, .agg B, .agg C, .agg D, .pointer (some ⟨w.heap.size, 0, none⟩), .pointer (some ⟨w.heap.size + 1, 0, none⟩), .pointer (some ⟨w.heap.size + 1 + 1, 0, none⟩), .pointer (some ⟨w.heap.size + 1 + 1 + 1, 0, none⟩), .bool false, undef, undef, undef, undef, .bool true, .bool false, .agg A, .bool true, .bool false, .bool false, .agg B, .bool false, .bool true, .bool true, .bool true, undef, undef, undef, undef, undef, undef, undef, undef, undef, undef, undef, undef, undef, undef, undef, undef, undef, undef, undef, undef, undef, undef, undef, undef, undef, undef, undef, undef, undef, undef, undef, undef, undef, undef, undef, undef, undef, undef, undef, undef, undef, undef, undef, undef, undef, undef, undef, undef, undef, undef, undef, undef, undef, undef, undef, undef, undef, undef, undef, undef, undef], defers := [] }) rfl ?_
    refine wpl_no (by kernel_rfl) (a' := { tmps := #[.agg A, .agg B, .agg C, .agg D, .pointer (some ⟨w.heap.size, 0, none⟩), .pointer (some ⟨w.heap.size + 1, 0, none⟩), .pointer (some ⟨w.heap.size + 1 + 1, 0, none⟩), .pointer (some ⟨w.heap.size + 1 + 1 + 1, 0, none⟩), .bool false, undef, undef, undef, undef, .bool true, .bool false, .agg A, .bool true, .bool false, .bool false, .agg B, .bool false, .bool true, .bool true, .bool true, undef, undef, undef, undef, undef, undef, undef, undef, undef, undef, undef, undef, undef, undef, undef, undef, undef, undef, undef, undef, undef, undef, undef, undef, undef, undef, undef, undef, undef, undef, undef, undef, undef, undef, undef, undef, undef, undef, undef, undef, undef, undef, undef, undef, undef, undef, undef, undef, undef, undef, undef, undef, undef, undef, undef, undef, undef, undef, undef, undef, undef], defers := [] }) rfl ?_
    refine wpl_v (v := .bool true) (by kernel_rfl) (by go_simp) (a' := { tmps := #[.agg A, .agg B, .agg C, .agg D, .pointer (some ⟨w.heap.size, 0, none⟩), .pointer (some ⟨w.heap.size + 1, 0, none⟩), .pointer (some ⟨w.heap.size + 1 + 1, 0, none⟩), .pointer (some ⟨w.heap.size + 1 + 1 + 1, 0, none⟩), .bool false, undef, undef, undef, undef, .bool true, .bool false, .agg A, .bool true, .bool false, .bool false, .agg B, .bool false, .bool true, .bool true, .bool true, undef, undef, undef, .bool true, undef, undef, undef, undef, undef, undef, undef, undef, undef, undef, undef, undef, undef, undef, undef, undef, undef, undef, undef, undef, undef, undef, undef, undef, undef, undef, undef, undef, undef, undef, undef, undef, undef, undef, undef, undef, undef, undef, undef, undef, undef, undef, undef, undef, undef, undef, undef, undef, undef, undef, undef, undef, undef, undef, undef, undef, undef], defers := [] }) rfl ?_
    go_wp2_with fail
    go_ret
    exact ⟨rfl, Below.up HB.out HB3.out⟩
  | true =>
  refine hK ({ tmps := #[.agg A, .agg B, .agg C, .agg D, .pointer (some ⟨w.heap.size, 0, none⟩), .pointer (some ⟨w.heap.size + 1, 0, none⟩), .pointer (some ⟨w.heap.size + 1 + 1, 0, none⟩), .pointer (some ⟨w.heap.size + 1 + 1 + 1, 0, none⟩), .bool false, undef, undef, undef, undef, .bool true, .bool false, .agg A, .bool true, .bool false, .bool false, .agg B, .bool true, undef, undef, undef, undef, undef, undef, undef, undef, undef, undef, undef, undef, undef, undef, undef, undef, undef, undef, undef, undef, undef, undef, undef, undef, undef, undef, undef, undef, undef, undef, undef, undef, undef, undef, undef, undef, undef, undef, undef, undef, undef, undef, undef, undef, undef, undef, undef, undef, undef, undef, undef, undef, undef, undef, undef, undef, undef, undef, undef, undef, undef, undef, undef, undef], defers := [] }) _ ?_
  clear hK K
  refine wpl_v (v := .bool false) (by kernel_rfl) (by go_simp) (a' := { tmps := #[.agg A, .agg B, .agg C, .agg D, .pointer (some ⟨w.heap.size, 0, none⟩), .pointer (some ⟨w.heap.size + 1, 0, none⟩), .pointer (some ⟨w.heap.size + 1 + 1, 0, none⟩), .pointer (some ⟨w.heap.size + 1 + 1 + 1, 0, none⟩), .bool false, undef, undef, undef, undef, .bool true, .bool false, .agg A, .bool true, .bool false, .bool false, .agg B, .bool true, .bool false, undef, undef, undef, undef, undef, undef, undef, undef, undef, undef, undef, undef, undef, undef, undef, undef, undef, undef, undef, undef, undef, undef, undef, undef, undef, undef, undef, undef, undef, undef, undef, undef, undef, undef, undef, undef, undef, undef, undef, undef, undef, undef, undef, undef, undef, undef, undef, undef, undef, undef, undef, undef, undef, undef, undef, undef, undef, undef, undef, undef, undef, undef, undef], defers := [] }) rfl ?_
  refine wpl_v (v := .bool false) (by kernel_rfl) (by go_simp) (a' := { tmps := #[.agg A, .agg B, .agg C, .agg D, .pointer (some ⟨w.heap.size, 0, none⟩), .pointer (some ⟨w.heap.size + 1, 0, none⟩), .pointer (some ⟨w.heap.size + 1 + 1, 0, none⟩), .pointer (some ⟨w.heap.size + 1 + 1 + 1, 0, none⟩), .bool false, undef, undef, undef, undef, .bool true, .bool false, .agg A, .bool true, .bool false, .bool false, .agg B, .bool true, .bool false, .bool false, undef, undef, undef, undef, undef, undef, undef, undef, undef, undef, undef, undef, undef, undef, undef, undef, undef, undef, undef, undef, undef, undef, undef, undef, undef, undef, undef, undef, undef, undef, undef, undef, undef, undef, undef, undef, undef, undef, undef, undef, undef, undef, undef, undef, undef, undef, undef, undef, undef, undef, undef, undef, undef, undef, undef, undef, undef, undef, undef, undef, undef, undef], defers := [] }) rfl ?_
  refine wpl_v (v := .bool false) (by kernel_rfl) (by rfl) (a' := { tmps := #[.agg A, .agg B, .agg C, .agg D, .pointer (some ⟨w.heap.size, 0, none⟩), .pointer (some ⟨w.heap.size + 1, 0, none⟩), .pointer (some ⟨w.heap.size + 1 + 1, 0, none⟩), .pointer (some ⟨w.heap.size + 1 + 1 + 1, 0, none⟩), .bool false, undef, undef, undef, undef, .bool true, .bool false, .agg A, .bool true, .bool false, .bool false, .agg B, .bool true, .bool false, .bool false, .bool false, undef, undef, undef, undef, undef, undef, undef, undef, undef, undef, undef, undef, undef, undef, undef, undef, undef, undef, undef, undef, undef, undef, undef, undef, undef, undef, undef, undef, undef, undef, undef, undef, undef, undef, undef, undef, undef, undef, undef, undef, undef, undef, undef, undef, undef, undef, undef, undef, undef, undef, undef, undef, undef, undef, undef, undef, undef, undef, undef, undef, undef], defers := [] }) rfl ?_
  refine wpl_v (v := .agg D) (by kernel_rfl) (ex_load 32 (.tmp 7) _ rfl rfl (L7.out _ HB3.out)) (a' := { tmps := #[.agg A, .agg B, .agg C, .agg D, .pointer (some ⟨w.heap.size, 0, none⟩), .pointer (some ⟨w.heap.size + 1, 0, none⟩), .pointer (some ⟨w.heap.size + 1 + 1, 0, none⟩), .pointer (some ⟨w.heap.size + 1 + 1 + 1, 0, none⟩), .bool false, undef, undef, undef, undef, .bool true, .bool false, .agg A, .bool true, .bool false, .bool false, .agg B, .bool true, .bool false, .bool false, .bool false, .agg D, undef, undef, undef, undef, undef, undef, undef, undef, undef, undef, undef, undef, undef, undef, undef, undef, undef, undef, undef, undef, undef, undef, undef, undef, undef, undef, undef, undef, undef, undef, undef, undef, undef, undef, undef, undef, undef, undef, undef, undef, undef, undef, undef, undef, undef, undef, undef, undef, undef, undef, undef, undef, undef, undef, undef, undef, undef, undef, undef, undef], defers := [] }) rfl ?_
  refine wpl_any (by kernel_rfl) fun K hK => ?_
  go_simp
  refine Calls.mono (HPV.out w3) ?_
  rintro e w4 ⟨b, rfl, hf2, hb⟩
  have HB4 := Lib.hid (Below.up HB3.out hb)
  have HF2 := Lib.hid hf2
  clear hb hf2
  cases b with
  | false =>
    refine hK ({ tmps := #[.agg A, .agg B, .agg C, .agg D, .pointer (some ⟨w.heap.size, 0, none⟩), .pointer (some ⟨w.heap.size + 1, 0, none⟩), .pointer (some ⟨w.heap.size + 1 + 1, 0, none⟩), .pointer (some ⟨w.heap.size + 1 + 1 + 1, 0, none⟩), .bool false, undef, undef, undef, undef, .bool true, .bool false, .agg A, .bool true, .bool false, .bool false, .agg B, .bool true, .bool false, .bool false, .bool false, .agg D, .bool false, undef, undef, undef, undef, undef, undef, undef, undef, undef, undef, undef, undef, undef, undef, undef, undef, undef, undef, undef, undef, undef, undef, undef, undef, undef, undef, undef, undef, undef, undef, undef, undef, undef, undef, undef, undef, undef, undef, undef, undef, undef, undef, undef, undef, undef, undef, undef, undef, undef, undef, undef, undef, undef, undef, undef, undef, undef, undef, undef], defers := [] }) _ ?_
    clear hK K
    refine wpl_v (v := .bool true) (by kernel_rfl) (by go_simp) (a' := { tmps := #[.agg A, .agg B, .agg C, .agg D, .pointer (some ⟨w.heap.size, 0, none⟩), .pointer (some ⟨w.heap.size + 1, 0, none⟩), .pointer (some ⟨w.heap.size + 1 + 1, 0, none⟩), .pointer (some ⟨w.heap.size + 1 + 1 + 1, 0, none⟩), .bool false, undef, undef, undef, undef, .bool true, .bool false, .agg A, .bool true, .bool false, .bool false, .agg B, .bool true, .bool false, .bool false, .bool false, .agg D, .bool false, .bool true, undef, undef, undef, undef, undef, undef, undef, undef, undef, undef, undef, undef, undef, undef, undef, undef, undef, undef, undef, undef, undef, undef, undef, undef, undef, undef, undef, undef, undef, undef, undef, undef, undef, undef, undef, undef, undef, undef, undef, undef, undef, undef, undef, undef, undef, undef, undef, undef, undef, undef, undef, undef, undef, undef, undef, undef, undef, undef], defers := [] }) rfl ?_
    refine wpl_v (v := .bool true) (by kernel_rfl) (by go_simp) (a' := { tmps := #[.agg A, .agg B, .agg C, .agg D, .pointer (some ⟨w.heap.size, 0, none⟩), .pointer (some ⟨w.heap.size + 1, 0, none⟩), .pointer (some ⟨w.heap.size + 1 + 1, 0, none⟩), .pointer (some ⟨w.heap.size + 1 + 1 + 1, 0, none⟩), .bool false, undef, undef, undef, undef, .bool true, .bool false, .agg A, .bool true, .bool false, .bool false, .agg B, .bool true, .bool false, .bool false, .bool false, .agg D, .bool false, .bool true, .bool true, undef, undef, undef, undef, undef, undef, undef, undef, undef, undef, undef, undef, undef, undef, undef, undef, undef, undef, undef, undef, undef, undef, undef, undef, undef, undef, undef, undef, undef, undef, undef, undef, undef, undef, undef, undef, undef, undef, undef, undef, undef, undef, undef, undef, undef, undef, undef, undef, undef, undef, undef, undef, undef, undef, undef, undef, undef], defers := [] }) rfl ?_
    go_wp2_with fail
    go_ret
    exact ⟨rfl, Below.up HB.out HB4.out⟩
  | true =>
  refine hK ({ tmps := #[.agg A, .agg B, .agg C, .agg D, .pointer (some ⟨w.heap.size, 0, none⟩), .pointer (some ⟨w.heap.size + 1, 0, none⟩), .pointer (some ⟨w.heap.size + 1 + 1, 0, none⟩), .pointer (some ⟨w.heap.size + 1 + 1 + 1, 0, none⟩), .bool false, undef, undef, undef, undef, .bool true, .bool false, .agg A, .bool true, .bool false, .bool false, .agg B, .bool true, .bool false, .bool false, .bool false, .agg D, .bool true, undef, undef, undef, undef, undef, undef, undef, undef, undef, undef, undef, undef, undef, undef, undef, undef, undef, undef, undef, undef, undef, undef, undef, undef, undef, undef, undef, undef, undef, undef, undef, undef, undef, undef, undef, undef, undef, undef, undef, undef, undef, undef, undef, undef, undef, undef, undef, undef, undef, undef, undef, undef, undef, undef, undef, undef, undef, undef, undef], defers := [] }) _ ?_
  clear hK K
  refine wpl_v (v := .bool false) (by kernel_rfl) (by go_simp) (a' := { tmps := #[.agg A, .agg B, .agg C, .agg D, .pointer (some ⟨w.heap.size, 0, none⟩), .pointer (some ⟨w.heap.size + 1, 0, none⟩), .pointer (some ⟨w.heap.size + 1 + 1, 0, none⟩), .pointer (some ⟨w.heap.size + 1 + 1 + 1, 0, none⟩), .bool false, undef, undef, undef, undef, .bool true, .bool false, .agg A, .bool true, .bool false, .bool false, .agg B, .bool true, .bool false, .bool false, .bool false, .agg D, .bool true, .bool false, undef, undef, undef, undef, undef, undef, undef, undef, undef, undef, undef, undef, undef, undef, undef, undef, undef, undef, undef, undef, undef, undef, undef, undef, undef, undef, undef, undef, undef, undef, undef, undef, undef, undef, undef, undef, undef, undef, undef, undef, undef, undef, undef, undef, undef, undef, undef, undef, undef, undef, undef, undef, undef, undef, undef, undef, undef, undef], defers := [] }) rfl ?_
  refine wpl_v (v := .bool false) (by kernel_rfl) (by go_simp) (a' := { tmps := #[.agg A, .agg B, .agg C, .agg D, .pointer (some ⟨w.heap.size, 0, none⟩), .pointer (some ⟨w.heap.size + 1, 0, none⟩), .pointer (some ⟨w.heap.size + 1 + 1, 0, none⟩), .pointer (some ⟨w.heap.size + 1 + 1 + 1, 0, none⟩), .bool false, undef, undef, undef, undef, .bool true, .bool false, .agg A, .bool true, .bool false, .bool false, .agg B, .bool true, .bool false, .bool false, .bool false, .agg D, .bool true, .bool false, .bool false, undef, undef, undef, undef, undef, undef, undef, undef, undef, undef, undef, undef, undef, undef, undef, undef, undef, undef, undef, undef, undef, undef, undef, undef, undef, undef, undef, undef, undef, undef, undef, undef, undef, undef, undef, undef, undef, undef, undef, undef, undef, undef, undef, undef, undef, undef, undef, undef, undef, undef, undef, undef, undef, undef, undef, undef, undef], defers := [] }) rfl ?_
  have HAT := Lib.hid (show MgAt w4 m c ∧ MgAt w4 n d ∧ VtAt w4 v vc from
    ⟨(HU.out.1.at (HF0.out rfl).1 (HF0.out rfl).2.1 (HF0.out rfl).2.2.1 (HF0.out rfl).2.2.2.1 (HF0.out rfl).2.2.2.2).below (Below.up HB.out HB4.out),
     (HU.out.2.1.at (HF1.out rfl).1 (HF1.out rfl).2.1 (HF1.out rfl).2.2.1 (HF1.out rfl).2.2.2.1 (HF1.out rfl).2.2.2.2).below (Below.up HB.out HB4.out),
     (HU.out.2.2.1.at (HF2.out rfl)).below (Below.up HB.out HB4.out)⟩)
  have HT := Lib.hid (Tab.on HU.out.2.2.2 (Below.up HB.out HB4.out))
  have EA := Lib.hid (encA w4 m c HAT.out.1 HO.out.1 HT.out)
  have EB := Lib.hid (fun wx (h : Below w4.heap.size w4 wx) => encD wx m c (HAT.out.1.below h) HO.out.1)
  rw [← HA.out.1] at EA EB
  clear HP1 HP2 HPV HF0 HF1 HF2
  obtain ⟨E, hE⟩ : ∃ E, E = bytesM m c := ⟨_, rfl⟩
  obtain ⟨z, hz⟩ : ∃ z, z = errM m c := ⟨_, rfl⟩
  unfold EncE at EA EB
  rw [← hE, ← hz] at EA EB
  clear hE hz
  go_upto_region 5 with fail
  refine wp_region_lit ?_
  refine wpl_v (v := .agg A) (by kernel_rfl) (ex_load 37 (.tmp 4) _ rfl rfl (L4.out _ HB4.out)) (a' := { tmps := #[.agg A, .agg B, .agg C, .agg D, .pointer (some ⟨w.heap.size, 0, none⟩), .pointer (some ⟨w.heap.size + 1, 0, none⟩), .pointer (some ⟨w.heap.size + 1 + 1, 0, none⟩), .pointer (some ⟨w.heap.size + 1 + 1 + 1, 0, none⟩), .bool false, undef, undef, undef, undef, .bool true, .bool false, .agg A, .bool true, .bool false, .bool false, .agg B, .bool true, .bool false, .bool false, .bool false, .agg D, .bool true, .bool false, .bool false, undef, .agg A, undef, undef, undef, undef, undef, undef, undef, undef, undef, undef, undef, undef, undef, undef, undef, undef, undef, undef, undef, undef, undef, undef, undef, undef, undef, undef, undef, undef, undef, undef, undef, undef, undef, undef, undef, undef, undef, undef, undef, undef, undef, undef, undef, undef, undef, undef, undef, undef, undef, undef, undef, undef, undef, undef, undef], defers := [] }) rfl ?_
  refine wpl_any (by kernel_rfl) fun K hK => ?_
  go_simp
  refine Calls.mono (EA.out) ?_
  rintro e w5 ⟨a5, z5, rfl, hd, hb⟩
  have HB5 := Lib.hid (Below.up HB4.out hb)
  have D5 := Lib.hid hd
  have HBN := Lib.hid hb
  clear hb hd
  refine hK ({ tmps := #[.agg A, .agg B, .agg C, .agg D, .pointer (some ⟨w.heap.size, 0, none⟩), .pointer (some ⟨w.heap.size + 1, 0, none⟩), .pointer (some ⟨w.heap.size + 1 + 1, 0, none⟩), .pointer (some ⟨w.heap.size + 1 + 1 + 1, 0, none⟩), .bool false, undef, undef, undef, undef, .bool true, .bool false, .agg A, .bool true, .bool false, .bool false, .agg B, .bool true, .bool false, .bool false, .bool false, .agg D, .bool true, .bool false, .bool false, undef, .agg A, .tuple #[.slice a5 E.length z5, .int .i64 z], undef, undef, undef, undef, undef, undef, undef, undef, undef, undef, undef, undef, undef, undef, undef, undef, undef, undef, undef, undef, undef, undef, undef, undef, undef, undef, undef, undef, undef, undef, undef, undef, undef, undef, undef, undef, undef, undef, undef, undef, undef, undef, undef, undef, undef, undef, undef, undef, undef, undef, undef, undef, undef, undef], defers := [] }) _ ?_
  clear hK K
  refine wpl_v (v := .tuple #[.slice a5 E.length z5, .int .i64 z]) (by kernel_rfl) (by rfl) (a' := { tmps := #[.agg A, .agg B, .agg C, .agg D, .pointer (some ⟨w.heap.size, 0, none⟩), .pointer (some ⟨w.heap.size + 1, 0, none⟩), .pointer (some ⟨w.heap.size + 1 + 1, 0, none⟩), .pointer (some ⟨w.heap.size + 1 + 1 + 1, 0, none⟩), .bool false, undef, undef, undef, undef, .bool true, .bool false, .agg A, .bool true, .bool false, .bool false, .agg B, .bool true, .bool false, .bool false, .bool false, .agg D, .bool true, .bool false, .bool false, .tuple #[.slice a5 E.length z5, .int .i64 z], .agg A, .tuple #[.slice a5 E.length z5, .int .i64 z], undef, undef, undef, undef, undef, undef, undef, undef, undef, undef, undef, undef, undef, undef, undef, undef, undef, undef, undef, undef, undef, undef, undef, undef, undef, undef, undef, undef, undef, undef, undef, undef, undef, undef, undef, undef, undef, undef, undef, undef, undef, undef, undef, undef, undef, undef, undef, undef, undef, undef, undef, undef, undef, undef], defers := [] }) rfl ?_
  refine wpl_v (v := .slice a5 E.length z5) (by kernel_rfl) (by rfl) (a' := { tmps := #[.agg A, .agg B, .agg C, .agg D, .pointer (some ⟨w.heap.size, 0, none⟩), .pointer (some ⟨w.heap.size + 1, 0, none⟩), .pointer (some ⟨w.heap.size + 1 + 1, 0, none⟩), .pointer (some ⟨w.heap.size + 1 + 1 + 1, 0, none⟩), .bool false, undef, undef, undef, undef, .bool true, .bool false, .agg A, .bool true, .bool false, .bool false, .agg B, .bool true, .bool false, .bool false, .bool false, .agg D, .bool true, .bool false, .bool false, .tuple #[.slice a5 E.length z5, .int .i64 z], .agg A, .tuple #[.slice a5 E.length z5, .int .i64 z], .slice a5 E.length z5, undef, undef, undef, undef, undef, undef, undef, undef, undef, undef, undef, undef, undef, undef, undef, undef, undef, undef, undef, undef, undef, undef, undef, undef, undef, undef, undef, undef, undef, undef, undef, undef, undef, undef, undef, undef, undef, undef, undef, undef, undef, undef, undef, undef, undef, undef, undef, undef, undef, undef, undef, undef, undef], defers := [] }) rfl ?_
  refine wpl_v (v := .int .i64 z) (by kernel_rfl) (by rfl) (a' := { tmps := #[.agg A, .agg B, .agg C, .agg D, .pointer (some ⟨w.heap.size, 0, none⟩), .pointer (some ⟨w.heap.size + 1, 0, none⟩), .pointer (some ⟨w.heap.size + 1 + 1, 0, none⟩), .pointer (some ⟨w.heap.size + 1 + 1 + 1, 0, none⟩), .bool false, undef, undef, undef, undef, .bool true, .bool false, .agg A, .bool true, .bool false, .bool false, .agg B, .bool true, .bool false, .bool false, .bool false, .agg D, .bool true, .bool false, .bool false, .tuple #[.slice a5 E.length z5, .int .i64 z], .agg A, .tuple #[.slice a5 E.length z5, .int .i64 z], .slice a5 E.length z5, .int .i64 z, undef, undef, undef, undef, undef, undef, undef, undef, undef, undef, undef, undef, undef, undef, undef, undef, undef, undef, undef, undef, undef, undef, undef, undef, undef, undef, undef, undef, undef, undef, undef, undef, undef, undef, undef, undef, undef, undef, undef, undef, undef, undef, undef, undef, undef, undef, undef, undef, undef, undef, undef, undef], defers := [] }) rfl ?_
  refine wpl_v (v := .slice a5 E.length z5) (by kernel_rfl) (by rfl) (a' := { tmps := #[.agg A, .agg B, .agg C, .agg D, .pointer (some ⟨w.heap.size, 0, none⟩), .pointer (some ⟨w.heap.size + 1, 0, none⟩), .pointer (some ⟨w.heap.size + 1 + 1, 0, none⟩), .pointer (some ⟨w.heap.size + 1 + 1 + 1, 0, none⟩), .bool false, .slice a5 E.length z5, undef, undef, undef, .bool true, .bool false, .agg A, .bool true, .bool false, .bool false, .agg B, .bool true, .bool false, .bool false, .bool false, .agg D, .bool true, .bool false, .bool false, .tuple #[.slice a5 E.length z5, .int .i64 z], .agg A, .tuple #[.slice a5 E.length z5, .int .i64 z], .slice a5 E.length z5, .int .i64 z, undef, undef, undef, undef, undef, undef, undef, undef, undef, undef, undef, undef, undef, undef, undef, undef, undef, undef, undef, undef, undef, undef, undef, undef, undef, undef, undef, undef, undef, undef, undef, undef, undef, undef, undef, undef, undef, undef, undef, undef, undef, undef, undef, undef, undef, undef, undef, undef, undef, undef, undef, undef], defers := [] }) rfl ?_
  refine wpl_v (v := .int .i64 z) (by kernel_rfl) (by rfl) (a' := { tmps := #[.agg A, .agg B, .agg C, .agg D, .pointer (some ⟨w.heap.size, 0, none⟩), .pointer (some ⟨w.heap.size + 1, 0, none⟩), .pointer (some ⟨w.heap.size + 1 + 1, 0, none⟩), .pointer (some ⟨w.heap.size + 1 + 1 + 1, 0, none⟩), .bool false, .slice a5 E.length z5, .int .i64 z, undef, undef, .bool true, .bool false, .agg A, .bool true, .bool false, .bool false, .agg B, .bool true, .bool false, .bool false, .bool false, .agg D, .bool true, .bool false, .bool false, .tuple #[.slice a5 E.length z5, .int .i64 z], .agg A, .tuple #[.slice a5 E.length z5, .int .i64 z], .slice a5 E.length z5, .int .i64 z, undef, undef, undef, undef, undef, undef, undef, undef, undef, undef, undef, undef, undef, undef, undef, undef, undef, undef, undef, undef, undef, undef, undef, undef, undef, undef, undef, undef, undef, undef, undef, undef, undef, undef, undef, undef, undef, undef, undef, undef, undef, undef, undef, undef, undef, undef, undef, undef, undef, undef, undef, undef], defers := [] }) rfl ?_
  have HC5 := Lib.hid HBN.out
  clear HBN
  go_upto_region 6 with fail
  refine wp_region_lit ?_
  refine wpl_v (v := .agg A) (by kernel_rfl) (ex_load 37 (.tmp 4) _ rfl rfl (L4.out _ HB5.out)) (a' := { tmps := #[.agg A, .agg B, .agg C, .agg D, .pointer (some ⟨w.heap.size, 0, none⟩), .pointer (some ⟨w.heap.size + 1, 0, none⟩), .pointer (some ⟨w.heap.size + 1 + 1, 0, none⟩), .pointer (some ⟨w.heap.size + 1 + 1 + 1, 0, none⟩), .bool false, .slice a5 E.length z5, .int .i64 z, undef, undef, .bool true, .bool false, .agg A, .bool true, .bool false, .bool false, .agg B, .bool true, .bool false, .bool false, .bool false, .agg D, .bool true, .bool false, .bool false, .tuple #[.slice a5 E.length z5, .int .i64 z], .agg A, .tuple #[.slice a5 E.length z5, .int .i64 z], .slice a5 E.length z5, .int .i64 z, undef, .agg A, undef, undef, undef, undef, undef, undef, undef, undef, undef, undef, undef, undef, undef, undef, undef, undef, undef, undef, undef, undef, undef, undef, undef, undef, undef, undef, undef, undef, undef, undef, undef, undef, undef, undef, undef, undef, undef, undef, undef, undef, undef, undef, undef, undef, undef, undef, undef, undef, undef, undef], defers := [] }) rfl ?_
  refine wpl_any (by kernel_rfl) fun K hK => ?_
  go_simp
  refine Calls.mono (EB.out w5 HC5.out) ?_
  rintro e w6 ⟨a6, z6, rfl, hd, hb⟩
  have HB6 := Lib.hid (Below.up HB5.out hb)
  have D6 := Lib.hid hd
  have HBN := Lib.hid hb
  clear hb hd
  refine hK ({ tmps := #[.agg A, .agg B, .agg C, .agg D, .pointer (some ⟨w.heap.size, 0, none⟩), .pointer (some ⟨w.heap.size + 1, 0, none⟩), .pointer (some ⟨w.heap.size + 1 + 1, 0, none⟩), .pointer (some ⟨w.heap.size + 1 + 1 + 1, 0, none⟩), .bool false, .slice a5 E.length z5, .int .i64 z, undef, undef, .bool true, .bool false, .agg A, .bool true, .bool false, .bool false, .agg B, .bool true, .bool false, .bool false, .bool false, .agg D, .bool true, .bool false, .bool false, .tuple #[.slice a5 E.length z5, .int .i64 z], .agg A, .tuple #[.slice a5 E.length z5, .int .i64 z], .slice a5 E.length z5, .int .i64 z, undef, .agg A, .tuple #[.slice a6 E.length z6, .int .i64 z], undef, undef, undef, undef, undef, undef, undef, undef, undef, undef, undef, undef, undef, undef, undef, undef, undef, undef, undef, undef, undef, undef, undef, undef, undef, undef, undef, undef, undef, undef, undef, undef, undef, undef, undef, undef, undef, undef, undef, undef, undef, undef, undef, undef, undef, undef, undef, undef, undef], defers := [] }) _ ?_
  clear hK K
  refine wpl_v (v := .tuple #[.slice a6 E.length z6, .int .i64 z]) (by kernel_rfl) (by rfl) (a' := { tmps := #[.agg A, .agg B, .agg C, .agg D, .pointer (some ⟨w.heap.size, 0, none⟩), .pointer (some ⟨w.heap.size + 1, 0, none⟩), .pointer (some ⟨w.heap.size + 1 + 1, 0, none⟩), .pointer (some ⟨w.heap.size + 1 + 1 + 1, 0, none⟩), .bool false, .slice a5 E.length z5, .int .i64 z, undef, undef, .bool true, .bool false, .agg A, .bool true, .bool false, .bool false, .agg B, .bool true, .bool false, .bool false, .bool false, .agg D, .bool true, .bool false, .bool false, .tuple #[.slice a5 E.length z5, .int .i64 z], .agg A, .tuple #[.slice a5 E.length z5, .int .i64 z], .slice a5 E.length z5, .int .i64 z, .tuple #[.slice a6 E.length z6, .int .i64 z], .agg A, .tuple #[.slice a6 E.length z6, .int .i64 z], undef, undef, undef, undef, undef, undef, undef, undef, undef, undef, undef, undef, undef, undef, undef, undef, undef, undef, undef, undef, undef, undef, undef, undef, undef, undef, undef, undef, undef, undef, undef, undef, undef, undef, undef, undef, undef, undef, undef, undef, undef, undef, undef, undef, undef, undef, undef, undef, undef], defers := [] }) rfl ?_
  refine wpl_v (v := .slice a6 E.length z6) (by kernel_rfl) (by rfl) (a' := { tmps := #[.agg A, .agg B, .agg C, .agg D, .pointer (some ⟨w.heap.size, 0, none⟩), .pointer (some ⟨w.heap.size + 1, 0, none⟩), .pointer (some ⟨w.heap.size + 1 + 1, 0, none⟩), .pointer (some ⟨w.heap.size + 1 + 1 + 1, 0, none⟩), .bool false, .slice a5 E.length z5, .int .i64 z, undef, undef, .bool true, .bool false, .agg A, .bool true, .bool false, .bool false, .agg B, .bool true, .bool false, .bool false, .bool false, .agg D, .bool true, .bool false, .bool false, .tuple #[.slice a5 E.length z5, .int .i64 z], .agg A, .tuple #[.slice a5 E.length z5, .int .i64 z], .slice a5 E.length z5, .int .i64 z, .tuple #[.slice a6 E.length z6, .int .i64 z], .agg A, .tuple #[.slice a6 E.length z6, .int .i64 z], .slice a6 E.length z6, undef, undef, undef, undef, undef, undef, undef, undef, undef, undef, undef, undef, undef, undef, undef, undef, undef, undef, undef, undef, undef, undef, undef, undef, undef, undef, undef, undef, undef, undef, undef, undef, undef, undef, undef, undef, undef, undef, undef, undef, undef, undef, undef, undef, undef, undef, undef, undef], defers := [] }) rfl ?_
  refine wpl_v (v := .int .i64 z) (by kernel_rfl) (by rfl) (a' := { tmps := #[.agg A, .agg B, .agg C, .agg D, .pointer (some ⟨w.heap.size, 0, none⟩), .pointer (some ⟨w.heap.size + 1, 0, none⟩), .pointer (some ⟨w.heap.size + 1 + 1, 0, none⟩), .pointer (some ⟨w.heap.size + 1 + 1 + 1, 0, none⟩), .bool false, .slice a5 E.length z5, .int .i64 z, undef, undef, .bool true, .bool false, .agg A, .bool true, .bool false, .bool false, .agg B, .bool true, .bool false, .bool false, .bool false, .agg D, .bool true, .bool false, .bool false, .tuple #[.slice a5 E.length z5, .int .i64 z], .agg A, .tuple #[.slice a5 E.length z5, .int .i64 z], .slice a5 E.length z5, .int .i64 z, .tuple #[.slice a6 E.length z6, .int .i64 z], .agg A, .tuple #[.slice a6 E.length z6, .int .i64 z], .slice a6 E.length z6, .int .i64 z, undef, undef, undef, undef, undef, undef, undef, undef, undef, undef, undef, undef, undef, undef, undef, undef, undef, undef, undef, undef, undef, undef, undef, undef, undef, undef, undef, undef, undef, undef, undef, undef, undef, undef, undef, undef, undef, undef, undef, undef, undef, undef, undef, undef, undef, undef, undef], defers := [] }) rfl ?_
  refine wpl_v (v := .slice a6 E.length z6) (by kernel_rfl) (by rfl) (a' := { tmps := #[.agg A, .agg B, .agg C, .agg D, .pointer (some ⟨w.heap.size, 0, none⟩), .pointer (some ⟨w.heap.size + 1, 0, none⟩), .pointer (some ⟨w.heap.size + 1 + 1, 0, none⟩), .pointer (some ⟨w.heap.size + 1 + 1 + 1, 0, none⟩), .bool false, .slice a5 E.length z5, .int .i64 z, .slice a6 E.length z6, undef, .bool true, .bool false, .agg A, .bool true, .bool false, .bool false, .agg B, .bool true, .bool false, .bool false, .bool false, .agg D, .bool true, .bool false, .bool false, .tuple #[.slice a5 E.length z5, .int .i64 z], .agg A, .tuple #[.slice a5 E.length z5, .int .i64 z], .slice a5 E.length z5, .int .i64 z, .tuple #[.slice a6 E.length z6, .int .i64 z], .agg A, .tuple #[.slice a6 E.length z6, .int .i64 z], .slice a6 E.length z6, .int .i64 z, undef, undef, undef, undef, undef, undef, undef, undef, undef, undef, undef, undef, undef, undef, undef, undef, undef, undef, undef, undef, undef, undef, undef, undef, undef, undef, undef, undef, undef, undef, undef, undef, undef, undef, undef, undef, undef, undef, undef, undef, undef, undef, undef, undef, undef, undef, undef], defers := [] }) rfl ?_
  refine wpl_v (v := .int .i64 z) (by kernel_rfl) (by rfl) (a' := { tmps := #[.agg A, .agg B, .agg C, .agg D, .pointer (some ⟨w.heap.size, 0, none⟩), .pointer (some ⟨w.heap.size + 1, 0, none⟩), .pointer (some ⟨w.heap.size + 1 + 1, 0, none⟩), .pointer (some ⟨w.heap.size + 1 + 1 + 1, 0, none⟩), .bool false, .slice a5 E.length z5, .int .i64 z, .slice a6 E.length z6, .int .i64 z, .bool true, .bool false, .agg A, .bool true, .bool false, .bool false, .agg B, .bool true, .bool false, .bool false, .bool false, .agg D, .bool true, .bool false, .bool false, .tuple #[.slice a5 E.length z5, .int .i64 z], .agg A, .tuple #[.slice a5 E.length z5, .int .i64 z], .slice a5 E.length z5, .int .i64 z, .tuple #[.slice a6 E.length z6, .int .i64 z], .agg A, .tuple #[.slice a6 E.length z6, .int .i64 z], .slice a6 E.length z6, .int .i64 z, undef, undef, undef, undef, undef, undef, undef, undef, undef, undef, undef, undef, undef, undef, undef, undef, undef, undef, undef, undef, undef, undef, undef, undef, undef, undef, undef, undef, undef, undef, undef, undef, undef, undef, undef, undef, undef, undef, undef, undef, undef, undef, undef, undef, undef, undef, undef], defers := [] }) rfl ?_
  have HC6 := Lib.hid (Below.up HC5.out HBN.out)
  have HN6 := Lib.hid HBN.out
  clear HBN EA EB
  have q4 := Lib.hid (fun (u : World) (h : Below w6.heap.size w6 u) => (show Below w4.heap.size w4 u from Below.up HC6.out h))
  obtain ⟨b0, h0⟩ : ∃ b, b = isM m c := ⟨_, rfl⟩
  obtain ⟨b1, h1⟩ : ∃ b, b = r.is := ⟨_, rfl⟩
  obtain ⟨b2, h2⟩ : ∃ b, b = voteB v vc := ⟨_, rfl⟩
  obtain ⟨b3, h3⟩ : ∃ b, b = sameM m c n d := ⟨_, rfl⟩
  obtain ⟨tx, h4⟩ : ∃ b, b = lit r.text := ⟨_, rfl⟩
  have P10 := Lib.hid (fun (u : World) (h : Below w6.heap.size w6 u) => is_all u m c (HAT.out.1.below (q4.out u h)) HO.out.1.mc (Tab.on HT.out (q4.out u h)))
  have P11 := Lib.hid (fun (u : World) (h : Below w6.heap.size w6 u) => isD u m c (HAT.out.1.below (q4.out u h)) HO.out.1)
  have P12 := Lib.hid (fun (u : World) => isReq_any r u)
  have P13 := Lib.hid (fun (u : World) => refIsReq_any r u)
  have P14 := Lib.hid (fun (u : World) (h : Below w6.heap.size w6 u) => isVote_any u v vc (HAT.out.2.2.below (q4.out u h)) ⟨fun x hx => (HO.out.2.2.2.2.2.1 x hx).2.2, fun x hx => (HO.out.2.2.2.2.2.2 x hx).2.2⟩ (Tab.on HT.out (q4.out u h)))
  have P15 := Lib.hid (fun (u : World) (h : Below w6.heap.size w6 u) => refIsVote_any u v vc (HAT.out.2.2.below (q4.out u h)) (VcOkR HO.out.2.2.2.2))
  have P16 := Lib.hid (fun (u : World) (h : Below w6.heap.size w6 u) => same_any u m n c d (HAT.out.1.below (q4.out u h)) (HAT.out.2.1.below (q4.out u h)))
  have P17 := Lib.hid (fun (u : World) (h : Below w6.heap.size w6 u) => refSame_any u m n c d (HAT.out.1.below (q4.out u h)) (HAT.out.2.1.below (q4.out u h)))
  have P18 := Lib.hid (fun (u : World) (h : Below w6.heap.size w6 u) => (show Calls Tryz.prog 18 #[.agg r.cells.toArray] u fun e w' => e = .returned (.string (lit r.text)) ∧ Below u.heap.size u w' from text_any r HO.out.2.2.1 u (Tab.on HT.out (q4.out u h))))
  have P19 := Lib.hid (fun (u : World) => refText_any r HO.out.2.2.1 u)
  rw [← h0, ← HA.out.1] at P10 P11
  rw [← h1, ← HA.out.2.2.1] at P12 P13
  rw [← h2, ← HA.out.2.2.2] at P14 P15
  rw [← h3, ← HA.out.1, ← HA.out.2.1] at P16 P17
  rw [← h4, ← HA.out.2.2.1] at P18 P19
  have SA := Lib.hid (fun (u : World) (h : Below w6.heap.size w6 u) => str_bytes (c := z5) (bytes_below D5.out.1 (Below.up HN6.out h) (Nat.le_refl _)) D5.out.2)
  have SB := Lib.hid (fun (u : World) (h : Below w6.heap.size w6 u) => str_bytes (c := z6) (bytes_below D6.out.1 h (Nat.le_refl _)) D6.out.2)
  obtain ⟨st, hst⟩ : ∃ b, b = strOfNums E := ⟨_, rfl⟩
  rw [← hst] at SA SB
  clear h0 h1 h2 h3 h4 hst
  go_upto_region 7 with fail
  refine wp_region_held_drew (S := fun wx => Below w6.heap.size w6 wx) (by kernel_rfl) (((Below.refl _ _).drew)) (fun hS => ?_)
  refine tk 0 (.agg A) rfl (yi_load 37 (.tmp 4) (.pointer (some ⟨w.heap.size, 0, none⟩)) rfl rfl rfl (fun wq hw => L4.out wq (Below.up HB6.out hw))) hS ?_
  refine tk 2 (.agg A) rfl (yi_load 37 (.tmp 4) (.pointer (some ⟨w.heap.size, 0, none⟩)) rfl rfl rfl (fun wq hw => L4.out wq (Below.up HB6.out hw))) hS ?_
  refine rdy1 1 rfl (fun K hK => ?_)
  rw [if_pos (by rfl)]
  go_simp
  refine Calls.mono (P10.out _ hS) ?_
  rintro e u1 ⟨rfl, hb⟩
  refine hK.out _ _ (Below.up hS hb) (fun hS => ?_)
  clear hK K
  refine rdy1 3 rfl (fun K hK => ?_)
  rw [if_pos (by rfl)]
  go_simp
  refine Calls.mono (P11.out _ hS) ?_
  rintro e u2 ⟨rfl, hb⟩
  refine hK.out _ _ (Below.up hS hb) (fun hS => ?_)
  clear hK K
  refine tk 4 (.bool true) rfl (.inl ⟨rfl, fun _ _ => by cases b0 <;> go_simp⟩) hS ?_
  refine tm 5 (.bool true) rfl hS ?_
  refine tk 6 (.agg C) rfl (yi_load 27 (.tmp 6) (.pointer (some ⟨w.heap.size + 1 + 1, 0, none⟩)) rfl rfl rfl (fun wq hw => L6.out wq (Below.up HB6.out hw))) hS ?_
  refine tk 8 (.agg C) rfl (yi_load 27 (.tmp 6) (.pointer (some ⟨w.heap.size + 1 + 1, 0, none⟩)) rfl rfl rfl (fun wq hw => L6.out wq (Below.up HB6.out hw))) hS ?_
  refine rdy1 7 rfl (fun K hK => ?_)
  rw [if_pos (by rfl)]
  go_simp
  refine Calls.mono (P12.out _) ?_
  rintro e u3 ⟨rfl, hb⟩
  refine hK.out _ _ (Below.up hS hb) (fun hS => ?_)
  clear hK K
  refine rdy1 9 rfl (fun K hK => ?_)
  rw [if_pos (by rfl)]
  go_simp
  refine Calls.mono (P13.out _) ?_
  rintro e u4 ⟨rfl, hb⟩
  refine hK.out _ _ (Below.up hS hb) (fun hS => ?_)
  clear hK K
  refine tk 10 (.bool true) rfl (.inl ⟨rfl, fun _ _ => by cases b1 <;> go_simp⟩) hS ?_
  refine tm 11 (.bool true) rfl hS ?_
  refine tm 12 (.bool true) rfl hS ?_
  refine tk 13 (.agg D) rfl (yi_load 32 (.tmp 7) (.pointer (some ⟨w.heap.size + 1 + 1 + 1, 0, none⟩)) rfl rfl rfl (fun wq hw => L7.out wq (Below.up HB6.out hw))) hS ?_
  refine tk 15 (.agg D) rfl (yi_load 32 (.tmp 7) (.pointer (some ⟨w.heap.size + 1 + 1 + 1, 0, none⟩)) rfl rfl rfl (fun wq hw => L7.out wq (Below.up HB6.out hw))) hS ?_
  refine rdy1 14 rfl (fun K hK => ?_)
  rw [if_pos (by rfl)]
  go_simp
  refine Calls.mono (P14.out _ hS) ?_
  rintro e u5 ⟨rfl, hb⟩
  refine hK.out _ _ (Below.up hS hb) (fun hS => ?_)
  clear hK K
  refine rdy1 16 rfl (fun K hK => ?_)
  rw [if_pos (by rfl)]
  go_simp
  refine Calls.mono (P15.out _ hS) ?_
  rintro e u6 ⟨rfl, hb⟩
  refine hK.out _ _ (Below.up hS hb) (fun hS => ?_)
  clear hK K
  refine tk 17 (.bool true) rfl (.inl ⟨rfl, fun _ _ => by cases b2 <;> go_simp⟩) hS ?_
  refine tm 18 (.bool true) rfl hS ?_
  refine tm 19 (.bool true) rfl hS ?_
  refine tm 20 (.slice a5 E.length z5) rfl hS ?_
  refine tk 21 (.string st) rfl (.inl ⟨rfl, fun wq hw => by have q := SA.out wq hw; go_simp⟩) hS ?_
  refine tm 22 (.slice a6 E.length z6) rfl hS ?_
  refine tk 23 (.string st) rfl (.inl ⟨rfl, fun wq hw => by have q := SB.out wq hw; go_simp⟩) hS ?_
  refine tg 24 (.bool true) rfl hS ?_
  refine tm 25 (.bool true) rfl hS ?_
  refine tm 26 (.bool true) rfl hS ?_
  refine tm 27 (.int .i64 z) rfl hS ?_
  refine tm 28 (.int .i64 z) rfl hS ?_
  refine tg 29 (.bool true) rfl hS ?_
  refine tm 30 (.bool true) rfl hS ?_
  refine tm 31 (.bool true) rfl hS ?_
  refine tk 32 (.agg A) rfl (yi_load 37 (.tmp 4) (.pointer (some ⟨w.heap.size, 0, none⟩)) rfl rfl rfl (fun wq hw => L4.out wq (Below.up HB6.out hw))) hS ?_
  refine tk 33 (.agg B) rfl (yi_load 37 (.tmp 5) (.pointer (some ⟨w.heap.size + 1, 0, none⟩)) rfl rfl rfl (fun wq hw => L5.out wq (Below.up HB6.out hw))) hS ?_
  refine tk 35 (.agg A) rfl (yi_load 37 (.tmp 4) (.pointer (some ⟨w.heap.size, 0, none⟩)) rfl rfl rfl (fun wq hw => L4.out wq (Below.up HB6.out hw))) hS ?_
  refine tk 36 (.agg B) rfl (yi_load 37 (.tmp 5) (.pointer (some ⟨w.heap.size + 1, 0, none⟩)) rfl rfl rfl (fun wq hw => L5.out wq (Below.up HB6.out hw))) hS ?_
  refine rdy1 34 rfl (fun K hK => ?_)
  rw [if_pos (by rfl)]
  go_simp
  refine Calls.mono (P16.out _ hS) ?_
  rintro e u7 ⟨rfl, hb⟩
  refine hK.out _ _ (Below.up hS hb) (fun hS => ?_)
  clear hK K
  refine rdy1 37 rfl (fun K hK => ?_)
  rw [if_pos (by rfl)]
  go_simp
  refine Calls.mono (P17.out _ hS) ?_
  rintro e u8 ⟨rfl, hb⟩
  refine hK.out _ _ (Below.up hS hb) (fun hS => ?_)
  clear hK K
  refine tk 38 (.bool true) rfl (.inl ⟨rfl, fun _ _ => by cases b3 <;> go_simp⟩) hS ?_
  refine tm 39 (.bool true) rfl hS ?_
  refine tm 40 (.bool true) rfl hS ?_
  refine tk 41 (.agg C) rfl (yi_load 27 (.tmp 6) (.pointer (some ⟨w.heap.size + 1 + 1, 0, none⟩)) rfl rfl rfl (fun wq hw => L6.out wq (Below.up HB6.out hw))) hS ?_
  refine tk 43 (.agg C) rfl (yi_load 27 (.tmp 6) (.pointer (some ⟨w.heap.size + 1 + 1, 0, none⟩)) rfl rfl rfl (fun wq hw => L6.out wq (Below.up HB6.out hw))) hS ?_
  refine rdy1 42 rfl (fun K hK => ?_)
  rw [if_pos (by rfl)]
  go_simp
  refine Calls.mono (P18.out _ hS) ?_
  rintro e u9 ⟨rfl, hb⟩
  refine hK.out _ _ (Below.up hS hb) (fun hS => ?_)
  clear hK K
  refine rdy1 44 rfl (fun K hK => ?_)
  rw [if_pos (by rfl)]
  go_simp
  refine Calls.mono (P19.out _) ?_
  rintro e u10 ⟨rfl, hb⟩
  refine hK.out _ _ (Below.up hS hb) (fun hS => ?_)
  clear hK K
  refine tg 45 (.bool true) rfl hS ?_
  refine tm 46 (.bool true) rfl hS ?_
  refine tm 47 (.bool true) rfl hS ?_
  refine wpAnyH_done (by kernel_rfl) ?_ _
  have HF := Lib.hid (Below.up HB6.out hS)
  go_wp2_with fail
  go_ret
  exact ⟨rfl, Below.up HB.out HF.out⟩
end Go.Proofs.YtbpfkeeikhhlnaaGreatDoor
