/- What comes in: a mark, an entry, a vote, a message. MsgTells: both bytes of a message, the program's and the document's. -/
import Derived.Test.YtbpfkeeikhhlnaaGreatDoorC22
import Derived.Test.YtbpfkeeikhhlnaaGreatDoorT02
import Derived.Test.YtbpfkeeikhhlnaaGreatDoorC21
import Derived.Test.YtbpfkeeikhhlnaaGreatDoorC19
import Derived.Test.YtbpfkeeikhhlnaaGreatDoorC08
import Derived.Test.YtbpfkeeikhhlnaaGreatDoorC07
import Derived.Test.YtbpfkeeikhhlnaaGreatDoorC01
import Derived.Test.YtbpfkeeikhhlnaaGreatDoorT01
import Derived.Deep.QuietTactic
import Derived.BigQuiet
import Derived.Deep.RegionWith
import Derived.Test.YtbpfkeeikhhlnaaGreatDoorC03
import Derived.Test.YtbpfkeeikhhlnaaGreatDoorRows
import Derived.WalkKit
import Derived.WalkSpells
import Derived.WalkLawsBesides
import Derived.OwnWalk
import Derived.Maps.AppendAt
import Derived.Laws.OwnMore
import Derived.Laws.BytesArg
import Derived.OneCell
import Derived.Below
import Derived.Lib.Hide
import Derived.Deep.RegionHeld3
import Derived.Test.YtbpfkeeikhhlnaaGreatDoorC06
import Derived.Test.YtbpfkeeikhhlnaaGreatDoorC02
import Derived.Shelf.LaysM
import Derived.Shelf.Strconv.AppendUint10
import Derived.Laws.StructEq
import Derived.Shelf.SlicesQ.Equal
import Derived.Shelf.SlicesQ.Load
import Derived.Lib.SlBy2
import Derived.Deep.Cut
import Derived.Laws.Cover1
import Derived.Test.YtbpfkeeikhhlnaaGreatDoorC17
import Derived.Test.YtbpfkeeikhhlnaaGreatDoorC04
import Derived.Deep.MidRow
import Derived.Deep.CutRange
import Derived.Test.YtbpfkeeikhhlnaaGreatDoorC11
import Derived.Test.YtbpfkeeikhhlnaaGreatDoorC10
import Derived.Test.YtbpfkeeikhhlnaaGreatDoorC09
import Derived.Test.YtbpfkeeikhhlnaaGreatDoorC13
import Derived.Test.YtbpfkeeikhhlnaaGreatDoorC12
import Derived.Test.YtbpfkeeikhhlnaaGreatDoorC16
import Derived.Test.YtbpfkeeikhhlnaaGreatDoorC14
import Derived.Lib.Bytes
import Derived.Test.YtbpfkeeikhhlnaaGreatDoorC15
import Derived.Test.YtbpfkeeikhhlnaaGreatDoorC18
import Derived.Test.YtbpfkeeikhhlnaaGreatDoorC20
namespace Go.Proofs.YtbpfkeeikhhlnaaGreatDoor
open Go.ChangeShapes Go.WideShapes Go.ChangeAt Go.RowKit

theorem open_u64 {H : Type} {enc : TypeId × Value → H} {W : World} {n : Nat} {cs : List Value} {y : DataW H × List MemPlace} (hl : cs.length = 1) (h : DataW.trod enc Tryz.prog W 0 (fun _ => true) true n 28 cs = some y) : ∃ x : Int, cs = [Value.int .u64 x] ∧ 0 ≤ x ∧ x ≤ 18446744073709551615 := by
  match cs, hl with
  | [x0], _ =>
    obtain ⟨a, q, _, b⟩ := DataW.trod_int Tryz.underlying28 h
    exact ⟨a, q, by simpa [Lit.wf, IntKind.min, IntKind.max, IntKind.signed, IntKind.bits] using b⟩
set_option maxRecDepth 100000 in
theorem open_mk {H : Type} {enc : TypeId × Value → H} {W : World} {n : Nat} {cs : List Value} {y : DataW H × List MemPlace} (hl : cs.length = 2) (h : DataW.trod enc Tryz.prog W 0 (fun _ => true) true n 77 cs = some y) : ∃ x : Mk, cs = x.cells ∧ x.ok := by
  have hc : Tryz.prog.cellsOf 77 = 2 := by kernel_rfl
  match cs, hl with
  | [x0, x1], _ =>
    obtain ⟨n0, y0, v0, e0, t0⟩ := trod_leaf 4 (show leafAt Tryz.prog 4 77 0 = some 22 by kernel_rfl) h (by simp) (by rw [hc]; simp)
    obtain rfl : x0 = v0 := Option.some.inj e0
    obtain ⟨a0, q0, _, b0⟩ := DataW.trod_int Tryz.underlying22 t0
    injection q0 with q0
    subst q0
    have r0 : 0 ≤ a0 ∧ a0 ≤ 4294967295 := by simpa [Lit.wf, IntKind.min, IntKind.max, IntKind.signed, IntKind.bits] using b0
    obtain ⟨n1, y1, v1, e1, t1⟩ := trod_leaf 4 (show leafAt Tryz.prog 4 77 1 = some 28 by kernel_rfl) h (by simp) (by rw [hc]; simp)
    obtain rfl : x1 = v1 := Option.some.inj e1
    obtain ⟨a1, q1, _, b1⟩ := DataW.trod_int Tryz.underlying28 t1
    injection q1 with q1
    subst q1
    have r1 : 0 ≤ a1 ∧ a1 ≤ 18446744073709551615 := by simpa [Lit.wf, IntKind.min, IntKind.max, IntKind.signed, IntKind.bits] using b1
    exact ⟨⟨a0, a1⟩, rfl, r0, r1⟩
set_option maxRecDepth 100000 in
theorem open_en {H : Type} {enc : TypeId × Value → H} {W : World} {n : Nat} {cs : List Value} {y : DataW H × List MemPlace} (hl : cs.length = 7) (h : DataW.trod enc Tryz.prog W 0 (fun _ => true) true n 80 cs = some y) : ∃ x : En, cs = x.cells ∧ x.ok := by
  have hc : Tryz.prog.cellsOf 80 = 7 := by kernel_rfl
  match cs, hl with
  | [x0, x1, x2, x3, x4, x5, x6], _ =>
    obtain ⟨n0, y0, v0, e0, t0⟩ := trod_leaf 4 (show leafAt Tryz.prog 4 80 0 = some 22 by kernel_rfl) h (by simp) (by rw [hc]; simp)
    obtain rfl : x0 = v0 := Option.some.inj e0
    obtain ⟨a0, q0, _, b0⟩ := DataW.trod_int Tryz.underlying22 t0
    injection q0 with q0
    subst q0
    have r0 : 0 ≤ a0 ∧ a0 ≤ 4294967295 := by simpa [Lit.wf, IntKind.min, IntKind.max, IntKind.signed, IntKind.bits] using b0
    obtain ⟨n1, y1, v1, e1, t1⟩ := trod_leaf 4 (show leafAt Tryz.prog 4 80 1 = some 22 by kernel_rfl) h (by simp) (by rw [hc]; simp)
    obtain rfl : x1 = v1 := Option.some.inj e1
    obtain ⟨a1, q1, _, b1⟩ := DataW.trod_int Tryz.underlying22 t1
    injection q1 with q1
    subst q1
    have r1 : 0 ≤ a1 ∧ a1 ≤ 4294967295 := by simpa [Lit.wf, IntKind.min, IntKind.max, IntKind.signed, IntKind.bits] using b1
    obtain ⟨n2, y2, v2, e2, t2⟩ := trod_leaf 4 (show leafAt Tryz.prog 4 80 2 = some 5 by kernel_rfl) h (by simp) (by rw [hc]; simp)
    obtain rfl : x2 = v2 := Option.some.inj e2
    obtain ⟨a2, q2, _, b2⟩ := DataW.trod_int Tryz.underlying5 t2
    injection q2 with q2
    subst q2
    have r2 : 0 ≤ a2 ∧ a2 ≤ 255 := by simpa [Lit.wf, IntKind.min, IntKind.max, IntKind.signed, IntKind.bits] using b2
    obtain ⟨n3, y3, v3, e3, t3⟩ := trod_leaf 4 (show leafAt Tryz.prog 4 80 3 = some 22 by kernel_rfl) h (by simp) (by rw [hc]; simp)
    obtain rfl : x3 = v3 := Option.some.inj e3
    obtain ⟨a3, q3, _, b3⟩ := DataW.trod_int Tryz.underlying22 t3
    injection q3 with q3
    subst q3
    have r3 : 0 ≤ a3 ∧ a3 ≤ 4294967295 := by simpa [Lit.wf, IntKind.min, IntKind.max, IntKind.signed, IntKind.bits] using b3
    obtain ⟨n4, y4, v4, e4, t4⟩ := trod_leaf 4 (show leafAt Tryz.prog 4 80 4 = some 5 by kernel_rfl) h (by simp) (by rw [hc]; simp)
    obtain rfl : x4 = v4 := Option.some.inj e4
    obtain ⟨a4, q4, _, b4⟩ := DataW.trod_int Tryz.underlying5 t4
    injection q4 with q4
    subst q4
    have r4 : 0 ≤ a4 ∧ a4 ≤ 255 := by simpa [Lit.wf, IntKind.min, IntKind.max, IntKind.signed, IntKind.bits] using b4
    obtain ⟨n5, y5, v5, e5, t5⟩ := trod_leaf 4 (show leafAt Tryz.prog 4 80 5 = some 5 by kernel_rfl) h (by simp) (by rw [hc]; simp)
    obtain rfl : x5 = v5 := Option.some.inj e5
    obtain ⟨a5, q5, _, b5⟩ := DataW.trod_int Tryz.underlying5 t5
    injection q5 with q5
    subst q5
    have r5 : 0 ≤ a5 ∧ a5 ≤ 255 := by simpa [Lit.wf, IntKind.min, IntKind.max, IntKind.signed, IntKind.bits] using b5
    obtain ⟨n6, y6, v6, e6, t6⟩ := trod_leaf 4 (show leafAt Tryz.prog 4 80 6 = some 23 by kernel_rfl) h (by simp) (by rw [hc]; simp)
    obtain rfl : x6 = v6 := Option.some.inj e6
    obtain ⟨a6, q6, _, b6⟩ := DataW.trod_int Tryz.underlying23 t6
    injection q6 with q6
    subst q6
    have r6 : 0 ≤ a6 ∧ a6 ≤ 65535 := by simpa [Lit.wf, IntKind.min, IntKind.max, IntKind.signed, IntKind.bits] using b6
    exact ⟨⟨a0, a1, ⟨a2, a3, a4, a5, a6⟩⟩, rfl, r0, r1, r2, r3, r4, r5, r6⟩
set_option maxRecDepth 100000 in
theorem open_vt {H : Type} {enc : TypeId × Value → H} {W : World} {n : Nat} {cs : List Value} {y : DataW H × List MemPlace} (hl : cs.length = 7) (h : DataW.trod enc Tryz.prog W 0 (fun _ => true) true n 32 cs = some y) : ∃ (v : Vt) (c : Vc), cs = v.cells ∧ VtU W v c ∧ v.ok ∧ c.ok := by
  have hc : Tryz.prog.cellsOf 32 = 7 := by kernel_rfl
  match cs, hl with
  | [x0, x1, x2, x3, x4, x5, x6], _ =>
    obtain ⟨n0, y0, v0, e0, t0⟩ := trod_leaf 4 (show leafAt Tryz.prog 4 32 0 = some 5 by kernel_rfl) h (by simp) (by rw [hc]; simp)
    obtain rfl : x0 = v0 := Option.some.inj e0
    obtain ⟨a0, q0, _, b0⟩ := DataW.trod_int Tryz.underlying5 t0
    injection q0 with q0
    subst q0
    have r0 : 0 ≤ a0 ∧ a0 ≤ 255 := by simpa [Lit.wf, IntKind.min, IntKind.max, IntKind.signed, IntKind.bits] using b0
    obtain ⟨n1, y1, v1, e1, t1⟩ := trod_leaf 4 (show leafAt Tryz.prog 4 32 1 = some 5 by kernel_rfl) h (by simp) (by rw [hc]; simp)
    obtain rfl : x1 = v1 := Option.some.inj e1
    obtain ⟨a1, q1, _, b1⟩ := DataW.trod_int Tryz.underlying5 t1
    injection q1 with q1
    subst q1
    have r1 : 0 ≤ a1 ∧ a1 ≤ 255 := by simpa [Lit.wf, IntKind.min, IntKind.max, IntKind.signed, IntKind.bits] using b1
    obtain ⟨n2, y2, v2, e2, t2⟩ := trod_leaf 4 (show leafAt Tryz.prog 4 32 2 = some 22 by kernel_rfl) h (by simp) (by rw [hc]; simp)
    obtain rfl : x2 = v2 := Option.some.inj e2
    obtain ⟨a2, q2, _, b2⟩ := DataW.trod_int Tryz.underlying22 t2
    injection q2 with q2
    subst q2
    have r2 : 0 ≤ a2 ∧ a2 ≤ 4294967295 := by simpa [Lit.wf, IntKind.min, IntKind.max, IntKind.signed, IntKind.bits] using b2
    obtain ⟨n3, y3, v3, e3, t3⟩ := trod_leaf 4 (show leafAt Tryz.prog 4 32 3 = some 22 by kernel_rfl) h (by simp) (by rw [hc]; simp)
    obtain rfl : x3 = v3 := Option.some.inj e3
    obtain ⟨a3, q3, _, b3⟩ := DataW.trod_int Tryz.underlying22 t3
    injection q3 with q3
    subst q3
    have r3 : 0 ≤ a3 ∧ a3 ≤ 4294967295 := by simpa [Lit.wf, IntKind.min, IntKind.max, IntKind.signed, IntKind.bits] using b3
    obtain ⟨n4, y4, v4, e4, t4⟩ := trod_leaf 4 (show leafAt Tryz.prog 4 32 4 = some 29 by kernel_rfl) h (by simp) (by rw [hc]; simp)
    obtain rfl : x4 = v4 := Option.some.inj e4
    obtain ⟨l4, R4, o4⟩ := open_row Mk.cells 2 Mk.ok Tryz.underlying29 (by kernel_rfl) (by decide) (fun _ _ _ h1 h2 => open_mk h1 h2) t4
    obtain ⟨s4, c4, rfl, R4⟩ := R4.split
    obtain ⟨n5, y5, v5, e5, t5⟩ := trod_leaf 4 (show leafAt Tryz.prog 4 32 5 = some 30 by kernel_rfl) h (by simp) (by rw [hc]; simp)
    obtain rfl : x5 = v5 := Option.some.inj e5
    obtain ⟨l5, R5, o5⟩ := open_row En.cells 7 En.ok Tryz.underlying30 (by kernel_rfl) (by decide) (fun _ _ _ h1 h2 => open_en h1 h2) t5
    obtain ⟨s5, c5, rfl, R5⟩ := R5.split
    obtain ⟨n6, y6, v6, e6, t6⟩ := trod_leaf 4 (show leafAt Tryz.prog 4 32 6 = some 30 by kernel_rfl) h (by simp) (by rw [hc]; simp)
    obtain rfl : x6 = v6 := Option.some.inj e6
    obtain ⟨l6, R6, o6⟩ := open_row En.cells 7 En.ok Tryz.underlying30 (by kernel_rfl) (by decide) (fun _ _ _ h1 h2 => open_en h1 h2) t6
    obtain ⟨s6, c6, rfl, R6⟩ := R6.split
    exact ⟨⟨a0, a1, a2, a3, ⟨s4, l4.length, c4⟩, ⟨s5, l5.length, c5⟩, ⟨s6, l6.length, c6⟩⟩, ⟨l4, l5, l6⟩, rfl, ⟨R4, R5, R6⟩, ⟨r0, r1, r2, r3⟩, o4, o5, o6⟩
set_option maxRecDepth 100000 in
theorem open_mg {H : Type} {enc : TypeId × Value → H} {W : World} {n : Nat} {cs : List Value} {y : DataW H × List MemPlace} (hl : cs.length = 25) (h : DataW.trod enc Tryz.prog W 0 (fun _ => true) true n 37 cs = some y) : ∃ (m : Mg) (c : Mc), cs = m.cells ∧ MgU W m c ∧ MgOk m c := by
  have hc : Tryz.prog.cellsOf 37 = 25 := by kernel_rfl
  match cs, hl with
  | [x0, x1, x2, x3, x4, x5, x6, x7, x8, x9, x10, x11, x12, x13, x14, x15, x16, x17, x18, x19, x20, x21, x22, x23, x24], _ =>
    obtain ⟨n0, y0, v0, e0, t0⟩ := trod_leaf 4 (show leafAt Tryz.prog 4 37 0 = some 5 by kernel_rfl) h (by simp) (by rw [hc]; simp)
    obtain rfl : x0 = v0 := Option.some.inj e0
    obtain ⟨a0, q0, _, b0⟩ := DataW.trod_int Tryz.underlying5 t0
    injection q0 with q0
    subst q0
    have r0 : 0 ≤ a0 ∧ a0 ≤ 255 := by simpa [Lit.wf, IntKind.min, IntKind.max, IntKind.signed, IntKind.bits] using b0
    obtain ⟨n1, y1, v1, e1, t1⟩ := trod_leaf 4 (show leafAt Tryz.prog 4 37 1 = some 5 by kernel_rfl) h (by simp) (by rw [hc]; simp)
    obtain rfl : x1 = v1 := Option.some.inj e1
    obtain ⟨a1, q1, _, b1⟩ := DataW.trod_int Tryz.underlying5 t1
    injection q1 with q1
    subst q1
    have r1 : 0 ≤ a1 ∧ a1 ≤ 255 := by simpa [Lit.wf, IntKind.min, IntKind.max, IntKind.signed, IntKind.bits] using b1
    obtain ⟨n2, y2, v2, e2, t2⟩ := trod_leaf 4 (show leafAt Tryz.prog 4 37 2 = some 5 by kernel_rfl) h (by simp) (by rw [hc]; simp)
    obtain rfl : x2 = v2 := Option.some.inj e2
    obtain ⟨a2, q2, _, b2⟩ := DataW.trod_int Tryz.underlying5 t2
    injection q2 with q2
    subst q2
    have r2 : 0 ≤ a2 ∧ a2 ≤ 255 := by simpa [Lit.wf, IntKind.min, IntKind.max, IntKind.signed, IntKind.bits] using b2
    obtain ⟨n3, y3, v3, e3, t3⟩ := trod_leaf 4 (show leafAt Tryz.prog 4 37 3 = some 5 by kernel_rfl) h (by simp) (by rw [hc]; simp)
    obtain rfl : x3 = v3 := Option.some.inj e3
    obtain ⟨a3, q3, _, b3⟩ := DataW.trod_int Tryz.underlying5 t3
    injection q3 with q3
    subst q3
    have r3 : 0 ≤ a3 ∧ a3 ≤ 255 := by simpa [Lit.wf, IntKind.min, IntKind.max, IntKind.signed, IntKind.bits] using b3
    obtain ⟨n4, y4, v4, e4, t4⟩ := trod_leaf 4 (show leafAt Tryz.prog 4 37 4 = some 22 by kernel_rfl) h (by simp) (by rw [hc]; simp)
    obtain rfl : x4 = v4 := Option.some.inj e4
    obtain ⟨a4, q4, _, b4⟩ := DataW.trod_int Tryz.underlying22 t4
    injection q4 with q4
    subst q4
    have r4 : 0 ≤ a4 ∧ a4 ≤ 4294967295 := by simpa [Lit.wf, IntKind.min, IntKind.max, IntKind.signed, IntKind.bits] using b4
    obtain ⟨n5, y5, v5, e5, t5⟩ := trod_leaf 4 (show leafAt Tryz.prog 4 37 5 = some 22 by kernel_rfl) h (by simp) (by rw [hc]; simp)
    obtain rfl : x5 = v5 := Option.some.inj e5
    obtain ⟨a5, q5, _, b5⟩ := DataW.trod_int Tryz.underlying22 t5
    injection q5 with q5
    subst q5
    have r5 : 0 ≤ a5 ∧ a5 ≤ 4294967295 := by simpa [Lit.wf, IntKind.min, IntKind.max, IntKind.signed, IntKind.bits] using b5
    obtain ⟨n6, y6, v6, e6, t6⟩ := trod_leaf 4 (show leafAt Tryz.prog 4 37 6 = some 5 by kernel_rfl) h (by simp) (by rw [hc]; simp)
    obtain rfl : x6 = v6 := Option.some.inj e6
    obtain ⟨a6, q6, _, b6⟩ := DataW.trod_int Tryz.underlying5 t6
    injection q6 with q6
    subst q6
    have r6 : 0 ≤ a6 ∧ a6 ≤ 255 := by simpa [Lit.wf, IntKind.min, IntKind.max, IntKind.signed, IntKind.bits] using b6
    obtain ⟨n7, y7, v7, e7, t7⟩ := trod_leaf 4 (show leafAt Tryz.prog 4 37 7 = some 22 by kernel_rfl) h (by simp) (by rw [hc]; simp)
    obtain rfl : x7 = v7 := Option.some.inj e7
    obtain ⟨a7, q7, _, b7⟩ := DataW.trod_int Tryz.underlying22 t7
    injection q7 with q7
    subst q7
    have r7 : 0 ≤ a7 ∧ a7 ≤ 4294967295 := by simpa [Lit.wf, IntKind.min, IntKind.max, IntKind.signed, IntKind.bits] using b7
    obtain ⟨n8, y8, v8, e8, t8⟩ := trod_leaf 4 (show leafAt Tryz.prog 4 37 8 = some 5 by kernel_rfl) h (by simp) (by rw [hc]; simp)
    obtain rfl : x8 = v8 := Option.some.inj e8
    obtain ⟨a8, q8, _, b8⟩ := DataW.trod_int Tryz.underlying5 t8
    injection q8 with q8
    subst q8
    have r8 : 0 ≤ a8 ∧ a8 ≤ 255 := by simpa [Lit.wf, IntKind.min, IntKind.max, IntKind.signed, IntKind.bits] using b8
    obtain ⟨n9, y9, v9, e9, t9⟩ := trod_leaf 4 (show leafAt Tryz.prog 4 37 9 = some 5 by kernel_rfl) h (by simp) (by rw [hc]; simp)
    obtain rfl : x9 = v9 := Option.some.inj e9
    obtain ⟨a9, q9, _, b9⟩ := DataW.trod_int Tryz.underlying5 t9
    injection q9 with q9
    subst q9
    have r9 : 0 ≤ a9 ∧ a9 ≤ 255 := by simpa [Lit.wf, IntKind.min, IntKind.max, IntKind.signed, IntKind.bits] using b9
    obtain ⟨n10, y10, v10, e10, t10⟩ := trod_leaf 4 (show leafAt Tryz.prog 4 37 10 = some 23 by kernel_rfl) h (by simp) (by rw [hc]; simp)
    obtain rfl : x10 = v10 := Option.some.inj e10
    obtain ⟨a10, q10, _, b10⟩ := DataW.trod_int Tryz.underlying23 t10
    injection q10 with q10
    subst q10
    have r10 : 0 ≤ a10 ∧ a10 ≤ 65535 := by simpa [Lit.wf, IntKind.min, IntKind.max, IntKind.signed, IntKind.bits] using b10
    obtain ⟨n11, y11, v11, e11, t11⟩ := trod_leaf 4 (show leafAt Tryz.prog 4 37 11 = some 28 by kernel_rfl) h (by simp) (by rw [hc]; simp)
    obtain rfl : x11 = v11 := Option.some.inj e11
    obtain ⟨a11, q11, _, b11⟩ := DataW.trod_int Tryz.underlying28 t11
    injection q11 with q11
    subst q11
    have r11 : 0 ≤ a11 ∧ a11 ≤ 18446744073709551615 := by simpa [Lit.wf, IntKind.min, IntKind.max, IntKind.signed, IntKind.bits] using b11
    obtain ⟨n12, y12, v12, e12, t12⟩ := trod_leaf 4 (show leafAt Tryz.prog 4 37 12 = some 5 by kernel_rfl) h (by simp) (by rw [hc]; simp)
    obtain rfl : x12 = v12 := Option.some.inj e12
    obtain ⟨a12, q12, _, b12⟩ := DataW.trod_int Tryz.underlying5 t12
    injection q12 with q12
    subst q12
    have r12 : 0 ≤ a12 ∧ a12 ≤ 255 := by simpa [Lit.wf, IntKind.min, IntKind.max, IntKind.signed, IntKind.bits] using b12
    obtain ⟨n13, y13, v13, e13, t13⟩ := trod_leaf 4 (show leafAt Tryz.prog 4 37 13 = some 5 by kernel_rfl) h (by simp) (by rw [hc]; simp)
    obtain rfl : x13 = v13 := Option.some.inj e13
    obtain ⟨a13, q13, _, b13⟩ := DataW.trod_int Tryz.underlying5 t13
    injection q13 with q13
    subst q13
    have r13 : 0 ≤ a13 ∧ a13 ≤ 255 := by simpa [Lit.wf, IntKind.min, IntKind.max, IntKind.signed, IntKind.bits] using b13
    obtain ⟨n14, y14, v14, e14, t14⟩ := trod_leaf 4 (show leafAt Tryz.prog 4 37 14 = some 22 by kernel_rfl) h (by simp) (by rw [hc]; simp)
    obtain rfl : x14 = v14 := Option.some.inj e14
    obtain ⟨a14, q14, _, b14⟩ := DataW.trod_int Tryz.underlying22 t14
    injection q14 with q14
    subst q14
    have r14 : 0 ≤ a14 ∧ a14 ≤ 4294967295 := by simpa [Lit.wf, IntKind.min, IntKind.max, IntKind.signed, IntKind.bits] using b14
    obtain ⟨n15, y15, v15, e15, t15⟩ := trod_leaf 4 (show leafAt Tryz.prog 4 37 15 = some 5 by kernel_rfl) h (by simp) (by rw [hc]; simp)
    obtain rfl : x15 = v15 := Option.some.inj e15
    obtain ⟨a15, q15, _, b15⟩ := DataW.trod_int Tryz.underlying5 t15
    injection q15 with q15
    subst q15
    have r15 : 0 ≤ a15 ∧ a15 ≤ 255 := by simpa [Lit.wf, IntKind.min, IntKind.max, IntKind.signed, IntKind.bits] using b15
    obtain ⟨n16, y16, v16, e16, t16⟩ := trod_leaf 4 (show leafAt Tryz.prog 4 37 16 = some 5 by kernel_rfl) h (by simp) (by rw [hc]; simp)
    obtain rfl : x16 = v16 := Option.some.inj e16
    obtain ⟨a16, q16, _, b16⟩ := DataW.trod_int Tryz.underlying5 t16
    injection q16 with q16
    subst q16
    have r16 : 0 ≤ a16 ∧ a16 ≤ 255 := by simpa [Lit.wf, IntKind.min, IntKind.max, IntKind.signed, IntKind.bits] using b16
    obtain ⟨n17, y17, v17, e17, t17⟩ := trod_leaf 4 (show leafAt Tryz.prog 4 37 17 = some 22 by kernel_rfl) h (by simp) (by rw [hc]; simp)
    obtain rfl : x17 = v17 := Option.some.inj e17
    obtain ⟨a17, q17, _, b17⟩ := DataW.trod_int Tryz.underlying22 t17
    injection q17 with q17
    subst q17
    have r17 : 0 ≤ a17 ∧ a17 ≤ 4294967295 := by simpa [Lit.wf, IntKind.min, IntKind.max, IntKind.signed, IntKind.bits] using b17
    obtain ⟨n18, y18, v18, e18, t18⟩ := trod_leaf 4 (show leafAt Tryz.prog 4 37 18 = some 22 by kernel_rfl) h (by simp) (by rw [hc]; simp)
    obtain rfl : x18 = v18 := Option.some.inj e18
    obtain ⟨a18, q18, _, b18⟩ := DataW.trod_int Tryz.underlying22 t18
    injection q18 with q18
    subst q18
    have r18 : 0 ≤ a18 ∧ a18 ≤ 4294967295 := by simpa [Lit.wf, IntKind.min, IntKind.max, IntKind.signed, IntKind.bits] using b18
    obtain ⟨n19, y19, v19, e19, t19⟩ := trod_leaf 4 (show leafAt Tryz.prog 4 37 19 = some 29 by kernel_rfl) h (by simp) (by rw [hc]; simp)
    obtain rfl : x19 = v19 := Option.some.inj e19
    obtain ⟨l19, R19, o19⟩ := open_row Mk.cells 2 Mk.ok Tryz.underlying29 (by kernel_rfl) (by decide) (fun _ _ _ h1 h2 => open_mk h1 h2) t19
    obtain ⟨s19, c19, rfl, R19⟩ := R19.split
    obtain ⟨n20, y20, v20, e20, t20⟩ := trod_leaf 4 (show leafAt Tryz.prog 4 37 20 = some 30 by kernel_rfl) h (by simp) (by rw [hc]; simp)
    obtain rfl : x20 = v20 := Option.some.inj e20
    obtain ⟨l20, R20, o20⟩ := open_row En.cells 7 En.ok Tryz.underlying30 (by kernel_rfl) (by decide) (fun _ _ _ h1 h2 => open_en h1 h2) t20
    obtain ⟨s20, c20, rfl, R20⟩ := R20.split
    obtain ⟨n21, y21, v21, e21, t21⟩ := trod_leaf 4 (show leafAt Tryz.prog 4 37 21 = some 30 by kernel_rfl) h (by simp) (by rw [hc]; simp)
    obtain rfl : x21 = v21 := Option.some.inj e21
    obtain ⟨l21, R21, o21⟩ := open_row En.cells 7 En.ok Tryz.underlying30 (by kernel_rfl) (by decide) (fun _ _ _ h1 h2 => open_en h1 h2) t21
    obtain ⟨s21, c21, rfl, R21⟩ := R21.split
    obtain ⟨n22, y22, v22, e22, t22⟩ := trod_leaf 4 (show leafAt Tryz.prog 4 37 22 = some 33 by kernel_rfl) h (by simp) (by rw [hc]; simp)
    obtain rfl : x22 = v22 := Option.some.inj e22
    obtain ⟨l22, R22, o22⟩ := open_row vcell 7 (fun x => VtU W x.1 x.2 ∧ x.1.ok ∧ x.2.ok) Tryz.underlying33 (by kernel_rfl) (by decide) (fun _ _ _ h1 h2 => by obtain ⟨v, c, e, h⟩ := open_vt h1 h2; exact ⟨(v, c), e, h⟩) t22
    obtain ⟨s22, c22, rfl, R22⟩ := R22.split
    obtain ⟨n23, y23, v23, e23, t23⟩ := trod_leaf 4 (show leafAt Tryz.prog 4 37 23 = some 34 by kernel_rfl) h (by simp) (by rw [hc]; simp)
    obtain rfl : x23 = v23 := Option.some.inj e23
    obtain ⟨l23, R23, o23⟩ := open_row (fun x => [Value.int .u64 x]) 1 (fun x => 0 ≤ x ∧ x ≤ 18446744073709551615) Tryz.underlying34 (by kernel_rfl) (by decide) (fun _ _ _ h1 h2 => open_u64 h1 h2) t23
    obtain ⟨s23, c23, rfl, R23⟩ := R23.split
    obtain ⟨n24, y24, v24, e24, t24⟩ := trod_leaf 4 (show leafAt Tryz.prog 4 37 24 = some 35 by kernel_rfl) h (by simp) (by rw [hc]; simp)
    obtain rfl : x24 = v24 := Option.some.inj e24
    obtain ⟨s24, l24, c24, rfl, R24, o24, p24, z24⟩ := open_bytes t24
    exact ⟨⟨⟨a0, a1, a2, a3, a4, a5, ⟨a6, a7, a8, a9, a10⟩, a11, a12, a13, a14⟩, ⟨a15, a16, a17, a18, ⟨s19, l19.length, c19⟩, ⟨s20, l20.length, c20⟩, ⟨s21, l21.length, c21⟩⟩, ⟨s22, l22.length, c22⟩, ⟨s23, l23.length, c23⟩, ⟨s24, l24.length, c24⟩⟩,
      ⟨⟨l19, l20, l21⟩, l22, l23, l24⟩, rfl, ⟨⟨R19, R20, R21⟩, R22, fun x hx => (o22 x hx).1, R23, rfl, R24, o24, p24, z24⟩,
      { k := r0, f := r1, t := r2, e := r3, ct := r12, pg := r13, vw := r4, sq := r5, rq := ⟨r6, r7, r8, r9, r10⟩, ro := r11, rs := r14, vt := ⟨⟨r15, r16, r17, r18⟩, o19, o20, o21⟩, vs := fun x hx => (o22 x hx).2, sm := o23 }⟩
set_option maxRecDepth 100000 in
theorem open_msg {H : Type} {enc : TypeId × Value → H} {W : World} {b0 : Nat} {v : Value} {d : DataW H} {p : List MemPlace} (hv : Value.okWide Tryz.prog W .any b0 37 v) (h : DataW.Trod enc Tryz.prog W 0 (fun _ => true) true 37 v d p) : ∃ (m : Mg) (c : Mc), v = .agg m.cells.toArray ∧ MgU W m c ∧ MgOk m c := by
  obtain ⟨cs, rfl, hsz⟩ := okWide_struct Tryz.underlying37 hv
  obtain ⟨fuel, hf⟩ := h
  obtain ⟨l⟩ := cs
  have c37 : Tryz.prog.cellsOf 37 = 25 := by kernel_rfl
  obtain ⟨m, c, e, h1, h2⟩ := open_mg (cs := l) (hsz.trans c37) (show DataW.trod enc Tryz.prog W 0 (fun _ => true) true fuel 37 l = some (d, p) from hf)
  exact ⟨m, c, by rw [e], h1, h2⟩
theorem MgOk.mc {m : Mg} {c : Mc} (h : MgOk m c) : McOk c :=
  ⟨⟨fun x hx => (h.vt.2.2.1 x hx).2.2, fun x hx => (h.vt.2.2.2 x hx).2.2⟩, fun x hx => ⟨fun y hy => ((h.vs x hx).2.2.1 y hy).2.2, fun y hy => ((h.vs x hx).2.2.2 y hy).2.2⟩⟩
end Go.Proofs.YtbpfkeeikhhlnaaGreatDoor
namespace Go.Proofs.YtbpfkeeikhhlnaaGreatDoor
open Go.RowKit
set_option maxRecDepth 100000

theorem encA (w : World) (m : Mg) (c : Mc) (hm : MgAt w m c) (hok : MgOk m c) (ht : Tab w) : Calls Tryz.prog 8 #[.agg m.cells.toArray] w (EncE w m c) :=
  Calls.mono (enc_ok w m c hm hok.mc ht) fun _ _ h => encE h
theorem isD (w : World) (m : Mg) (c : Mc) (hm : MgAt w m c) (hok : MgOk m c) : Calls Tryz.prog 11 #[.agg m.cells.toArray] w fun e w' => e = .returned (.bool (isM m c)) ∧ Below w.heap.size w w' :=
  refIs_any w m c hm hok.p1 (VcOkR hok.vt.2) (byteR hok.f) (byteR hok.t)
end Go.Proofs.YtbpfkeeikhhlnaaGreatDoor
