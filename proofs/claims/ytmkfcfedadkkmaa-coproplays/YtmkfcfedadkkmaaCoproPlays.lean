/- For every row of calls the law CoproPlays returns true: the program's coprocessor and the document's tell the same behind each. No condition. -/
import Derived.Test.YtmkfcfedadkkmaaRows
import Derived.Test.YtmkfcfedadkkmaaNew
import Derived.WalkKit
import Derived.ProofKit
import Derived.OpenShut
import Derived.ShutString
import Derived.ChangeOld
import Derived.Below
import Derived.Deep.Slices
import Derived.Deep.RegionWith
import Derived.BigQuiet
import Derived.Deep.Cut
import Derived.Deep.RegionHeld3
namespace Go.Proofs.Ytmkfcfedadkkmaa.coproPlays
open Go.ChangeShapes Go.WideShapes Go.ChangeAt Go.RowKit
set_option maxRecDepth 100000

theorem own : ownKnob Try.prog.godebug = none := by kernel_rfl
theorem laidOut : laidOutB Try.prog = true := by kernel_rfl

/-- a step: what, a view, a replica, an epoch -/
structure St where
  what : Int
  view : Int
  id : Int
  epoch : Int

/-- it lies at place i of the row at ⟨b, off⟩ -/
structure StAt (w : World) (b off i : Nat) (x : St) : Prop where
  c0 : w.cell? ⟨b, off + i * 4, none⟩ = some (.int .i64 x.what)
  c1 : w.cell? ⟨b, off + i * 4 + 1, none⟩ = some (.int .u32 x.view)
  c2 : w.cell? ⟨b, off + i * 4 + 2, none⟩ = some (.int .u8 x.id)
  c3 : w.cell? ⟨b, off + i * 4 + 3, none⟩ = some (.int .u8 x.epoch)
  view : 0 ≤ x.view ∧ x.view ≤ 4294967295
  id : 0 ≤ x.id ∧ x.id ≤ 255
  epoch : 0 ≤ x.epoch ∧ x.epoch ≤ 255

def Steps (w : World) (a : Option Addr) (l : List St) : Prop := ∀ i (hi : i < l.length), ∃ b off, a = some ⟨b, off, none⟩ ∧ StAt w b off i l[i]

theorem cells32 : Try.prog.cellsOf 32 = 4 := by kernel_rfl
theorem cells3 : Try.prog.cellsOf 3 = 1 := by kernel_rfl
theorem cells30 : Try.prog.cellsOf 30 = 1 := by kernel_rfl
theorem cells5 : Try.prog.cellsOf 5 = 1 := by kernel_rfl

instance : Inhabited St := ⟨⟨0, 0, 0, 0⟩⟩

theorem open_steps {H : Type} {enc : TypeId × Value → H} {W : World} {fuel : Nat} {a : Option Addr} {len cap : Nat} {x : DataW H × List MemPlace} (h : DataW.trod enc Try.prog W 0 (fun _ => true) true fuel 22 [.slice a len cap] = some x) :
    ∃ l : List St, l.length = len ∧ Steps W a l := by
  rcases Deep.open_slice Try.underlying22 h with ⟨hcs, _⟩ | ⟨ad, len', cap', m, n, D, Pl, hcs, hb, hl, hm, hmm, _, hi⟩
  · injection hcs with hcs
    injection hcs with h1 h2 h3
    exact ⟨[], h2.symm, fun i hi => by simp at hi⟩
  · injection hcs with hcs
    injection hcs with h1 h2 h3
    subst h1 h2 h3
    simp only [if_true] at hmm
    subst hmm
    have each : ∀ i, i < len → ∃ x : St, ∃ b off, some ad = some (⟨b, off, none⟩ : Addr) ∧ StAt W b off i x := by
      intro i him
      obtain ⟨cs', hc, ht⟩ := hi i (by omega)
      rw [cells32] at hc
      obtain ⟨_, hcl, hat⟩ := World.cells?_some hc
      obtain ⟨ys, n', hn', hy, hlen, hyl, hf⟩ := DataW.trod_struct Try.underlying32 ht
      match cs', hcl with
      | [v0, v1, v2, v3], _ =>
        have g : ∀ j, j < 4 → ∃ y, ys[j]? = some y := fun j hj => ⟨_, List.getElem?_eq_getElem (by rw [hyl]; exact hj)⟩
        obtain ⟨y0, e0⟩ := g 0 (by omega)
        obtain ⟨y1, e1⟩ := g 1 (by omega)
        obtain ⟨y2, e2⟩ := g 2 (by omega)
        obtain ⟨y3, e3⟩ := g 3 (by omega)
        have f0 : DataW.trod enc Try.prog W 0 (fun _ => true) true n' 3 [v0] = some y0 := by
          have this : DataW.trod enc Try.prog W 0 (fun _ => true) true n' 3 (([v0, v1, v2, v3].drop 0).take (Try.prog.cellsOf 3)) = ys[0]? := hf 0 _ rfl
          rw [cells3] at this
          rw [← e0]; exact this
        have f1 : DataW.trod enc Try.prog W 0 (fun _ => true) true n' 30 [v1] = some y1 := by
          have this : DataW.trod enc Try.prog W 0 (fun _ => true) true n' 30 (([v0, v1, v2, v3].drop 1).take (Try.prog.cellsOf 30)) = ys[1]? := hf 1 _ rfl
          rw [cells30] at this
          rw [← e1]; exact this
        have f2 : DataW.trod enc Try.prog W 0 (fun _ => true) true n' 5 [v2] = some y2 := by
          have this : DataW.trod enc Try.prog W 0 (fun _ => true) true n' 5 (([v0, v1, v2, v3].drop 2).take (Try.prog.cellsOf 5)) = ys[2]? := hf 2 _ rfl
          rw [cells5] at this
          rw [← e2]; exact this
        have f3 : DataW.trod enc Try.prog W 0 (fun _ => true) true n' 5 [v3] = some y3 := by
          have this : DataW.trod enc Try.prog W 0 (fun _ => true) true n' 5 (([v0, v1, v2, v3].drop 3).take (Try.prog.cellsOf 5)) = ys[3]? := hf 3 _ rfl
          rw [cells5] at this
          rw [← e3]; exact this
        obtain ⟨i0, q0, _, r0⟩ := DataW.trod_int Try.underlying3 f0
        obtain ⟨i1, q1, _, r1⟩ := DataW.trod_int Try.underlying30 f1
        obtain ⟨i2, q2, _, r2⟩ := DataW.trod_int Try.underlying5 f2
        obtain ⟨i3, q3, _, r3⟩ := DataW.trod_int Try.underlying5 f3
        injection q0 with q0; injection q1 with q1; injection q2 with q2; injection q3 with q3
        subst q0 q1 q2 q3
        have a0 := hat 0 (by omega)
        have a1 := hat 1 (by omega)
        have a2 := hat 2 (by omega)
        have a3 := hat 3 (by omega)
        obtain ⟨b, off, spot⟩ := ad
        have hs : spot = none := by
          obtain ⟨cs0, hc0, _⟩ := hi 0 (by omega)
          rw [cells32] at hc0
          obtain ⟨_, hl0, hat0⟩ := World.cells?_some hc0
          have b0 := hat0 0 (by omega)
          rw [List.getElem?_eq_getElem (by omega)] at b0
          simpa [Addr.add] using World.cell?_spot b0
        subst hs
        have hadd : ∀ j, ((⟨b, off, none⟩ : Addr).add (i * 4)).add j = ⟨b, off + i * 4 + j, none⟩ := by
          intro j
          rw [Deep.add_add]
          unfold Addr.add
          split
          · simp_all
          · simp; omega
        rw [hadd] at a0 a1 a2 a3
        refine ⟨⟨i0, i1, i2, i3⟩, b, off, rfl, ⟨a0, a1, a2, a3, ?_, ?_, ?_⟩⟩
        · simpa [Lit.wf, IntKind.min, IntKind.max, IntKind.signed, IntKind.bits] using r1
        · simpa [Lit.wf, IntKind.min, IntKind.max, IntKind.signed, IntKind.bits] using r2
        · simpa [Lit.wf, IntKind.min, IntKind.max, IntKind.signed, IntKind.bits] using r3
    obtain ⟨f, hf⟩ := Deep.choose_lt each
    refine ⟨(List.range len).map f, by simp, fun i hi => ?_⟩
    simp only [List.length_map, List.length_range] at hi
    obtain ⟨b, off, e, h⟩ := hf i hi
    exact ⟨b, off, e, by simpa using h⟩

theorem cell_stay {w w' : World} (h : Kept (fun _ => False) w w') {a : Addr} {v : Value} (hc : w.cell? a = some v) : w'.cell? a = some v := by
  have hb : a.block < w.heap.size := by
    rcases Nat.lt_or_ge a.block w.heap.size with h' | h'
    · exact h'
    · simp [World.cell?, Array.getElem?_eq_none h'] at hc
  rw [← hc]
  exact World.cell?_of_block (h.block _ hb (fun h => h))

/-- since w: the program's coprocessor at B holds c, the document's at C holds d -/
structure Two (w wr : World) (B C : Nat) (c d : Cp) : Prop where
  a : At 48 wr B c
  r : At 39 wr C d
  k : Kept (fun _ => False) w wr
  hB : w.heap.size ≤ B
  hC : w.heap.size ≤ C
  ne : B ≠ C

theorem Two.stepB {w wr w' : World} {B C : Nat} {c c' d : Cp} (h : Two w wr B C c d) (a : At 48 w' B c') (k : Kept (fun k => k = B) wr w') : Two w w' B C c' d :=
  ⟨a, h.r.kept k (fun e => h.ne e.symm), h.k.up k h.hB, h.hB, h.hC, h.ne⟩
theorem Two.stepC {w wr w' : World} {B C : Nat} {c d d' : Cp} (h : Two w wr B C c d) (r : At 39 w' C d') (k : Kept (fun k => k = C) wr w') : Two w w' B C c d' :=
  ⟨h.a.kept k h.ne, r, h.k.up k h.hC, h.hB, h.hC, h.ne⟩
theorem Two.alloc {w wr : World} {B C : Nat} {c d : Cp} (h : Two w wr B C c d) (o : Obj) : Two w (wr.alloc o) B C c d :=
  ⟨(Below.heap_alloc _ _ _ h.a.lt).trans h.a, (Below.heap_alloc _ _ _ h.r.lt).trans h.r, h.k.alloc o, h.hB, h.hC, h.ne⟩
theorem Two.drew {w wr : World} {B C : Nat} {c d : Cp} (h : Two w wr B C c d) : Two w wr.drew B C c d := ⟨h.a, h.r, h.k.drew, h.hB, h.hC, h.ne⟩

/-- what is at the beginning of a round -/
structure Run (w wr : World) (B C : Nat) (id : Int) (c : Cp) : Prop where
  t : Two w wr B C c c
  ok : c.Ok
  id : c.id = id

theorem next_up (c : Cp) : c.e ≤ c.next.e ∧ c.v ≤ c.next.v ∧ c.next.id = c.id := by
  unfold Cp.next
  split
  · exact ⟨Int.le_refl _, Int.le_refl _, rfl⟩
  · exact ⟨by simp only []; omega, Int.le_refl _, rfl⟩
theorem raise_up {c : Cp} (x : Int) : c.e ≤ (c.raise x).e ∧ c.v ≤ (c.raise x).v ∧ (c.raise x).id = c.id := by
  unfold Cp.raise
  split
  · exact ⟨Int.le_refl _, Int.le_refl _, rfl⟩
  · exact ⟨Int.le_refl _, by simp only []; omega, rfl⟩
theorem meet_up {c : Cp} (k x : Int) : c.e ≤ (c.meet k x).e ∧ c.v ≤ (c.meet k x).v ∧ (c.meet k x).id = c.id := by
  unfold Cp.meet
  split
  · exact ⟨Int.le_refl _, Int.le_refl _, rfl⟩
  · exact ⟨Int.le_refl _, Int.le_refl _, rfl⟩

theorem cell_keep {w w' : World} {g B i : Nat} {v : Value} (k : Kept (fun k => k = B) w w') (ne : g ≠ B) (hc : w.cell? ⟨g, i, none⟩ = some v) : w'.cell? ⟨g, i, none⟩ = some v := by
  have hb : g < w.heap.size := by
    rcases Nat.lt_or_ge g w.heap.size with h' | h'
    · exact h'
    · simp [World.cell?, Array.getElem?_eq_none h'] at hc
  rw [← hc]
  exact World.cell?_of_block (k.block g hb ne)
theorem quiet_flip {P : Program} {f : FuncId} {args : Array Value} {w : World} {n : Nat} {v : Value} (h : Calls P f args (w.drewN n) fun e w' => e = .returned v ∧ w.drewN n = w') : Calls P f args (w.drewN n) fun e w'' => e = .returned v ∧ ∃ m, w'' = w.drewN m :=
  h.mono fun _ _ ⟨he, hm⟩ => ⟨he, n, hm.symm⟩

set_option maxHeartbeats 4000000 in
theorem core (id many : Int) (l : List St) (a : Option Addr) (cap : Nat) (w : World) (hl : Steps w a l) (h80 : l.length ≤ 80) (hid : 0 ≤ id ∧ id < 4) (hm : 0 ≤ many ∧ many ≤ 255) :
    Calls Try.prog 3 #[.int .u8 id, .slice a l.length cap, .int .u8 many] w fun e w' => e = .returned (.bool true) ∧ Below w.heap.size w w' := by
  have HS := Lib.hid hl
  clear hl
  generalize hm2 : l.length = m at *
  have HM := Lib.hid hm2
  clear hm2
  obtain ⟨n, rfl⟩ := Int.eq_ofNat_of_zero_le hm.1
  go_enter Try.func3, Try.ntmps3
  go_wp2_with fail
  refine Calls.mono (known_any w) ?_
  rintro e w1 ⟨rfl, k1⟩
  have K1 := Lib.hid k1
  obtain ⟨B, hB⟩ : ∃ B, w1.heap.size = B := ⟨_, rfl⟩
  have HB := Lib.hid hB
  have HLE := Lib.hid (show w.heap.size ≤ B by rw [← hB]; exact k1.size)
  clear k1 hB
  go_wp2_with fail
  refine Calls.mono (new_any w1 id B HB.out) ?_
  rintro e w2 ⟨rfl, h2, k2⟩
  obtain ⟨C, hC⟩ : ∃ C, w2.heap.size = C := ⟨_, rfl⟩
  have HC := Lib.hid hC
  have H2 := Lib.hid h2
  have K2 := Lib.hid (K1.out.trans k2 (fun _ _ h => h))
  have CN := refNew_any w2 id
  rw [hC] at CN
  have CN := Lib.hid CN
  clear h2 k2 K1 HB hC
  go_wp2_with fail
  refine Calls.mono CN.out ?_
  rintro e w3 ⟨rfl, h3, k3⟩
  have R3 : Hid (Run w w3 B C id (Cp.new id)) := Lib.hid ⟨⟨H2.out.kept k3 (fun h => h), h3, K2.out.trans k3 (fun _ _ h => h), HLE.out, by rw [← HC.out]; exact K2.out.size, by have := H2.out.lt; have := HC.out; omega⟩, new_ok id (by omega), rfl⟩
  clear h3 k3 CN H2 K2 HC HLE
  go_wp2_with fail
  go_loopw [9] (fun vi wr => ∃ (i : Nat) (c : Cp), i ≤ n ∧ vi = .int .i64 i ∧ Hid (Run w wr B C id c)) (fun i _ => n - (intOf i).toNat)
  case atStart => exact ⟨0, _, by omega, rfl, R3⟩
  case round =>
    obtain ⟨i, c, hi, rfl, HR⟩ := hrel
    clear R3
    by_cases hlt : i < n
    · by_cases he : c.e = 200
      · have CN := Lib.hid (next_any _ B c HR.out.t.a HR.out.ok)
        rw [if_pos he] at CN
        have HE := Lib.hid (show decide (c.e < 200) = false by simp [he])
        clear he
        go_wp2_with fail
        refine Calls.mono CN.out ?_
        rintro e w3 ⟨rfl, h3, k3⟩
        have t3 := HR.out.t.stepB h3 k3
        have CR := refNext_any _ C c t3.r HR.out.ok
        rw [HE.out] at CR
        have CR := Lib.hid CR
        have T3 := Lib.hid t3
        clear CN h3 k3 t3
        go_wp2_with fail
        refine Calls.mono CR.out ?_
        rintro e w4 ⟨rfl, h4, k4⟩
        have R4 : Hid (Run w w4 B C id c.next) := Lib.hid ⟨T3.out.stepC h4 k4, next_ok HR.out.ok, (next_up c).2.2.trans HR.out.id⟩
        have hup := next_up c
        clear CR h4 k4 T3 HE
        go_wp2_with fail
        go_round
        case rel => exact ⟨i + 1, c.next, by omega, by go_num, R4⟩
        case measure => simp [intOf]; omega
      · have CN := Lib.hid (next_any _ B c HR.out.t.a HR.out.ok)
        rw [if_neg he] at CN
        have HE := Lib.hid (show decide (c.e < 200) = true by have := HR.out.ok.e; simp; omega)
        clear he
        go_wp2_with fail
        refine Calls.mono CN.out ?_
        rintro e w3 ⟨rfl, h3, k3⟩
        have t3 := HR.out.t.stepB h3 k3
        have CR := refNext_any _ C c t3.r HR.out.ok
        rw [HE.out] at CR
        have CR := Lib.hid CR
        have T3 := Lib.hid t3
        clear CN h3 k3 t3
        go_wp2_with fail
        refine Calls.mono CR.out ?_
        rintro e w4 ⟨rfl, h4, k4⟩
        have R4 : Hid (Run w w4 B C id c.next) := Lib.hid ⟨T3.out.stepC h4 k4, next_ok HR.out.ok, (next_up c).2.2.trans HR.out.id⟩
        have hup := next_up c
        clear CR h4 k4 T3 HE
        go_wp2_with fail
        go_round
        case rel => exact ⟨i + 1, c.next, by omega, by go_num, R4⟩
        case measure => simp [intOf]; omega
    · obtain rfl : i = n := by omega
      go_wp2_with fail
      go_loopw [10] (fun vi wr => ∃ (i : Nat) (c : Cp), i ≤ m ∧ vi = .int .i64 i ∧ Hid (Run w wr B C id c)) (fun i _ => m - (intOf i).toNat)
      case atStart => exact ⟨0, _, by omega, rfl, HR⟩
      case round =>
        clear HR hlt hi
        clear c
        obtain ⟨i, c, hi, rfl, HR⟩ := hrel
        by_cases hlt : i < m
        · obtain ⟨b, off, rfl, hx⟩ := HS.out i (by rw [HM.out]; exact hlt)
          obtain ⟨x, hxe⟩ : ∃ x, x = l[i]'(by rw [HM.out]; exact hlt) := ⟨_, rfl⟩
          rw [← hxe] at hx
          have q0 := cell_stay HR.out.t.k hx.c0
          have q1 := cell_stay HR.out.t.k hx.c1
          have q2 := cell_stay HR.out.t.k hx.c2
          have q3 := cell_stay HR.out.t.k hx.c3
          have bv := hx.view
          have bi := hx.id
          have be := hx.epoch
          obtain ⟨what, view, sid, ep⟩ := x
          simp only at q0 q1 q2 q3 bv bi be
          clear hx hxe
          obtain ⟨W, hW⟩ : ∃ W, W = wr.alloc (.cells #[.int .i64 what, .int .u32 view, .int .u8 sid, .int .u8 ep] 32) := ⟨_, rfl⟩
          obtain ⟨g, hg⟩ : ∃ g, g = wr.heap.size := ⟨_, rfl⟩
          have rw1 : Run w W B C id c := ⟨by rw [hW]; exact HR.out.t.alloc _, HR.out.ok, HR.out.id⟩
          have hbx : W.heap[g]? = some (.cells #[.int .i64 what, .int .u32 view, .int .u8 sid, .int .u8 ep] 32 (0, 0)) := by rw [hW, hg]; exact heap_alloc_new _ _
          have hgB : g ≠ B := by have := HR.out.t.a.lt; omega
          have hgC : g ≠ C := by have := HR.out.t.r.lt; omega
          have HW := Lib.hid hW
          have HG := Lib.hid hg
          have RW := Lib.hid rw1
          have HBX := Lib.hid hbx
          have HGB := Lib.hid hgB
          have HGC := Lib.hid hgC
          clear hW hg rw1 hbx hgB hgC
          go_upto_region 15 with fail
          rw [← HW.out, ← HG.out]
          clear HW HG q0 q1 q2 q3 HR
          have s0 : W.cell? ⟨g, 0, none⟩ = some (.int .i64 what) := by simp [World.cell?, HBX.out]
          have s1 : W.cell? ⟨g, 1, none⟩ = some (.int .u32 view) := by simp [World.cell?, HBX.out]
          have s2 : W.cell? ⟨g, 2, none⟩ = some (.int .u8 sid) := by simp [World.cell?, HBX.out]
          have s3 : W.cell? ⟨g, 3, none⟩ = some (.int .u8 ep) := by simp [World.cell?, HBX.out]
          go_wp2_with fail
          refine Calls.mono (epoch_any W B c RW.out.t.a) ?_
          rintro e w' ⟨rfl, rfl⟩
          go_wp2_with fail
          refine Calls.mono (view_any W B c RW.out.t.a) ?_
          rintro e w' ⟨rfl, rfl⟩
          by_cases hA : what ≤ 0
          · by_cases he : c.e = 200
            · have CN := Lib.hid (next_any _ B c RW.out.t.a RW.out.ok)
              rw [if_pos he] at CN
              have HE := Lib.hid (show decide (c.e < 200) = false by simp [he])
              clear he
              go_wp2_with fail
              refine Calls.mono CN.out ?_
              rintro e w3 ⟨rfl, h3, k3⟩
              have t3 := RW.out.t.stepB h3 k3
              have CR := refNext_any _ C c t3.r RW.out.ok
              rw [HE.out] at CR
              have CR := Lib.hid CR
              have T3 := Lib.hid t3
              clear CN h3 k3 t3
              go_wp2_with fail
              refine Calls.mono CR.out ?_
              rintro e w4 ⟨rfl, h4, k4⟩
              have R4 : Hid (Run w w4 B C id c.next) := Lib.hid ⟨T3.out.stepC h4 k4, next_ok RW.out.ok, (next_up c).2.2.trans RW.out.id⟩
              have hup := next_up c
              clear CR h4 k4 T3 HE
              clear s0 s1 s2 s3 RW HBX
              obtain ⟨hu1, hu2, -⟩ := hup
              obtain ⟨d, hd⟩ : ∃ d, d = c.next := ⟨_, rfl⟩
              rw [← hd] at R4 hu1 hu2
              clear hd
              have ca : w4.cell? ⟨C, 1, none⟩ = some (.int .u8 d.e) := R4.out.t.r.cell 1
              have cb : w4.cell? ⟨C, 2, none⟩ = some (.int .u32 d.v) := R4.out.t.r.cell 2
              have cd : w4.cell? ⟨C, 7, none⟩ = some (.bool d.h) := R4.out.t.r.cell 7
              have CI := fun n => id_any (w4.drewN n) B d R4.out.t.a
              rw [R4.out.id] at CI
              have CI := Lib.hid CI
              go_wp2_with fail
              go_quiet (first
                | (go_at_call 12; exact quiet_flip (epoch_any _ B d R4.out.t.a))
                | (go_at_call 13; exact quiet_flip (view_any _ B d R4.out.t.a))
                | (go_at_call 18; exact quiet_flip (halted_any _ B d R4.out.t.a))
                | (go_at_call 19; exact quiet_flip (CI.out _)))
              have R5 : Hid (∀ n, Run w (w4.drewN n) B C id d) := Lib.hid (fun n => ⟨⟨R4.out.t.a, R4.out.t.r, ⟨R4.out.t.k.os, R4.out.t.k.tape, R4.out.t.k.output, R4.out.t.k.size, R4.out.t.k.block⟩, R4.out.t.hB, R4.out.t.hC, R4.out.t.ne⟩, R4.out.ok, R4.out.id⟩)
              clear CI ca cb cd R4
              go_wp2_with fail
              go_loopw [14] (fun vi w5 => ∃ j : Nat, j ≤ 6 ∧ vi = .int .u8 j ∧ w5 = w4.drewN nq) (fun i _ => 6 - (intOf i).toNat)
              case atStart => exact ⟨0, by omega, rfl, rfl⟩
              case round =>
                obtain ⟨j, hj, rfl, rfl⟩ := hrel
                by_cases hj6 : j < 6
                · have P1 := Lib.hid (peer_any _ B d j (R5.out nq).t.a (by omega))
                  have P2 := Lib.hid (refPeer_any _ C d j (R5.out nq).t.r (by omega))
                  generalize d.peer j = pj at *
                  go_wp2_with fail
                  refine Calls.mono P1.out ?_
                  rintro e w' ⟨rfl, rfl⟩
                  go_wp2_with fail
                  refine Calls.mono P2.out ?_
                  rintro e w' ⟨rfl, rfl⟩
                  go_wp2_with fail
                  go_round
                  case rel => exact ⟨j + 1, by omega, by go_num, by first | rfl | trivial⟩
                  case measure => simp [intOf]; omega
                · go_wp2_with fail
                  exact ⟨⟨i + 1, d, by omega, by go_num, Lib.hid (R5.out nq)⟩, by simp [intOf]; omega⟩
            · have CN := Lib.hid (next_any _ B c RW.out.t.a RW.out.ok)
              rw [if_neg he] at CN
              have HE := Lib.hid (show decide (c.e < 200) = true by have := RW.out.ok.e; simp; omega)
              clear he
              go_wp2_with fail
              refine Calls.mono CN.out ?_
              rintro e w3 ⟨rfl, h3, k3⟩
              have t3 := RW.out.t.stepB h3 k3
              have CR := refNext_any _ C c t3.r RW.out.ok
              rw [HE.out] at CR
              have CR := Lib.hid CR
              have T3 := Lib.hid t3
              clear CN h3 k3 t3
              go_wp2_with fail
              refine Calls.mono CR.out ?_
              rintro e w4 ⟨rfl, h4, k4⟩
              have R4 : Hid (Run w w4 B C id c.next) := Lib.hid ⟨T3.out.stepC h4 k4, next_ok RW.out.ok, (next_up c).2.2.trans RW.out.id⟩
              have hup := next_up c
              clear CR h4 k4 T3 HE
              clear s0 s1 s2 s3 RW HBX
              obtain ⟨hu1, hu2, -⟩ := hup
              obtain ⟨d, hd⟩ : ∃ d, d = c.next := ⟨_, rfl⟩
              rw [← hd] at R4 hu1 hu2
              clear hd
              have ca : w4.cell? ⟨C, 1, none⟩ = some (.int .u8 d.e) := R4.out.t.r.cell 1
              have cb : w4.cell? ⟨C, 2, none⟩ = some (.int .u32 d.v) := R4.out.t.r.cell 2
              have cd : w4.cell? ⟨C, 7, none⟩ = some (.bool d.h) := R4.out.t.r.cell 7
              have CI := fun n => id_any (w4.drewN n) B d R4.out.t.a
              rw [R4.out.id] at CI
              have CI := Lib.hid CI
              go_wp2_with fail
              go_quiet (first
                | (go_at_call 12; exact quiet_flip (epoch_any _ B d R4.out.t.a))
                | (go_at_call 13; exact quiet_flip (view_any _ B d R4.out.t.a))
                | (go_at_call 18; exact quiet_flip (halted_any _ B d R4.out.t.a))
                | (go_at_call 19; exact quiet_flip (CI.out _)))
              have R5 : Hid (∀ n, Run w (w4.drewN n) B C id d) := Lib.hid (fun n => ⟨⟨R4.out.t.a, R4.out.t.r, ⟨R4.out.t.k.os, R4.out.t.k.tape, R4.out.t.k.output, R4.out.t.k.size, R4.out.t.k.block⟩, R4.out.t.hB, R4.out.t.hC, R4.out.t.ne⟩, R4.out.ok, R4.out.id⟩)
              clear CI ca cb cd R4
              go_wp2_with fail
              go_loopw [14] (fun vi w5 => ∃ j : Nat, j ≤ 6 ∧ vi = .int .u8 j ∧ w5 = w4.drewN nq) (fun i _ => 6 - (intOf i).toNat)
              case atStart => exact ⟨0, by omega, rfl, rfl⟩
              case round =>
                obtain ⟨j, hj, rfl, rfl⟩ := hrel
                by_cases hj6 : j < 6
                · have P1 := Lib.hid (peer_any _ B d j (R5.out nq).t.a (by omega))
                  have P2 := Lib.hid (refPeer_any _ C d j (R5.out nq).t.r (by omega))
                  generalize d.peer j = pj at *
                  go_wp2_with fail
                  refine Calls.mono P1.out ?_
                  rintro e w' ⟨rfl, rfl⟩
                  go_wp2_with fail
                  refine Calls.mono P2.out ?_
                  rintro e w' ⟨rfl, rfl⟩
                  go_wp2_with fail
                  go_round
                  case rel => exact ⟨j + 1, by omega, by go_num, by first | rfl | trivial⟩
                  case measure => simp [intOf]; omega
                · go_wp2_with fail
                  exact ⟨⟨i + 1, d, by omega, by go_num, Lib.hid (R5.out nq)⟩, by simp [intOf]; omega⟩
          · by_cases hB1 : what = 1
            · subst hB1
              have CN := Lib.hid (raise_any _ B c view RW.out.t.a RW.out.ok bv)
              go_wp2_with fail
              refine Calls.mono CN.out ?_
              rintro e w3 ⟨rfl, h3, k3⟩
              have t3 := RW.out.t.stepB h3 k3
              have b3 := (k3.block g (lt_of_block HBX.out) HGB.out).trans HBX.out
              have v3 : w3.cell? ⟨g, 1, none⟩ = some (.int .u32 view) := by simp [World.cell?, b3]
              have CR := Lib.hid (refRaise_any _ C c view t3.r RW.out.ok bv)
              have T3 := Lib.hid t3
              clear CN h3 k3 t3 b3 s0 s1 s2 s3
              go_wp2_with fail
              refine Calls.mono CR.out ?_
              rintro e w4 ⟨rfl, h4, k4⟩
              have R4 : Hid (Run w w4 B C id (c.raise view)) := Lib.hid ⟨T3.out.stepC h4 k4, raise_ok view RW.out.ok bv.1, (raise_up (c := c) view).2.2.trans RW.out.id⟩
              have hup := raise_up (c := c) view
              clear CR h4 k4 T3 v3 RW HBX
              obtain ⟨hu1, hu2, -⟩ := hup
              obtain ⟨d, hd⟩ : ∃ d, d = c.raise view := ⟨_, rfl⟩
              rw [← hd] at R4 hu1 hu2
              clear hd
              have ca : w4.cell? ⟨C, 1, none⟩ = some (.int .u8 d.e) := R4.out.t.r.cell 1
              have cb : w4.cell? ⟨C, 2, none⟩ = some (.int .u32 d.v) := R4.out.t.r.cell 2
              have cd : w4.cell? ⟨C, 7, none⟩ = some (.bool d.h) := R4.out.t.r.cell 7
              have CI := fun n => id_any (w4.drewN n) B d R4.out.t.a
              rw [R4.out.id] at CI
              have CI := Lib.hid CI
              go_wp2_with fail
              go_quiet (first
                | (go_at_call 12; exact quiet_flip (epoch_any _ B d R4.out.t.a))
                | (go_at_call 13; exact quiet_flip (view_any _ B d R4.out.t.a))
                | (go_at_call 18; exact quiet_flip (halted_any _ B d R4.out.t.a))
                | (go_at_call 19; exact quiet_flip (CI.out _)))
              have R5 : Hid (∀ n, Run w (w4.drewN n) B C id d) := Lib.hid (fun n => ⟨⟨R4.out.t.a, R4.out.t.r, ⟨R4.out.t.k.os, R4.out.t.k.tape, R4.out.t.k.output, R4.out.t.k.size, R4.out.t.k.block⟩, R4.out.t.hB, R4.out.t.hC, R4.out.t.ne⟩, R4.out.ok, R4.out.id⟩)
              clear CI ca cb cd R4
              go_wp2_with fail
              go_loopw [14] (fun vi w5 => ∃ j : Nat, j ≤ 6 ∧ vi = .int .u8 j ∧ w5 = w4.drewN nq) (fun i _ => 6 - (intOf i).toNat)
              case atStart => exact ⟨0, by omega, rfl, rfl⟩
              case round =>
                obtain ⟨j, hj, rfl, rfl⟩ := hrel
                by_cases hj6 : j < 6
                · have P1 := Lib.hid (peer_any _ B d j (R5.out nq).t.a (by omega))
                  have P2 := Lib.hid (refPeer_any _ C d j (R5.out nq).t.r (by omega))
                  generalize d.peer j = pj at *
                  go_wp2_with fail
                  refine Calls.mono P1.out ?_
                  rintro e w' ⟨rfl, rfl⟩
                  go_wp2_with fail
                  refine Calls.mono P2.out ?_
                  rintro e w' ⟨rfl, rfl⟩
                  go_wp2_with fail
                  go_round
                  case rel => exact ⟨j + 1, by omega, by go_num, by first | rfl | trivial⟩
                  case measure => simp [intOf]; omega
                · go_wp2_with fail
                  exact ⟨⟨i + 1, d, by omega, by go_num, Lib.hid (R5.out nq)⟩, by simp [intOf]; omega⟩
            · have hB2 : (what == 1) = false := by simp [hB1]
              have hA2 : 0 < what := by omega
              clear hB1 hA
              have CM := Lib.hid (fun ww (h : At 48 ww B c) => meet_any ww B c sid ep h RW.out.ok bi be)
              have CQ := Lib.hid (fun ww (h : At 39 ww C c) => refMeet_any ww C c sid ep h RW.out.ok bi be)
              generalize c.canMeet sid ep = cm at CM CQ
              have RD := Lib.hid (RW.out.t.drew)
              have FIN : Hid (∀ w4, Two w w4 B C (c.meet sid ep) (c.meet sid ep) → Run w w4 B C id (c.meet sid ep)) := Lib.hid (fun w4 t => ⟨t, meet_ok sid ep RW.out.ok, (meet_up (c := c) sid ep).2.2.trans RW.out.id⟩)
              have S2 := Lib.hid s2
              have S3 := Lib.hid s3
              clear RW HBX
              go_wp2_with fail
              go_region_held3 (fun w' => w'.cell? ⟨g, 2, none⟩ = some (.int .u8 sid) ∧ w'.cell? ⟨g, 3, none⟩ = some (.int .u8 ep)) (first | exact ⟨s2, s3⟩ | exact ⟨cell_keep k4 HGC.out u2, cell_keep k4 HGC.out u3⟩ | exact ⟨cell_keep k4 HGB.out u2, cell_keep k4 HGB.out u3⟩ | exact ⟨u2, u3⟩ | go_keep)
                (first
                  | (go_at_call 16; refine Calls.mono (CM.out _ T3c.out.a) ?_; rintro e w4 ⟨rfl, h4, k4⟩)
                  | (go_at_call 16; refine Calls.mono (CM.out _ RD.out.a) ?_; rintro e w3 ⟨rfl, h3, k3⟩; have T3b := Lib.hid (RD.out.stepB h3 k3); have u2 := cell_keep k3 HGB.out S2.out; have u3 := cell_keep k3 HGB.out S3.out; clear RD)
                  | (go_at_call 17; refine Calls.mono (CQ.out _ T3b.out.r) ?_; rintro e w4 ⟨rfl, h4, k4⟩)
                  | (go_at_call 17; refine Calls.mono (CQ.out _ RD.out.r) ?_; rintro e w3 ⟨rfl, h3, k3⟩; have T3c := Lib.hid (RD.out.stepC h3 k3); have u2 := cell_keep k3 HGC.out S2.out; have u3 := cell_keep k3 HGC.out S3.out; clear RD))
              have R4 : Hid (Run w w4 B C id (c.meet sid ep)) := Lib.hid (FIN.out w4 (T3b.out.stepC h4 k4))
              have hup := meet_up (c := c) sid ep
              clear CM CQ FIN S2 S3 T3b h3 k3 h4 k4 u2 u3 s0 s1 s2 s3
              obtain ⟨hu1, hu2, -⟩ := hup
              obtain ⟨d, hd⟩ : ∃ d, d = c.meet sid ep := ⟨_, rfl⟩
              rw [← hd] at R4 hu1 hu2
              clear hd
              have ca : w4.cell? ⟨C, 1, none⟩ = some (.int .u8 d.e) := R4.out.t.r.cell 1
              have cb : w4.cell? ⟨C, 2, none⟩ = some (.int .u32 d.v) := R4.out.t.r.cell 2
              have cd : w4.cell? ⟨C, 7, none⟩ = some (.bool d.h) := R4.out.t.r.cell 7
              have CI := fun n => id_any (w4.drewN n) B d R4.out.t.a
              rw [R4.out.id] at CI
              have CI := Lib.hid CI
              go_wp2_with fail
              go_quiet (first
                | (go_at_call 12; exact quiet_flip (epoch_any _ B d R4.out.t.a))
                | (go_at_call 13; exact quiet_flip (view_any _ B d R4.out.t.a))
                | (go_at_call 18; exact quiet_flip (halted_any _ B d R4.out.t.a))
                | (go_at_call 19; exact quiet_flip (CI.out _)))
              have R5 : Hid (∀ n, Run w (w4.drewN n) B C id d) := Lib.hid (fun n => ⟨⟨R4.out.t.a, R4.out.t.r, ⟨R4.out.t.k.os, R4.out.t.k.tape, R4.out.t.k.output, R4.out.t.k.size, R4.out.t.k.block⟩, R4.out.t.hB, R4.out.t.hC, R4.out.t.ne⟩, R4.out.ok, R4.out.id⟩)
              clear CI ca cb cd R4
              go_wp2_with fail
              go_loopw [14] (fun vi w5 => ∃ j : Nat, j ≤ 6 ∧ vi = .int .u8 j ∧ w5 = w4.drewN nq) (fun i _ => 6 - (intOf i).toNat)
              case atStart => exact ⟨0, by omega, rfl, rfl⟩
              case round =>
                obtain ⟨j, hj, rfl, rfl⟩ := hrel
                by_cases hj6 : j < 6
                · have P1 := Lib.hid (peer_any _ B d j (R5.out nq).t.a (by omega))
                  have P2 := Lib.hid (refPeer_any _ C d j (R5.out nq).t.r (by omega))
                  generalize d.peer j = pj at *
                  go_wp2_with fail
                  refine Calls.mono P1.out ?_
                  rintro e w' ⟨rfl, rfl⟩
                  go_wp2_with fail
                  refine Calls.mono P2.out ?_
                  rintro e w' ⟨rfl, rfl⟩
                  go_wp2_with fail
                  go_round
                  case rel => exact ⟨j + 1, by omega, by go_num, by first | rfl | trivial⟩
                  case measure => simp [intOf]; omega
                · go_wp2_with fail
                  exact ⟨⟨i + 1, d, by omega, by go_num, Lib.hid (R5.out nq)⟩, by simp [intOf]; omega⟩
        · obtain rfl : i = m := by omega
          go_wp2_with fail
          go_ret
          exact ⟨rfl, HR.out.t.k.below (Nat.le_refl _) (fun _ h => h.elim)⟩

theorem walk (a0 : Int) (a1 : Option Addr) (len1 cap1 : Nat) (l : List St) (a2 : Int) (w : World) (hl : l.length = len1) (hs : Steps w a1 l) (w0 : (Lit.int .u8 a0).wf = true) (w2 : (Lit.int .u8 a2).wf = true) :
    Calls Try.prog 3 #[.int .u8 a0, .slice a1 len1 cap1, .int .u8 a2] w fun e w' => e = .returned (.bool true) ∧ Below w.heap.size w w' := by
  have h0 : 0 ≤ a0 ∧ a0 ≤ 255 := by simpa [Lit.wf, IntKind.min, IntKind.max, IntKind.signed, IntKind.bits] using w0
  have h2 : 0 ≤ a2 ∧ a2 ≤ 255 := by simpa [Lit.wf, IntKind.min, IntKind.max, IntKind.signed, IntKind.bits] using w2
  clear w0 w2
  subst hl
  by_cases h80 : l.length ≤ 80
  · by_cases h4 : a0 < 4
    · exact core a0 a2 l a1 cap1 w hs h80 ⟨h0.1, h4⟩ h2
    · clear hs
      generalize l.length = m at *
      go_enter Try.func3, Try.ntmps3
      go_wp2_with fail
      refine Calls.mono (known_any w) ?_
      rintro e w1 ⟨rfl, k1⟩
      have K1 := Lib.hid k1
      clear k1
      go_wp2_with fail
      go_ret
      exact ⟨rfl, K1.out.below (Nat.le_refl _) (fun _ h => h.elim)⟩
  · clear hs
    generalize l.length = m at *
    go_enter Try.func3, Try.ntmps3
    go_wp2_with fail
    refine Calls.mono (known_any w) ?_
    rintro e w1 ⟨rfl, k1⟩
    have K1 := Lib.hid k1
    clear k1
    go_wp2_with fail
    go_ret
    exact ⟨rfl, K1.out.below (Nat.le_refl _) (fun _ h => h.elim)⟩

theorem lifted (os : Os) (started : os.Started) (H : Type) (enc : TypeId × Value → H) :
    ReturnsInHanded {} Try.checked os 3 .any (Rows.coproPlaysSpec.pre6 enc Try.prog Try.f3 Rows.coproPlaysRow.domain false) (Rows.coproPlaysSpec.post enc Try.prog Try.f3 false true false false) := by
  refine returnsInHanded_of_change (C := Try.checked) own started (by kernel_rfl) Try.func3
    (ChangeSpec.witness6 (enc := enc) (C := Try.checked) false ⟨#[], #[.int .u8 0, .slice none 0 0, .int .u8 0], []⟩ 8 (by kernel_rfl) (by kernel_rfl) (by kernel_rfl) (by kernel_rfl)) ?_
  intro W base args ds gs before hval0 hW hcnd _
  have hval : ∀ (j : Nat) t v, Try.f3.params[j]? = some t → args[j]? = some v → Value.okWide Try.prog W .any base t v := hval0
  have hW' := hW
  obtain ⟨p, q, hA0, hV, rfl, hfz, hnd⟩ := hW
  have hA : DataW.TrodAll enc Try.prog W 0 (fun _ => true) true Try.f3.params.toList args.toList ds p := hA0
  rw [Try.params3] at hA hval
  obtain ⟨v0, vs0, d0, ds0, p0, q0, hargs, rfl, rfl, h0, r0⟩ := trodAll_cons hA
  obtain ⟨v1, vs1, d1, ds1, p1, q1, rfl, rfl, rfl, h1, r1⟩ := trodAll_cons r0
  obtain ⟨v2, vs2, d2, ds2, p2, q2, rfl, rfl, rfl, h2, r2⟩ := trodAll_cons r1
  obtain ⟨rfl, rfl, rfl⟩ := trodAll_nil r2
  obtain rfl : args = #[v0, v1, v2] := by cases args; simp_all
  obtain ⟨rfl, rfl⟩ := trodVars_none hV
  obtain ⟨a0, rfl, rfl, rfl, w0⟩ := open_int Try.underlying5 (hval 0 5 v0 rfl rfl) h0
  obtain ⟨a1, len1, cap1, rfl⟩ := okWide_slice Try.underlying22 (hval 1 22 v1 rfl rfl)
  obtain ⟨a2, rfl, rfl, rfl, w2⟩ := open_int Try.underlying5 (hval 2 5 v2 rfl rfl) h2
  have k1 := h1
  have lt1 : ∀ x ∈ p1, x.block < W.heap.size := by obtain ⟨m, hm⟩ := k1; exact DataW.trod_lt m _ _ _ hm
  obtain ⟨l, hl, hs⟩ : ∃ l : List St, l.length = len1 ∧ Steps W a1 l := by
    obtain ⟨fuel, hf⟩ := h1
    exact open_steps (by simpa [Value.cells] using hf)
  clear hA0 hval0
  refine (walk a0 a1 len1 cap1 l a2 W hl hs w0 w2).mono fun e W' ⟨he, bel⟩ => ?_
  subst he
  exact ⟨_, rfl, _, _, _, [], _, [], hW', trodAll_mk1 (shut_bool Try.underlying4 _), (trodAll_cons_mk (shut_int Try.underlying5 w0) (trodAll_cons_mk (Below.trod laidOut (by kernel_rfl) (of_decide_eq_true (by kernel_rfl)) k1 bel lt1) (trodAll_cons_mk (shut_int Try.underlying5 w2) trodAll_mk0))), rfl, bel.frame _, fun h => by cases h⟩

theorem over : Rows.coproPlaysRow.holds Try.pinned (OpenSpec.ofChange Rows.coproPlaysSpec) :=
  OpenClaim.holds_of_wide 3 Try.f3 rfl rfl rfl rfl rfl rfl rfl ⟨rfl, rfl, rfl, rfl, rfl⟩ rfl rfl rfl rfl rfl (by kernel_rfl) Try.func3 (by kernel_rfl)
    (of_decide_eq_true (by kernel_rfl)) (by unfold Func.isWrapper; first | (rw [if_pos (by decide +kernel)]; kernel_rfl) | (rw [if_neg (by decide +kernel)]; exact ⟨rfl, rfl⟩))
    (fun os started H enc _ => lifted os started H enc)

theorem proved : Rows.CoproPlaysSaid := over
#print axioms proved
end Go.Proofs.Ytmkfcfedadkkmaa.coproPlays
