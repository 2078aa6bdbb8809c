/- What comes in: the cells of a struct, whatever structs are in it; rows of structs. Which messages the laws of layer 3 look at: their lists are short. What comes in: requests, bytes. What comes in: a mark, an entry, a vote, a message. MsgTells: both bytes of a message, the program's and the document's. -/
import Derived.ProofKit
import Derived.OpenShut
import Derived.ChangeOld
import Derived.Deep.Slices
import Derived.WalkKit
import Derived.Test.YtbpfkeeikhhlnaaGreatDoorJ24
import Derived.LaidMore
import Derived.Lay
import Derived.Test.YtbpfkeeikhhlnaaGreatDoorJ23
namespace Go.Proofs.YtbpfkeeikhhlnaaGreatDoor
open Go.ChangeShapes Go.WideShapes Go.ChangeAt Go.RowKit

/-- the type of the cell at place i of a value of type t -/
def leafAt (P : Program) : Nat → TypeId → Nat → Option TypeId
  | 0, _, _ => none
  | k + 1, t, i => match P.underlying t with
    | some (.struct fs) => match fs.toList.find? (fun f => decide (f.offset ≤ i) && decide (i < f.offset + P.cellsOf f.type)) with
      | some f => leafAt P k f.type (i - f.offset)
      | none => none
    | _ => if i = 0 ∧ P.cellsOf t = 1 then some t else none

theorem trod_leaf {H : Type} {enc : TypeId × Value → H} {P : Program} {w : World} {base : Nat} {spare : Nat → Bool} {held : Bool} : ∀ (k : Nat) {t : TypeId} {i : Nat} {u : TypeId} {fuel : Nat} {cs : List Value} {x : DataW H × List MemPlace},
    leafAt P k t i = some u → DataW.trod enc P w base spare held fuel t cs = some x → i < cs.length → cs.length ≤ P.cellsOf t → ∃ n y v, cs[i]? = some v ∧ DataW.trod enc P w base spare held n u [v] = some y
  | 0, t, i, u, fuel, cs, x, h, _, _, _ => by cases h
  | k + 1, t, i, u, fuel, cs, x, h, hx, hi, hc => by
    unfold leafAt at h
    split at h
    · rename_i fs hfs
      split at h
      · rename_i f hf
        obtain ⟨xs, n, _, _, hl, hxl, hat⟩ := DataW.trod_struct hfs hx
        have hm := List.mem_of_find?_eq_some hf
        have hp := List.find?_some hf
        simp only [Bool.and_eq_true, decide_eq_true_eq] at hp
        obtain ⟨j, hj⟩ := List.getElem?_of_mem hm
        have hj' : fs[j]? = some f := by rw [← Array.getElem?_toList]; exact hj
        have ht := hat j f hj'
        have hjl : j < xs.length := by
          rw [hxl]
          exact (Array.getElem?_eq_some_iff.1 hj').1
        rw [List.getElem?_eq_getElem hjl] at ht
        obtain ⟨n', y, v, h1, h2⟩ := trod_leaf k h ht (by rw [List.length_take, List.length_drop]; omega) (by rw [List.length_take]; omega)
        refine ⟨n', y, v, ?_, h2⟩
        rw [List.getElem?_take_of_lt (by omega), List.getElem?_drop, show f.offset + (i - f.offset) = i by omega] at h1
        exact h1
      · cases h
    · split at h
      · rename_i h0
        injection h with h
        subst h
        obtain ⟨rfl, h1⟩ := h0
        match cs, hi, hc with
        | [v], _, _ => exact ⟨fuel, x, v, rfl, hx⟩
        | a :: b :: r, _, hc => simp at hc; omega
      · cases h

/-- a row of elements of k cells each, of whatever length -/
def RowU {α : Type} (w : World) (k : Nat) (enc : α → List Value) (v : Value) (xs : List α) : Prop :=
  ∃ ao cap, v = .slice ao xs.length cap ∧ (ao = none → cap = 0) ∧ xs.length ≤ cap ∧ cap ≤ maxLen ∧
    ∀ (j : Nat) (x : α), xs[j]? = some x → ∃ b off, ao = some ⟨b, off, none⟩ ∧ ∀ i u, (enc x)[i]? = some u → w.cell? ⟨b, off + j * k + i, none⟩ = some u

theorem open_row {H : Type} {en : TypeId × Value → H} {P : Program} {w : World} {held : Bool} {α : Type} [Inhabited α] (enc : α → List Value) (k : Nat) (ok : α → Prop) {t e : TypeId} {fuel : Nat} {v : Value} {x : DataW H × List MemPlace}
    (ht : P.underlying t = some (.slice e)) (hk : P.cellsOf e = k) (hk0 : 0 < k) (hE : ∀ n cs y, cs.length = k → DataW.trod en P w 0 (fun _ => true) held n e cs = some y → ∃ a, cs = enc a ∧ ok a)
    (h : DataW.trod en P w 0 (fun _ => true) held fuel t [v] = some x) : ∃ xs, RowU w k enc v xs ∧ ∀ a ∈ xs, ok a := by
  rcases Deep.open_slice ht h with ⟨hcs, _⟩ | ⟨ad, len, cap, m, n, D, Pl, hcs, hb, hl, hm, hmm, _, hi⟩
  · injection hcs with hcs
    subst hcs
    exact ⟨[], ⟨none, 0, rfl, fun _ => rfl, Nat.le_refl _, Nat.zero_le _, fun j x hj => by simp at hj⟩, fun a ha => by simp at ha⟩
  · injection hcs with hcs
    subst hcs
    simp only [if_true] at hmm
    subst hmm
    rcases Nat.eq_zero_or_pos len with h0 | h0
    · subst h0
      exact ⟨[], ⟨some ad, m, rfl, fun e => (by cases e), Nat.zero_le _, hm, fun j x hj => by simp at hj⟩, fun a ha => by simp at ha⟩
    · rw [hk] at hi
      obtain ⟨b, off, spot⟩ := ad
      have hs : spot = none := by
        obtain ⟨cs0, hc0, _⟩ := hi 0 (by omega)
        obtain ⟨_, hl0, hat0⟩ := World.cells?_some hc0
        have b0 := hat0 0 (by omega)
        rw [List.getElem?_eq_getElem (by omega)] at b0
        simpa [Addr.add] using World.cell?_spot b0
      subst hs
      have each : ∀ i, i < len → ∃ a : α, ok a ∧ ∀ j u, (enc a)[j]? = some u → w.cell? ⟨b, off + i * k + j, none⟩ = some u := by
        intro i him
        obtain ⟨cs', hc, htt⟩ := hi i (by omega)
        obtain ⟨_, hcl, hat⟩ := World.cells?_some hc
        obtain ⟨a, rfl, hok⟩ := hE n cs' _ hcl htt
        refine ⟨a, hok, fun j u hu => ?_⟩
        have hj : j < k := by
          rw [← hcl]
          exact (List.getElem?_eq_some_iff.1 hu).1
        have := hat j hj
        rw [Deep.add_add, Addr.add_lit, hu] at this
        rw [Nat.add_assoc]
        exact this
      obtain ⟨f, hf⟩ := Deep.choose_lt each
      have hlen : ((List.range len).map f).length = len := by simp
      refine ⟨(List.range len).map f, ⟨some ⟨b, off, none⟩, m, by rw [hlen], fun e => (by cases e), by rw [hlen]; exact hl, hm, fun j x hj => ⟨b, off, rfl, ?_⟩⟩, fun a ha => ?_⟩
      · obtain ⟨hj1, hj2⟩ := List.getElem?_eq_some_iff.1 hj
        rw [hlen] at hj1
        simp at hj2
        subst hj2
        exact (hf j hj1).2
      · obtain ⟨i, hi1, rfl⟩ := List.mem_map.1 ha
        exact (hf i (List.mem_range.1 hi1)).1
end Go.Proofs.YtbpfkeeikhhlnaaGreatDoor
namespace Go.Proofs.YtbpfkeeikhhlnaaGreatDoor
open Go.RowKit
set_option maxRecDepth 100000

theorem cell_vt {w' : World} {g : Nat} {v : Vt} (h : w'.heap[g]? = some (.cells v.cells.toArray 32 (0, 0))) (i : Nat) : w'.cell? ⟨g, i, none⟩ = v.cells[i]? := by
  rw [cell_of_row _ _ i _ _ _ h]; simp
/-- its lists are no longer than forty -/
def Vt.few (v : Vt) : Prop := v.ms.n ≤ 40 ∧ v.p.n ≤ 40 ∧ v.q.n ≤ 40
def HelpV (w : World) (v : Vt) (e : Ending) (w' : World) : Prop := ∃ b, e = .returned (.bool b) ∧ (b = true → v.few) ∧ Below w.heap.size w w'
set_option maxHeartbeats 4000000 in
theorem help25 (w : World) (v : Vt) : Calls Tryz.prog 7 #[.agg v.cells.toArray] w (HelpV w v) := by
  obtain ⟨W, hW⟩ : ∃ W, W = w.alloc (.cells v.cells.toArray 32) := ⟨_, rfl⟩
  have hbl : Below w.heap.size w W := by rw [hW]; exact (Below.refl _ _).alloc (Nat.le_refl _) _
  have hbx : W.heap[w.heap.size]? = some (.cells v.cells.toArray 32 (0, 0)) := by rw [hW]; exact heap_alloc_new _ _
  have q4 : W.cell? ⟨w.heap.size, 4, none⟩ = some (.slice v.ms.a v.ms.n v.ms.c) := cell_vt hbx 4
  have q5 : W.cell? ⟨w.heap.size, 5, none⟩ = some (.slice v.p.a v.p.n v.p.c) := cell_vt hbx 5
  have q6 : W.cell? ⟨w.heap.size, 6, none⟩ = some (.slice v.q.a v.q.n v.q.c) := cell_vt hbx 6
  have HBL := Lib.hid hbl
  have HW := Lib.hid hW
  clear hW hbx hbl
  simp only [Vt.cells] at HW ⊢
  go_enter Tryz.func7, Tryz.ntmps7
  go_upto_region 1 with fail
  rw [← HW.out]
  have eA : (#[.int .u8 v.f, .int .u8 v.e, .int .u32 v.vw, .int .u32 v.lo, .slice v.ms.a v.ms.n v.ms.c, .slice v.p.a v.p.n v.p.c, .slice v.q.a v.q.n v.q.c] : Array Value) = v.cells.toArray := rfl
  rw [eA]
  clear eA HW
  generalize v.cells.toArray = A at *
  by_cases h1 : (v.ms.n : Int) ≤ 40
  · by_cases h2 : (v.p.n : Int) ≤ 40
    · by_cases h3 : (v.q.n : Int) ≤ 40
      all_goals
        go_wp2_with fail
        go_ret
        exact ⟨_, rfl, fun h => by first | (cases h; done) | exact ⟨by omega, by omega, by omega⟩, HBL.out⟩
    · go_wp2_with fail
      go_ret
      exact ⟨_, rfl, fun h => by first | (cases h; done) | exact ⟨by omega, by omega, by omega⟩, HBL.out⟩
  · go_wp2_with fail
    go_ret
    exact ⟨_, rfl, fun h => by first | (cases h; done) | exact ⟨by omega, by omega, by omega⟩, HBL.out⟩

def HelpM (w : World) (m : Mg) (l : List Vt) (e : Ending) (w' : World) : Prop := ∃ b, e = .returned (.bool b) ∧ (b = true → m.vs.n ≤ 6 ∧ m.sm.n ≤ 12 ∧ m.dt.n ≤ 200 ∧ m.vt.few ∧ ∀ x ∈ l, x.few) ∧ Below w.heap.size w w'
set_option maxHeartbeats 8000000 in
theorem help10 (w : World) (m : Mg) (l : List Vt) (hl : RowU w 7 Vt.cells m.vs.val l) : Calls Tryz.prog 6 #[.agg m.cells.toArray] w (HelpM w m l) := by
  obtain ⟨W, hW⟩ : ∃ W, W = w.alloc (.cells m.cells.toArray 37) := ⟨_, rfl⟩
  have hbl : Below w.heap.size w W := by rw [hW]; exact (Below.refl _ _).alloc (Nat.le_refl _) _
  have hbx : W.heap[w.heap.size]? = some (.cells m.cells.toArray 37 (0, 0)) := by rw [hW]; exact heap_alloc_new _ _
  have q22 : W.cell? ⟨w.heap.size, 22, none⟩ = some (.slice m.vs.a m.vs.n m.vs.c) := cell_box hbx 22
  have q23 : W.cell? ⟨w.heap.size, 23, none⟩ = some (.slice m.sm.a m.sm.n m.sm.c) := cell_box hbx 23
  have q24 : W.cell? ⟨w.heap.size, 24, none⟩ = some (.slice m.dt.a m.dt.n m.dt.c) := cell_box hbx 24
  have q15 : W.cell? ⟨w.heap.size, 15, none⟩ = some (.int .u8 m.vt.f) := cell_box hbx 15
  have q16 : W.cell? ⟨w.heap.size, 16, none⟩ = some (.int .u8 m.vt.e) := cell_box hbx 16
  have q17 : W.cell? ⟨w.heap.size, 17, none⟩ = some (.int .u32 m.vt.vw) := cell_box hbx 17
  have q18 : W.cell? ⟨w.heap.size, 18, none⟩ = some (.int .u32 m.vt.lo) := cell_box hbx 18
  have q19 : W.cell? ⟨w.heap.size, 19, none⟩ = some (.slice m.vt.ms.a m.vt.ms.n m.vt.ms.c) := cell_box hbx 19
  have q20 : W.cell? ⟨w.heap.size, 20, none⟩ = some (.slice m.vt.p.a m.vt.p.n m.vt.p.c) := cell_box hbx 20
  have q21 : W.cell? ⟨w.heap.size, 21, none⟩ = some (.slice m.vt.q.a m.vt.q.n m.vt.q.c) := cell_box hbx 21
  have CV := help25 W m.vt
  simp only [Vt.cells] at CV
  have CVH := Lib.hid CV
  obtain ⟨sa, sc, hq, -, -, -, hrow0⟩ := hl
  have hrow : ∀ (j : Nat) (x : Vt), l[j]? = some x → ∃ b off, sa = some ⟨b, off, none⟩ ∧ ∀ i u, x.cells[i]? = some u → W.cell? ⟨b, off + j * 7 + i, none⟩ = some u := fun j x hj => by
    obtain ⟨b, off, e, hc⟩ := hrow0 j x hj
    exact ⟨b, off, e, fun i u hu => by have := hc i u hu; rw [hbl.cell (cell_block this)]; exact this⟩
  injection hq with hq1 hq2 hq3
  rw [hq1, hq2, hq3] at q22
  have HROW := Lib.hid hrow
  have HBX := Lib.hid hbx
  have HBL := Lib.hid hbl
  have HW := Lib.hid hW
  have HQ := Lib.hid q22
  have HNL := Lib.hid (show m.vs.n = l.length from hq2)
  clear hW hbx hbl hrow0 hrow hq1 hq2 hq3 CV
  generalize hvn : l.length = vn at *
  have HVN := Lib.hid hvn
  clear hvn
  simp only [Mg.cells] at HW ⊢
  go_enter Tryz.func6, Tryz.ntmps6
  go_upto_region 1 with fail
  rw [← HW.out]
  have eA : (#[.int .u8 m.k, .int .u8 m.f, .int .u8 m.t, .int .u8 m.e, .int .u32 m.vw, .int .u32 m.sq, .int .u8 m.rq.c, .int .u32 m.rq.t, .int .u8 m.rq.k, .int .u8 m.rq.y, .int .u16 m.rq.v, .int .u64 m.ro, .int .u8 m.ct, .int .u8 m.pg, .int .u32 m.rs, .int .u8 m.vt.f, .int .u8 m.vt.e, .int .u32 m.vt.vw, .int .u32 m.vt.lo, .slice m.vt.ms.a m.vt.ms.n m.vt.ms.c, .slice m.vt.p.a m.vt.p.n m.vt.p.c, .slice m.vt.q.a m.vt.q.n m.vt.q.c, .slice m.vs.a m.vs.n m.vs.c, .slice m.sm.a m.sm.n m.sm.c, .slice m.dt.a m.dt.n m.dt.c] : Array Value) = m.cells.toArray := rfl
  rw [eA]
  clear eA HW
  generalize m.cells.toArray = A at *
  by_cases h1 : 6 < (vn : Int)
  · go_wp2_with fail
    go_ret
    exact ⟨_, rfl, fun h => (by cases h), HBL.out⟩
  · by_cases h2 : 12 < (m.sm.n : Int)
    · go_wp2_with fail
      go_ret
      exact ⟨_, rfl, fun h => (by cases h), HBL.out⟩
    · by_cases h3 : 200 < (m.dt.n : Int)
      · go_wp2_with fail
        go_ret
        exact ⟨_, rfl, fun h => (by cases h), HBL.out⟩
      · go_wp2_with fail
        refine Calls.mono CVH.out ?_
        rintro e w1 ⟨b, rfl, hfew, hb⟩
        have HFW := Lib.hid hfew
        clear hfew
        have B1 := Lib.hid hb
        clear hb q15 q16 q17 q18 q19 q20 q21 q22 q23 q24 CVH
        cases b
        · go_wp2_with fail
          go_ret
          exact ⟨_, rfl, fun h => (by cases h), HBL.out.trans (B1.out.mono HBL.out.size)⟩
        · go_upto_region 3 with fail
          obtain ⟨gx, hgx⟩ : ∃ g, g = w.heap.size := ⟨_, rfl⟩
          have HBXg := HBX
          rw [← hgx] at HBXg HQ ⊢
          clear hgx
          go_wp2_with fail
          go_loopw [3] (fun vi wr => ∃ j : Nat, j ≤ vn ∧ vi = .int .i64 j ∧ Hid (Below W.heap.size W wr) ∧ Hid (∀ x ∈ l.take j, x.few)) (fun i _ => vn - (intOf i).toNat)
          case atStart => exact ⟨0, Nat.zero_le _, rfl, B1, Lib.hid (fun x hx => by simp at hx)⟩
          case round =>
            obtain ⟨j, hj, rfl, HBW, HFS⟩ := hrel
            have qv : wr.cell? ⟨gx, 22, none⟩ = some (.slice sa vn sc) := (HBW.out.cell (cell_block HQ.out)).trans HQ.out
            by_cases hlt : j < vn
            · obtain ⟨x, hx⟩ : ∃ x, l[j]? = some x := ⟨_, List.getElem?_eq_getElem (by rw [HVN.out]; exact hlt)⟩
              obtain ⟨b, off, rfl, G0⟩ := HROW.out j x hx
              have G : ∀ i u, x.cells[i]? = some u → wr.cell? ⟨b, off + j * 7 + i, none⟩ = some u := fun i u hi => (HBW.out.cell (cell_block (G0 i u hi))).trans (G0 i u hi)
              have GL := Lib.hid (vt_load G)
              have CX := Lib.hid (help25 wr x)
              have HX := Lib.hid hx
              clear hx G0 G
              go_upto_region 6 with fail
              refine wp_region_lit ?_
              refine wpl_val (v := .pointer (some ⟨gx, 22, none⟩)) (w1 := wr) rfl (by go_simp) _ rfl ?_
              refine wpl_val (v := .slice (some ⟨b, off, none⟩) vn sc) (w1 := wr) rfl (by go_simp) _ rfl ?_
              refine wpl_val (v := .int .i64 j) (w1 := wr) rfl (by go_simp) _ rfl ?_
              refine wpl_val (v := .pointer (some ⟨b, off + j * 7, none⟩)) (w1 := wr) rfl (by go_simp) _ rfl ?_
              refine wpl_val (v := .agg x.cells.toArray) (w1 := wr) rfl (exec_load 32 (.tmp 36) rfl rfl GL.out) _ rfl ?_
              generalize x.cells.toArray = AX at *
              go_wp2_with fail
              refine Calls.mono CX.out ?_
              rintro e w2 ⟨b2, rfl, hfx, hb2⟩
              have HFX := Lib.hid hfx
              clear hfx
              have HB2 := Lib.hid (HBW.out.trans (hb2.mono HBW.out.size))
              clear hb2 CX qv
              cases b2
              · go_wp2_with fail
                go_ret
                exact ⟨_, rfl, fun h => (by cases h), HBL.out.trans (HB2.out.mono HBL.out.size)⟩
              · go_wp2_with fail
                go_round
                case rel => exact ⟨j + 1, by omega, by go_num, HB2, Lib.hid (fun y hy => by
                  rw [List.take_add_one, HX.out] at hy
                  rcases List.mem_append.1 hy with h | h
                  · exact HFS.out y h
                  · simp at h; rw [h]; exact HFX.out (by first | rfl | trivial))⟩
                case measure => simp [intOf]; omega
            · obtain rfl : j = vn := by omega
              go_wp2_with fail
              go_ret
              exact ⟨_, rfl, fun _ => ⟨by have := HNL.out; have := HVN.out; omega, by omega, by omega, HFW.out (by first | rfl | trivial), fun x hx => HFS.out x (by rw [List.take_of_length_le (by rw [HVN.out]; exact Nat.le_refl _)]; exact hx)⟩, HBL.out.trans (HBW.out.mono HBL.out.size)⟩
end Go.Proofs.YtbpfkeeikhhlnaaGreatDoor
namespace Go.Proofs.YtbpfkeeikhhlnaaGreatDoor
open Go.ChangeShapes Go.WideShapes Go.ChangeAt Go.RowKit

set_option maxRecDepth 100000 in
theorem open_req {H : Type} {enc : TypeId × Value → H} {W : World} {b0 base : Nat} {spare : Nat → Bool} {held : Bool} {v : Value} {d : DataW H} {p : List MemPlace} (hv : Value.okWide Tryz.prog W .any b0 27 v)
    (h : DataW.Trod enc Tryz.prog W base spare held 27 v d p) : ∃ r : Rq, v = .agg r.cells.toArray ∧ r.ok := by
  obtain ⟨cs, rfl, hsz⟩ := okWide_struct Tryz.underlying27 hv
  obtain ⟨fuel, hf⟩ := h
  have c27 : Tryz.prog.cellsOf 27 = 5 := by kernel_rfl
  have c25 : Tryz.prog.cellsOf 25 = 3 := by kernel_rfl
  have c5 : Tryz.prog.cellsOf 5 = 1 := by kernel_rfl
  have c22 : Tryz.prog.cellsOf 22 = 1 := by kernel_rfl
  have c23 : Tryz.prog.cellsOf 23 = 1 := by kernel_rfl
  obtain ⟨l⟩ := cs
  match l, hsz.trans c27 with
  | [x0, x1, x2, x3, x4], _ =>
    obtain ⟨ys, n, _, _, _, hl, hy⟩ := DataW.trod_struct Tryz.underlying27 (show DataW.trod enc Tryz.prog W base spare held fuel 27 [x0, x1, x2, x3, x4] = some (d, p) from hf)
    have g : ∀ j, j < 3 → ∃ y, ys[j]? = some y := fun j hj => ⟨_, List.getElem?_eq_getElem (by rw [hl]; exact hj)⟩
    obtain ⟨y0, e0⟩ := g 0 (by omega)
    obtain ⟨y1, e1⟩ := g 1 (by omega)
    obtain ⟨y2, e2⟩ := g 2 (by omega)
    have f0 : DataW.trod enc Tryz.prog W base spare held n 5 [x0] = some y0 := by
      have this : DataW.trod enc Tryz.prog W base spare held n 5 (([x0, x1, x2, x3, x4].drop 0).take (Tryz.prog.cellsOf 5)) = ys[0]? := hy 0 _ rfl
      rw [c5] at this
      rw [← e0]; exact this
    have f1 : DataW.trod enc Tryz.prog W base spare held n 22 [x1] = some y1 := by
      have this : DataW.trod enc Tryz.prog W base spare held n 22 (([x0, x1, x2, x3, x4].drop 1).take (Tryz.prog.cellsOf 22)) = ys[1]? := hy 1 _ rfl
      rw [c22] at this
      rw [← e1]; exact this
    have f2 : DataW.trod enc Tryz.prog W base spare held n 25 [x2, x3, x4] = some y2 := by
      have this : DataW.trod enc Tryz.prog W base spare held n 25 (([x0, x1, x2, x3, x4].drop 2).take (Tryz.prog.cellsOf 25)) = ys[2]? := hy 2 _ rfl
      rw [c25] at this
      rw [← e2]; exact this
    obtain ⟨zs, n2, _, _, _, hl2, hz⟩ := DataW.trod_struct Tryz.underlying25 f2
    have g2 : ∀ j, j < 3 → ∃ y, zs[j]? = some y := fun j hj => ⟨_, List.getElem?_eq_getElem (by rw [hl2]; exact hj)⟩
    obtain ⟨u0, d0⟩ := g2 0 (by omega)
    obtain ⟨u1, d1⟩ := g2 1 (by omega)
    obtain ⟨u2, d2⟩ := g2 2 (by omega)
    have k0 : DataW.trod enc Tryz.prog W base spare held n2 5 [x2] = some u0 := by
      have this : DataW.trod enc Tryz.prog W base spare held n2 5 (([x2, x3, x4].drop 0).take (Tryz.prog.cellsOf 5)) = zs[0]? := hz 0 _ rfl
      rw [c5] at this
      rw [← d0]; exact this
    have k1 : DataW.trod enc Tryz.prog W base spare held n2 5 [x3] = some u1 := by
      have this : DataW.trod enc Tryz.prog W base spare held n2 5 (([x2, x3, x4].drop 1).take (Tryz.prog.cellsOf 5)) = zs[1]? := hz 1 _ rfl
      rw [c5] at this
      rw [← d1]; exact this
    have k2 : DataW.trod enc Tryz.prog W base spare held n2 23 [x4] = some u2 := by
      have this : DataW.trod enc Tryz.prog W base spare held n2 23 (([x2, x3, x4].drop 2).take (Tryz.prog.cellsOf 23)) = zs[2]? := hz 2 _ rfl
      rw [c23] at this
      rw [← d2]; exact this
    obtain ⟨a0, q0, _, b0⟩ := DataW.trod_int Tryz.underlying5 f0
    obtain ⟨a1, q1, _, b1⟩ := DataW.trod_int Tryz.underlying22 f1
    obtain ⟨a2, q2, _, b2⟩ := DataW.trod_int Tryz.underlying5 k0
    obtain ⟨a3, q3, _, b3⟩ := DataW.trod_int Tryz.underlying5 k1
    obtain ⟨a4, q4, _, b4⟩ := DataW.trod_int Tryz.underlying23 k2
    injection q0 with q0; injection q1 with q1; injection q2 with q2; injection q3 with q3; injection q4 with q4
    subst q0 q1 q2 q3 q4
    refine ⟨⟨a0, a1, a2, a3, a4⟩, rfl, ?_⟩
    simp [Lit.wf, IntKind.min, IntKind.max, IntKind.signed, IntKind.bits] at b0 b1 b2 b3 b4
    unfold Rq.ok
    simp only
    omega

theorem open_bytes {H : Type} {enc : TypeId × Value → H} {W : World} {fuel : Nat} {v : Value} {x : DataW H × List MemPlace} (h : DataW.trod enc Tryz.prog W 0 (fun _ => true) true fuel 35 [v] = some x) :
    ∃ (ao : Option Addr) (l : List Int) (cap : Nat), v = .slice ao l.length cap ∧ Bytes W ao l ∧ (∀ y ∈ l, isByte y) ∧ l.length ≤ cap ∧ (ao = none → cap = 0) := by
  rcases open_ints Tryz.underlying35 Tryz.underlying5 (by kernel_rfl) h with ⟨hcs, _⟩ | ⟨a, len, cap, zs, hcs, _, hl, hm, hz, _, hcell, hwz⟩
  · injection hcs with hcs
    exact ⟨none, [], 0, hcs, fun i h => by simp at h, fun y hy => by simp at hy, Nat.le_refl _, fun _ => rfl⟩
  · injection hcs with hcs
    have hz' : zs.length = cap := by simpa using hz
    have hlen : (zs.take len).length = len := by rw [List.length_take]; omega
    refine ⟨some a, zs.take len, cap, by rw [hlen]; exact hcs, fun i hi => ?_, fun y hy => ?_, by omega, fun e => by cases e⟩
    · rw [hlen] at hi
      exact ⟨a, rfl, by rw [hcell i (by omega), getD_take zs len i hi]⟩
    · have := hwz y (List.mem_of_mem_take hy)
      simpa [isByte, Lit.wf, IntKind.min, IntKind.max, IntKind.signed, IntKind.bits] using this
end Go.Proofs.YtbpfkeeikhhlnaaGreatDoor
namespace Go.Proofs.YtbpfkeeikhhlnaaGreatDoor
open Go.ChangeShapes Go.WideShapes Go.ChangeAt Go.RowKit

theorem RowU.split {α : Type} {w : World} {k : Nat} {enc : α → List Value} {v : Value} {xs : List α} (h : RowU w k enc v xs) : ∃ ao cap, v = .slice ao xs.length cap ∧ RowU w k enc (.slice ao xs.length cap) xs := by
  have h0 := h
  obtain ⟨ao, cap, rfl, _⟩ := h
  exact ⟨ao, cap, rfl, h0⟩
/-- of a short row -/
theorem RowU.row {α : Type} {w : World} {k : Nat} {enc : α → List Value} {v : Value} {xs : List α} (h : RowU w k enc v xs) (hl : xs.length ≤ 1000000) : Row w k enc v xs := by
  obtain ⟨ao, cap, e, h1, h2, _, h4⟩ := h
  exact ⟨ao, cap, e, h1, h2, hl, h4⟩
instance : Inhabited (Vt × Vc) := ⟨(Vt.zero, ⟨[], [], []⟩)⟩
def VtU (w : World) (v : Vt) (c : Vc) : Prop := RowU w 2 Mk.cells v.ms.val c.ms ∧ RowU w 7 En.cells v.p.val c.p ∧ RowU w 7 En.cells v.q.val c.q
theorem VtU.at {w : World} {v : Vt} {c : Vc} (h : VtU w v c) (hf : v.few) : VtAt w v c := by
  have e : ∀ {α : Type} {k : Nat} {enc : α → List Value} {s : Sl} {xs : List α}, RowU w k enc s.val xs → s.n = xs.length := fun h => by
    obtain ⟨ao, cap, e, _⟩ := h
    injection e
  have e1 := e h.1
  have e2 := e h.2.1
  have e3 := e h.2.2
  obtain ⟨f1, f2, f3⟩ := hf
  exact ⟨h.1.row (by omega), h.2.1.row (by omega), h.2.2.row (by omega)⟩
theorem open_u64 {H : Type} {enc : TypeId × Value → H} {W : World} {n : Nat} {cs : List Value} {y : DataW H × List MemPlace} (hl : cs.length = 1) (h : DataW.trod enc Tryz.prog W 0 (fun _ => true) true n 28 cs = some y) : ∃ x : Int, cs = [Value.int .u64 x] ∧ 0 ≤ x ∧ x ≤ 18446744073709551615 := by
  match cs, hl with
  | [x0], _ =>
    obtain ⟨a, q, _, b⟩ := DataW.trod_int Tryz.underlying28 h
    exact ⟨a, q, by simpa [Lit.wf, IntKind.min, IntKind.max, IntKind.signed, IntKind.bits] using b⟩
set_option maxRecDepth 100000 in
theorem open_mk {H : Type} {enc : TypeId × Value → H} {W : World} {n : Nat} {cs : List Value} {y : DataW H × List MemPlace} (hl : cs.length = 2) (h : DataW.trod enc Tryz.prog W 0 (fun _ => true) true n 77 cs = some y) : ∃ x : Mk, cs = x.cells ∧ x.ok := by
  have hc : Tryz.prog.cellsOf 77 = 2 := by kernel_rfl
  match cs, hl with
  | [x0, x1], _ =>
    obtain ⟨n0, y0, v0, e0, t0⟩ := trod_leaf 4 (show leafAt Tryz.prog 4 77 0 = some 22 by kernel_rfl) h (by simp) (by rw [hc]; simp)
    obtain rfl : x0 = v0 := Option.some.inj e0
    obtain ⟨a0, q0, _, b0⟩ := DataW.trod_int Tryz.underlying22 t0
    injection q0 with q0
    subst q0
    have r0 : 0 ≤ a0 ∧ a0 ≤ 4294967295 := by simpa [Lit.wf, IntKind.min, IntKind.max, IntKind.signed, IntKind.bits] using b0
    obtain ⟨n1, y1, v1, e1, t1⟩ := trod_leaf 4 (show leafAt Tryz.prog 4 77 1 = some 28 by kernel_rfl) h (by simp) (by rw [hc]; simp)
    obtain rfl : x1 = v1 := Option.some.inj e1
    obtain ⟨a1, q1, _, b1⟩ := DataW.trod_int Tryz.underlying28 t1
    injection q1 with q1
    subst q1
    have r1 : 0 ≤ a1 ∧ a1 ≤ 18446744073709551615 := by simpa [Lit.wf, IntKind.min, IntKind.max, IntKind.signed, IntKind.bits] using b1
    exact ⟨⟨a0, a1⟩, rfl, r0, r1⟩
set_option maxRecDepth 100000 in
theorem open_en {H : Type} {enc : TypeId × Value → H} {W : World} {n : Nat} {cs : List Value} {y : DataW H × List MemPlace} (hl : cs.length = 7) (h : DataW.trod enc Tryz.prog W 0 (fun _ => true) true n 80 cs = some y) : ∃ x : En, cs = x.cells ∧ x.ok := by
  have hc : Tryz.prog.cellsOf 80 = 7 := by kernel_rfl
  match cs, hl with
  | [x0, x1, x2, x3, x4, x5, x6], _ =>
    obtain ⟨n0, y0, v0, e0, t0⟩ := trod_leaf 4 (show leafAt Tryz.prog 4 80 0 = some 22 by kernel_rfl) h (by simp) (by rw [hc]; simp)
    obtain rfl : x0 = v0 := Option.some.inj e0
    obtain ⟨a0, q0, _, b0⟩ := DataW.trod_int Tryz.underlying22 t0
    injection q0 with q0
    subst q0
    have r0 : 0 ≤ a0 ∧ a0 ≤ 4294967295 := by simpa [Lit.wf, IntKind.min, IntKind.max, IntKind.signed, IntKind.bits] using b0
    obtain ⟨n1, y1, v1, e1, t1⟩ := trod_leaf 4 (show leafAt Tryz.prog 4 80 1 = some 22 by kernel_rfl) h (by simp) (by rw [hc]; simp)
    obtain rfl : x1 = v1 := Option.some.inj e1
    obtain ⟨a1, q1, _, b1⟩ := DataW.trod_int Tryz.underlying22 t1
    injection q1 with q1
    subst q1
    have r1 : 0 ≤ a1 ∧ a1 ≤ 4294967295 := by simpa [Lit.wf, IntKind.min, IntKind.max, IntKind.signed, IntKind.bits] using b1
    obtain ⟨n2, y2, v2, e2, t2⟩ := trod_leaf 4 (show leafAt Tryz.prog 4 80 2 = some 5 by kernel_rfl) h (by simp) (by rw [hc]; simp)
    obtain rfl : x2 = v2 := Option.some.inj e2
    obtain ⟨a2, q2, _, b2⟩ := DataW.trod_int Tryz.underlying5 t2
    injection q2 with q2
    subst q2
    have r2 : 0 ≤ a2 ∧ a2 ≤ 255 := by simpa [Lit.wf, IntKind.min, IntKind.max, IntKind.signed, IntKind.bits] using b2
    obtain ⟨n3, y3, v3, e3, t3⟩ := trod_leaf 4 (show leafAt Tryz.prog 4 80 3 = some 22 by kernel_rfl) h (by simp) (by rw [hc]; simp)
    obtain rfl : x3 = v3 := Option.some.inj e3
    obtain ⟨a3, q3, _, b3⟩ := DataW.trod_int Tryz.underlying22 t3
    injection q3 with q3
    subst q3
    have r3 : 0 ≤ a3 ∧ a3 ≤ 4294967295 := by simpa [Lit.wf, IntKind.min, IntKind.max, IntKind.signed, IntKind.bits] using b3
    obtain ⟨n4, y4, v4, e4, t4⟩ := trod_leaf 4 (show leafAt Tryz.prog 4 80 4 = some 5 by kernel_rfl) h (by simp) (by rw [hc]; simp)
    obtain rfl : x4 = v4 := Option.some.inj e4
    obtain ⟨a4, q4, _, b4⟩ := DataW.trod_int Tryz.underlying5 t4
    injection q4 with q4
    subst q4
    have r4 : 0 ≤ a4 ∧ a4 ≤ 255 := by simpa [Lit.wf, IntKind.min, IntKind.max, IntKind.signed, IntKind.bits] using b4
    obtain ⟨n5, y5, v5, e5, t5⟩ := trod_leaf 4 (show leafAt Tryz.prog 4 80 5 = some 5 by kernel_rfl) h (by simp) (by rw [hc]; simp)
    obtain rfl : x5 = v5 := Option.some.inj e5
    obtain ⟨a5, q5, _, b5⟩ := DataW.trod_int Tryz.underlying5 t5
    injection q5 with q5
    subst q5
    have r5 : 0 ≤ a5 ∧ a5 ≤ 255 := by simpa [Lit.wf, IntKind.min, IntKind.max, IntKind.signed, IntKind.bits] using b5
    obtain ⟨n6, y6, v6, e6, t6⟩ := trod_leaf 4 (show leafAt Tryz.prog 4 80 6 = some 23 by kernel_rfl) h (by simp) (by rw [hc]; simp)
    obtain rfl : x6 = v6 := Option.some.inj e6
    obtain ⟨a6, q6, _, b6⟩ := DataW.trod_int Tryz.underlying23 t6
    injection q6 with q6
    subst q6
    have r6 : 0 ≤ a6 ∧ a6 ≤ 65535 := by simpa [Lit.wf, IntKind.min, IntKind.max, IntKind.signed, IntKind.bits] using b6
    exact ⟨⟨a0, a1, ⟨a2, a3, a4, a5, a6⟩⟩, rfl, r0, r1, r2, r3, r4, r5, r6⟩
set_option maxRecDepth 100000 in
theorem open_vt {H : Type} {enc : TypeId × Value → H} {W : World} {n : Nat} {cs : List Value} {y : DataW H × List MemPlace} (hl : cs.length = 7) (h : DataW.trod enc Tryz.prog W 0 (fun _ => true) true n 32 cs = some y) : ∃ (v : Vt) (c : Vc), cs = v.cells ∧ VtU W v c ∧ v.ok ∧ c.ok := by
  have hc : Tryz.prog.cellsOf 32 = 7 := by kernel_rfl
  match cs, hl with
  | [x0, x1, x2, x3, x4, x5, x6], _ =>
    obtain ⟨n0, y0, v0, e0, t0⟩ := trod_leaf 4 (show leafAt Tryz.prog 4 32 0 = some 5 by kernel_rfl) h (by simp) (by rw [hc]; simp)
    obtain rfl : x0 = v0 := Option.some.inj e0
    obtain ⟨a0, q0, _, b0⟩ := DataW.trod_int Tryz.underlying5 t0
    injection q0 with q0
    subst q0
    have r0 : 0 ≤ a0 ∧ a0 ≤ 255 := by simpa [Lit.wf, IntKind.min, IntKind.max, IntKind.signed, IntKind.bits] using b0
    obtain ⟨n1, y1, v1, e1, t1⟩ := trod_leaf 4 (show leafAt Tryz.prog 4 32 1 = some 5 by kernel_rfl) h (by simp) (by rw [hc]; simp)
    obtain rfl : x1 = v1 := Option.some.inj e1
    obtain ⟨a1, q1, _, b1⟩ := DataW.trod_int Tryz.underlying5 t1
    injection q1 with q1
    subst q1
    have r1 : 0 ≤ a1 ∧ a1 ≤ 255 := by simpa [Lit.wf, IntKind.min, IntKind.max, IntKind.signed, IntKind.bits] using b1
    obtain ⟨n2, y2, v2, e2, t2⟩ := trod_leaf 4 (show leafAt Tryz.prog 4 32 2 = some 22 by kernel_rfl) h (by simp) (by rw [hc]; simp)
    obtain rfl : x2 = v2 := Option.some.inj e2
    obtain ⟨a2, q2, _, b2⟩ := DataW.trod_int Tryz.underlying22 t2
    injection q2 with q2
    subst q2
    have r2 : 0 ≤ a2 ∧ a2 ≤ 4294967295 := by simpa [Lit.wf, IntKind.min, IntKind.max, IntKind.signed, IntKind.bits] using b2
    obtain ⟨n3, y3, v3, e3, t3⟩ := trod_leaf 4 (show leafAt Tryz.prog 4 32 3 = some 22 by kernel_rfl) h (by simp) (by rw [hc]; simp)
    obtain rfl : x3 = v3 := Option.some.inj e3
    obtain ⟨a3, q3, _, b3⟩ := DataW.trod_int Tryz.underlying22 t3
    injection q3 with q3
    subst q3
    have r3 : 0 ≤ a3 ∧ a3 ≤ 4294967295 := by simpa [Lit.wf, IntKind.min, IntKind.max, IntKind.signed, IntKind.bits] using b3
    obtain ⟨n4, y4, v4, e4, t4⟩ := trod_leaf 4 (show leafAt Tryz.prog 4 32 4 = some 29 by kernel_rfl) h (by simp) (by rw [hc]; simp)
    obtain rfl : x4 = v4 := Option.some.inj e4
    obtain ⟨l4, R4, o4⟩ := open_row Mk.cells 2 Mk.ok Tryz.underlying29 (by kernel_rfl) (by decide) (fun _ _ _ h1 h2 => open_mk h1 h2) t4
    obtain ⟨s4, c4, rfl, R4⟩ := R4.split
    obtain ⟨n5, y5, v5, e5, t5⟩ := trod_leaf 4 (show leafAt Tryz.prog 4 32 5 = some 30 by kernel_rfl) h (by simp) (by rw [hc]; simp)
    obtain rfl : x5 = v5 := Option.some.inj e5
    obtain ⟨l5, R5, o5⟩ := open_row En.cells 7 En.ok Tryz.underlying30 (by kernel_rfl) (by decide) (fun _ _ _ h1 h2 => open_en h1 h2) t5
    obtain ⟨s5, c5, rfl, R5⟩ := R5.split
    obtain ⟨n6, y6, v6, e6, t6⟩ := trod_leaf 4 (show leafAt Tryz.prog 4 32 6 = some 30 by kernel_rfl) h (by simp) (by rw [hc]; simp)
    obtain rfl : x6 = v6 := Option.some.inj e6
    obtain ⟨l6, R6, o6⟩ := open_row En.cells 7 En.ok Tryz.underlying30 (by kernel_rfl) (by decide) (fun _ _ _ h1 h2 => open_en h1 h2) t6
    obtain ⟨s6, c6, rfl, R6⟩ := R6.split
    exact ⟨⟨a0, a1, a2, a3, ⟨s4, l4.length, c4⟩, ⟨s5, l5.length, c5⟩, ⟨s6, l6.length, c6⟩⟩, ⟨l4, l5, l6⟩, rfl, ⟨R4, R5, R6⟩, ⟨r0, r1, r2, r3⟩, o4, o5, o6⟩
/-- a message as it comes in, its lists of whatever length -/
structure MgU (w : World) (m : Mg) (c : Mc) : Prop where
  vt : VtU w m.vt c.vt
  vs : RowU w 7 vcell m.vs.val c.vs
  vl : ∀ x ∈ c.vs, VtU w x.1 x.2
  sm : RowU w 1 (fun x => [Value.int .u64 x]) m.sm.val c.sm
  dn : m.dt.n = c.dt.length
  db : Bytes w m.dt.a c.dt
  dy : ∀ x ∈ c.dt, isByte x
  dc : c.dt.length ≤ m.dt.c
  dz : m.dt.a = none → m.dt.c = 0
set_option maxRecDepth 100000 in
theorem open_mg {H : Type} {enc : TypeId × Value → H} {W : World} {n : Nat} {cs : List Value} {y : DataW H × List MemPlace} (hl : cs.length = 25) (h : DataW.trod enc Tryz.prog W 0 (fun _ => true) true n 37 cs = some y) : ∃ (m : Mg) (c : Mc), cs = m.cells ∧ MgU W m c ∧ MgOk m c := by
  have hc : Tryz.prog.cellsOf 37 = 25 := by kernel_rfl
  match cs, hl with
  | [x0, x1, x2, x3, x4, x5, x6, x7, x8, x9, x10, x11, x12, x13, x14, x15, x16, x17, x18, x19, x20, x21, x22, x23, x24], _ =>
    obtain ⟨n0, y0, v0, e0, t0⟩ := trod_leaf 4 (show leafAt Tryz.prog 4 37 0 = some 5 by kernel_rfl) h (by simp) (by rw [hc]; simp)
    obtain rfl : x0 = v0 := Option.some.inj e0
    obtain ⟨a0, q0, _, b0⟩ := DataW.trod_int Tryz.underlying5 t0
    injection q0 with q0
    subst q0
    have r0 : 0 ≤ a0 ∧ a0 ≤ 255 := by simpa [Lit.wf, IntKind.min, IntKind.max, IntKind.signed, IntKind.bits] using b0
    obtain ⟨n1, y1, v1, e1, t1⟩ := trod_leaf 4 (show leafAt Tryz.prog 4 37 1 = some 5 by kernel_rfl) h (by simp) (by rw [hc]; simp)
    obtain rfl : x1 = v1 := Option.some.inj e1
    obtain ⟨a1, q1, _, b1⟩ := DataW.trod_int Tryz.underlying5 t1
    injection q1 with q1
    subst q1
    have r1 : 0 ≤ a1 ∧ a1 ≤ 255 := by simpa [Lit.wf, IntKind.min, IntKind.max, IntKind.signed, IntKind.bits] using b1
    obtain ⟨n2, y2, v2, e2, t2⟩ := trod_leaf 4 (show leafAt Tryz.prog 4 37 2 = some 5 by kernel_rfl) h (by simp) (by rw [hc]; simp)
    obtain rfl : x2 = v2 := Option.some.inj e2
    obtain ⟨a2, q2, _, b2⟩ := DataW.trod_int Tryz.underlying5 t2
    injection q2 with q2
    subst q2
    have r2 : 0 ≤ a2 ∧ a2 ≤ 255 := by simpa [Lit.wf, IntKind.min, IntKind.max, IntKind.signed, IntKind.bits] using b2
    obtain ⟨n3, y3, v3, e3, t3⟩ := trod_leaf 4 (show leafAt Tryz.prog 4 37 3 = some 5 by kernel_rfl) h (by simp) (by rw [hc]; simp)
    obtain rfl : x3 = v3 := Option.some.inj e3
    obtain ⟨a3, q3, _, b3⟩ := DataW.trod_int Tryz.underlying5 t3
    injection q3 with q3
    subst q3
    have r3 : 0 ≤ a3 ∧ a3 ≤ 255 := by simpa [Lit.wf, IntKind.min, IntKind.max, IntKind.signed, IntKind.bits] using b3
    obtain ⟨n4, y4, v4, e4, t4⟩ := trod_leaf 4 (show leafAt Tryz.prog 4 37 4 = some 22 by kernel_rfl) h (by simp) (by rw [hc]; simp)
    obtain rfl : x4 = v4 := Option.some.inj e4
    obtain ⟨a4, q4, _, b4⟩ := DataW.trod_int Tryz.underlying22 t4
    injection q4 with q4
    subst q4
    have r4 : 0 ≤ a4 ∧ a4 ≤ 4294967295 := by simpa [Lit.wf, IntKind.min, IntKind.max, IntKind.signed, IntKind.bits] using b4
    obtain ⟨n5, y5, v5, e5, t5⟩ := trod_leaf 4 (show leafAt Tryz.prog 4 37 5 = some 22 by kernel_rfl) h (by simp) (by rw [hc]; simp)
    obtain rfl : x5 = v5 := Option.some.inj e5
    obtain ⟨a5, q5, _, b5⟩ := DataW.trod_int Tryz.underlying22 t5
    injection q5 with q5
    subst q5
    have r5 : 0 ≤ a5 ∧ a5 ≤ 4294967295 := by simpa [Lit.wf, IntKind.min, IntKind.max, IntKind.signed, IntKind.bits] using b5
    obtain ⟨n6, y6, v6, e6, t6⟩ := trod_leaf 4 (show leafAt Tryz.prog 4 37 6 = some 5 by kernel_rfl) h (by simp) (by rw [hc]; simp)
    obtain rfl : x6 = v6 := Option.some.inj e6
    obtain ⟨a6, q6, _, b6⟩ := DataW.trod_int Tryz.underlying5 t6
    injection q6 with q6
    subst q6
    have r6 : 0 ≤ a6 ∧ a6 ≤ 255 := by simpa [Lit.wf, IntKind.min, IntKind.max, IntKind.signed, IntKind.bits] using b6
    obtain ⟨n7, y7, v7, e7, t7⟩ := trod_leaf 4 (show leafAt Tryz.prog 4 37 7 = some 22 by kernel_rfl) h (by simp) (by rw [hc]; simp)
    obtain rfl : x7 = v7 := Option.some.inj e7
    obtain ⟨a7, q7, _, b7⟩ := DataW.trod_int Tryz.underlying22 t7
    injection q7 with q7
    subst q7
    have r7 : 0 ≤ a7 ∧ a7 ≤ 4294967295 := by simpa [Lit.wf, IntKind.min, IntKind.max, IntKind.signed, IntKind.bits] using b7
    obtain ⟨n8, y8, v8, e8, t8⟩ := trod_leaf 4 (show leafAt Tryz.prog 4 37 8 = some 5 by kernel_rfl) h (by simp) (by rw [hc]; simp)
    obtain rfl : x8 = v8 := Option.some.inj e8
    obtain ⟨a8, q8, _, b8⟩ := DataW.trod_int Tryz.underlying5 t8
    injection q8 with q8
    subst q8
    have r8 : 0 ≤ a8 ∧ a8 ≤ 255 := by simpa [Lit.wf, IntKind.min, IntKind.max, IntKind.signed, IntKind.bits] using b8
    obtain ⟨n9, y9, v9, e9, t9⟩ := trod_leaf 4 (show leafAt Tryz.prog 4 37 9 = some 5 by kernel_rfl) h (by simp) (by rw [hc]; simp)
    obtain rfl : x9 = v9 := Option.some.inj e9
    obtain ⟨a9, q9, _, b9⟩ := DataW.trod_int Tryz.underlying5 t9
    injection q9 with q9
    subst q9
    have r9 : 0 ≤ a9 ∧ a9 ≤ 255 := by simpa [Lit.wf, IntKind.min, IntKind.max, IntKind.signed, IntKind.bits] using b9
    obtain ⟨n10, y10, v10, e10, t10⟩ := trod_leaf 4 (show leafAt Tryz.prog 4 37 10 = some 23 by kernel_rfl) h (by simp) (by rw [hc]; simp)
    obtain rfl : x10 = v10 := Option.some.inj e10
    obtain ⟨a10, q10, _, b10⟩ := DataW.trod_int Tryz.underlying23 t10
    injection q10 with q10
    subst q10
    have r10 : 0 ≤ a10 ∧ a10 ≤ 65535 := by simpa [Lit.wf, IntKind.min, IntKind.max, IntKind.signed, IntKind.bits] using b10
    obtain ⟨n11, y11, v11, e11, t11⟩ := trod_leaf 4 (show leafAt Tryz.prog 4 37 11 = some 28 by kernel_rfl) h (by simp) (by rw [hc]; simp)
    obtain rfl : x11 = v11 := Option.some.inj e11
    obtain ⟨a11, q11, _, b11⟩ := DataW.trod_int Tryz.underlying28 t11
    injection q11 with q11
    subst q11
    have r11 : 0 ≤ a11 ∧ a11 ≤ 18446744073709551615 := by simpa [Lit.wf, IntKind.min, IntKind.max, IntKind.signed, IntKind.bits] using b11
    obtain ⟨n12, y12, v12, e12, t12⟩ := trod_leaf 4 (show leafAt Tryz.prog 4 37 12 = some 5 by kernel_rfl) h (by simp) (by rw [hc]; simp)
    obtain rfl : x12 = v12 := Option.some.inj e12
    obtain ⟨a12, q12, _, b12⟩ := DataW.trod_int Tryz.underlying5 t12
    injection q12 with q12
    subst q12
    have r12 : 0 ≤ a12 ∧ a12 ≤ 255 := by simpa [Lit.wf, IntKind.min, IntKind.max, IntKind.signed, IntKind.bits] using b12
    obtain ⟨n13, y13, v13, e13, t13⟩ := trod_leaf 4 (show leafAt Tryz.prog 4 37 13 = some 5 by kernel_rfl) h (by simp) (by rw [hc]; simp)
    obtain rfl : x13 = v13 := Option.some.inj e13
    obtain ⟨a13, q13, _, b13⟩ := DataW.trod_int Tryz.underlying5 t13
    injection q13 with q13
    subst q13
    have r13 : 0 ≤ a13 ∧ a13 ≤ 255 := by simpa [Lit.wf, IntKind.min, IntKind.max, IntKind.signed, IntKind.bits] using b13
    obtain ⟨n14, y14, v14, e14, t14⟩ := trod_leaf 4 (show leafAt Tryz.prog 4 37 14 = some 22 by kernel_rfl) h (by simp) (by rw [hc]; simp)
    obtain rfl : x14 = v14 := Option.some.inj e14
    obtain ⟨a14, q14, _, b14⟩ := DataW.trod_int Tryz.underlying22 t14
    injection q14 with q14
    subst q14
    have r14 : 0 ≤ a14 ∧ a14 ≤ 4294967295 := by simpa [Lit.wf, IntKind.min, IntKind.max, IntKind.signed, IntKind.bits] using b14
    obtain ⟨n15, y15, v15, e15, t15⟩ := trod_leaf 4 (show leafAt Tryz.prog 4 37 15 = some 5 by kernel_rfl) h (by simp) (by rw [hc]; simp)
    obtain rfl : x15 = v15 := Option.some.inj e15
    obtain ⟨a15, q15, _, b15⟩ := DataW.trod_int Tryz.underlying5 t15
    injection q15 with q15
    subst q15
    have r15 : 0 ≤ a15 ∧ a15 ≤ 255 := by simpa [Lit.wf, IntKind.min, IntKind.max, IntKind.signed, IntKind.bits] using b15
    obtain ⟨n16, y16, v16, e16, t16⟩ := trod_leaf 4 (show leafAt Tryz.prog 4 37 16 = some 5 by kernel_rfl) h (by simp) (by rw [hc]; simp)
    obtain rfl : x16 = v16 := Option.some.inj e16
    obtain ⟨a16, q16, _, b16⟩ := DataW.trod_int Tryz.underlying5 t16
    injection q16 with q16
    subst q16
    have r16 : 0 ≤ a16 ∧ a16 ≤ 255 := by simpa [Lit.wf, IntKind.min, IntKind.max, IntKind.signed, IntKind.bits] using b16
    obtain ⟨n17, y17, v17, e17, t17⟩ := trod_leaf 4 (show leafAt Tryz.prog 4 37 17 = some 22 by kernel_rfl) h (by simp) (by rw [hc]; simp)
    obtain rfl : x17 = v17 := Option.some.inj e17
    obtain ⟨a17, q17, _, b17⟩ := DataW.trod_int Tryz.underlying22 t17
    injection q17 with q17
    subst q17
    have r17 : 0 ≤ a17 ∧ a17 ≤ 4294967295 := by simpa [Lit.wf, IntKind.min, IntKind.max, IntKind.signed, IntKind.bits] using b17
    obtain ⟨n18, y18, v18, e18, t18⟩ := trod_leaf 4 (show leafAt Tryz.prog 4 37 18 = some 22 by kernel_rfl) h (by simp) (by rw [hc]; simp)
    obtain rfl : x18 = v18 := Option.some.inj e18
    obtain ⟨a18, q18, _, b18⟩ := DataW.trod_int Tryz.underlying22 t18
    injection q18 with q18
    subst q18
    have r18 : 0 ≤ a18 ∧ a18 ≤ 4294967295 := by simpa [Lit.wf, IntKind.min, IntKind.max, IntKind.signed, IntKind.bits] using b18
    obtain ⟨n19, y19, v19, e19, t19⟩ := trod_leaf 4 (show leafAt Tryz.prog 4 37 19 = some 29 by kernel_rfl) h (by simp) (by rw [hc]; simp)
    obtain rfl : x19 = v19 := Option.some.inj e19
    obtain ⟨l19, R19, o19⟩ := open_row Mk.cells 2 Mk.ok Tryz.underlying29 (by kernel_rfl) (by decide) (fun _ _ _ h1 h2 => open_mk h1 h2) t19
    obtain ⟨s19, c19, rfl, R19⟩ := R19.split
    obtain ⟨n20, y20, v20, e20, t20⟩ := trod_leaf 4 (show leafAt Tryz.prog 4 37 20 = some 30 by kernel_rfl) h (by simp) (by rw [hc]; simp)
    obtain rfl : x20 = v20 := Option.some.inj e20
    obtain ⟨l20, R20, o20⟩ := open_row En.cells 7 En.ok Tryz.underlying30 (by kernel_rfl) (by decide) (fun _ _ _ h1 h2 => open_en h1 h2) t20
    obtain ⟨s20, c20, rfl, R20⟩ := R20.split
    obtain ⟨n21, y21, v21, e21, t21⟩ := trod_leaf 4 (show leafAt Tryz.prog 4 37 21 = some 30 by kernel_rfl) h (by simp) (by rw [hc]; simp)
    obtain rfl : x21 = v21 := Option.some.inj e21
    obtain ⟨l21, R21, o21⟩ := open_row En.cells 7 En.ok Tryz.underlying30 (by kernel_rfl) (by decide) (fun _ _ _ h1 h2 => open_en h1 h2) t21
    obtain ⟨s21, c21, rfl, R21⟩ := R21.split
    obtain ⟨n22, y22, v22, e22, t22⟩ := trod_leaf 4 (show leafAt Tryz.prog 4 37 22 = some 33 by kernel_rfl) h (by simp) (by rw [hc]; simp)
    obtain rfl : x22 = v22 := Option.some.inj e22
    obtain ⟨l22, R22, o22⟩ := open_row vcell 7 (fun x => VtU W x.1 x.2 ∧ x.1.ok ∧ x.2.ok) Tryz.underlying33 (by kernel_rfl) (by decide) (fun _ _ _ h1 h2 => by obtain ⟨v, c, e, h⟩ := open_vt h1 h2; exact ⟨(v, c), e, h⟩) t22
    obtain ⟨s22, c22, rfl, R22⟩ := R22.split
    obtain ⟨n23, y23, v23, e23, t23⟩ := trod_leaf 4 (show leafAt Tryz.prog 4 37 23 = some 34 by kernel_rfl) h (by simp) (by rw [hc]; simp)
    obtain rfl : x23 = v23 := Option.some.inj e23
    obtain ⟨l23, R23, o23⟩ := open_row (fun x => [Value.int .u64 x]) 1 (fun x => 0 ≤ x ∧ x ≤ 18446744073709551615) Tryz.underlying34 (by kernel_rfl) (by decide) (fun _ _ _ h1 h2 => open_u64 h1 h2) t23
    obtain ⟨s23, c23, rfl, R23⟩ := R23.split
    obtain ⟨n24, y24, v24, e24, t24⟩ := trod_leaf 4 (show leafAt Tryz.prog 4 37 24 = some 35 by kernel_rfl) h (by simp) (by rw [hc]; simp)
    obtain rfl : x24 = v24 := Option.some.inj e24
    obtain ⟨s24, l24, c24, rfl, R24, o24, p24, z24⟩ := open_bytes t24
    exact ⟨⟨⟨a0, a1, a2, a3, a4, a5, ⟨a6, a7, a8, a9, a10⟩, a11, a12, a13, a14⟩, ⟨a15, a16, a17, a18, ⟨s19, l19.length, c19⟩, ⟨s20, l20.length, c20⟩, ⟨s21, l21.length, c21⟩⟩, ⟨s22, l22.length, c22⟩, ⟨s23, l23.length, c23⟩, ⟨s24, l24.length, c24⟩⟩,
      ⟨⟨l19, l20, l21⟩, l22, l23, l24⟩, rfl, ⟨⟨R19, R20, R21⟩, R22, fun x hx => (o22 x hx).1, R23, rfl, R24, o24, p24, z24⟩,
      { k := r0, f := r1, t := r2, e := r3, ct := r12, pg := r13, vw := r4, sq := r5, rq := ⟨r6, r7, r8, r9, r10⟩, ro := r11, rs := r14, vt := ⟨⟨r15, r16, r17, r18⟩, o19, o20, o21⟩, vs := fun x hx => (o22 x hx).2, sm := o23 }⟩
set_option maxRecDepth 100000 in
theorem open_msg {H : Type} {enc : TypeId × Value → H} {W : World} {b0 : Nat} {v : Value} {d : DataW H} {p : List MemPlace} (hv : Value.okWide Tryz.prog W .any b0 37 v) (h : DataW.Trod enc Tryz.prog W 0 (fun _ => true) true 37 v d p) : ∃ (m : Mg) (c : Mc), v = .agg m.cells.toArray ∧ MgU W m c ∧ MgOk m c := by
  obtain ⟨cs, rfl, hsz⟩ := okWide_struct Tryz.underlying37 hv
  obtain ⟨fuel, hf⟩ := h
  obtain ⟨l⟩ := cs
  have c37 : Tryz.prog.cellsOf 37 = 25 := by kernel_rfl
  obtain ⟨m, c, e, h1, h2⟩ := open_mg (cs := l) (hsz.trans c37) (show DataW.trod enc Tryz.prog W 0 (fun _ => true) true fuel 37 l = some (d, p) from hf)
  exact ⟨m, c, by rw [e], h1, h2⟩
/-- one that is looked at lies as the others do -/
theorem MgU.at {w : World} {m : Mg} {c : Mc} (h : MgU w m c) (h1 : m.vs.n ≤ 6) (h2 : m.sm.n ≤ 12) (h3 : m.dt.n ≤ 200) (h4 : m.vt.few) (h5 : ∀ x ∈ c.vs.map Prod.fst, x.few) : MgAt w m c := by
  have e : ∀ {α : Type} {k : Nat} {enc : α → List Value} {s : Sl} {xs : List α}, RowU w k enc s.val xs → s.n = xs.length := fun h => by
    obtain ⟨ao, cap, e, _⟩ := h
    injection e
  have e1 := e h.vs
  have e2 := e h.sm
  have e3 := h.dn
  exact ⟨h.vt.at h4, ⟨h.vs.row (by omega), fun x hx => (h.vl x hx).at (h5 _ (List.mem_map_of_mem hx))⟩, h.sm.row (by omega), h.dn, h.db, h.dz, h.dc, by omega, h.dy⟩
theorem MgU.votes {w : World} {m : Mg} {c : Mc} (h : MgU w m c) : RowU w 7 Vt.cells m.vs.val (c.vs.map Prod.fst) := by
  obtain ⟨ao, cap, e, h1, h2, h3, h4⟩ := h.vs
  refine ⟨ao, cap, by rw [List.length_map]; exact e, h1, by rw [List.length_map]; exact h2, h3, fun j x hj => ?_⟩
  rw [List.getElem?_map] at hj
  cases hx : c.vs[j]? with
  | none => rw [hx] at hj; cases hj
  | some y =>
    rw [hx] at hj
    injection hj with hj
    subst hj
    exact h4 j y hx
theorem MgOk.mc {m : Mg} {c : Mc} (h : MgOk m c) : McOk c :=
  ⟨⟨fun x hx => (h.vt.2.2.1 x hx).2.2, fun x hx => (h.vt.2.2.2 x hx).2.2⟩, fun x hx => ⟨fun y hy => ((h.vs x hx).2.2.1 y hy).2.2, fun y hy => ((h.vs x hx).2.2.2 y hy).2.2⟩⟩
end Go.Proofs.YtbpfkeeikhhlnaaGreatDoor
namespace Go.Proofs.YtbpfkeeikhhlnaaGreatDoor
open Go.RowKit
set_option maxRecDepth 100000
def bytesM (m : Mg) (c : Mc) : List Int := if isM m c then encM m c else []
def errM (m : Mg) (c : Mc) : Int := if isM m c then 0 else 30
def EncE (w : World) (m : Mg) (c : Mc) (e : Ending) (w' : World) : Prop := ∃ ao z, e = .returned (.tuple #[.slice ao (bytesM m c).length z, .int .i64 (errM m c)]) ∧ (Bytes w' ao (bytesM m c) ∧ (ao = none → bytesM m c = [])) ∧ Below w.heap.size w w'
theorem encE {w w' : World} {m : Mg} {c : Mc} {e : Ending} (h : ((isM m c = false ∧ e = .returned (.tuple #[.slice none 0 0, .int .i64 30])) ∨ (isM m c = true ∧ ∃ ao k, e = .returned (.tuple #[.slice ao (encM m c).length k, .int .i64 0]) ∧ New w.heap.size w' ao k (encM m c))) ∧ Below w.heap.size w w') : EncE w m c e w' := by
  obtain ⟨⟨hi, rfl⟩ | ⟨hi, ao, k, rfl, hn⟩, hb⟩ := h
  · have e1 : bytesM m c = [] := by unfold bytesM; rw [hi]; rfl
    have e2 : errM m c = 30 := by unfold errM; rw [hi]; rfl
    refine ⟨none, 0, ?_, ?_, hb⟩
    · rw [e1, e2]; rfl
    · rw [e1]; exact ⟨fun i hx => absurd hx (by simp), fun _ => rfl⟩
  · have e1 : bytesM m c = encM m c := by unfold bytesM; rw [hi]; rfl
    have e2 : errM m c = 0 := by unfold errM; rw [hi]; rfl
    refine ⟨ao, k, ?_, ?_, hb⟩
    · rw [e1, e2]
    · rw [e1]; exact ⟨own_bytes hn.1, fun h => (hn.none h).1⟩
theorem encA (w : World) (m : Mg) (c : Mc) (hm : MgAt w m c) (hok : MgOk m c) (ht : Tab w) : Calls Tryz.prog 8 #[.agg m.cells.toArray] w (EncE w m c) :=
  Calls.mono (enc_ok w m c hm hok.mc ht) fun _ _ h => encE h
theorem MgOk.p1 {m : Mg} {c : Mc} (h : MgOk m c) : ∀ x ∈ c.vs, (∀ y ∈ x.2.p, 0 ≤ y.s ∧ y.rq.ok) ∧ ∀ y ∈ x.2.q, 0 ≤ y.s ∧ y.rq.ok :=
  fun x hx => ⟨fun y hy => ⟨((h.vs x hx).2.2.1 y hy).1.1, ((h.vs x hx).2.2.1 y hy).2.2⟩, fun y hy => ⟨((h.vs x hx).2.2.2 y hy).1.1, ((h.vs x hx).2.2.2 y hy).2.2⟩⟩
theorem VcOkR {c : Vc} (h : c.ok) : (∀ y ∈ c.p, 0 ≤ y.s ∧ y.rq.ok) ∧ ∀ y ∈ c.q, 0 ≤ y.s ∧ y.rq.ok :=
  ⟨fun y hy => ⟨(h.2.1 y hy).1.1, (h.2.1 y hy).2.2⟩, fun y hy => ⟨(h.2.2 y hy).1.1, (h.2.2 y hy).2.2⟩⟩
theorem VtR.of {v : Vt} {c : Vc} (hv : v.ok) (hc : c.ok) : VtR v c :=
  ⟨hv.2.2.1, hv.2.2.2, fun x hx => hc.1 x hx, fun x hx => hc.2.1 x hx, fun x hx => hc.2.2 x hx⟩
theorem byteR {x : Int} (h : isByte x) : 0 ≤ x ∧ x ≤ 255 := by unfold isByte at h; omega
theorem encD (w : World) (m : Mg) (c : Mc) (hm : MgAt w m c) (hok : MgOk m c) : Calls Tryz.prog 9 #[.agg m.cells.toArray] w (EncE w m c) :=
  Calls.mono (refEncode_any w m c hm hok.p1 (VcOkR hok.vt.2) (byteR hok.f) (byteR hok.t) ⟨hok.vw, hok.sq, hok.rs, hok.rq, VtR.of hok.vt.1 hok.vt.2, fun x hx => VtR.of (hok.vs x hx).1 (hok.vs x hx).2, hok.sm⟩) fun _ _ h => encE h
theorem isD (w : World) (m : Mg) (c : Mc) (hm : MgAt w m c) (hok : MgOk m c) : Calls Tryz.prog 11 #[.agg m.cells.toArray] w fun e w' => e = .returned (.bool (isM m c)) ∧ Below w.heap.size w w' :=
  refIs_any w m c hm hok.p1 (VcOkR hok.vt.2) (byteR hok.f) (byteR hok.t)
theorem RowU.below {α : Type} {w w' : World} {k : Nat} {enc : α → List Value} {v : Value} {xs : List α} (h : RowU w k enc v xs) (hb : Below w.heap.size w w') : RowU w' k enc v xs := by
  obtain ⟨ao, cap, rfl, h1, h2, h3, h4⟩ := h
  refine ⟨ao, cap, rfl, h1, h2, h3, fun j x hj => ?_⟩
  obtain ⟨b, off, e, hc⟩ := h4 j x hj
  refine ⟨b, off, e, fun i u hu => ?_⟩
  have := hc i u hu
  rw [hb.cell (cell_block this)]; exact this
end Go.Proofs.YtbpfkeeikhhlnaaGreatDoor
