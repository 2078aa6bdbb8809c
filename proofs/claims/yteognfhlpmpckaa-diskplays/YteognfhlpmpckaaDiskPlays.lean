/- For every row of steps the law DiskPlays returns true: writes, some of which the power cuts off, and both areas behind each. No condition. -/
import Derived.Test.YteognfhlpmpckaaRows
import Derived.Test.YteognfhlpmpckaaKnown
import Derived.Test.YteognfhlpmpckaaOpen
import Derived.Test.YteognfhlpmpckaaHeld
import Derived.WalkKit
import Derived.ProofKit
import Derived.OpenShut
import Derived.ShutString
import Derived.ChangeOld
import Derived.Below
import Derived.Lib.Hide
import Derived.Deep.CutRange
namespace Go.Proofs.Yteognfhlpmpckaa.diskPlays
open Go.ChangeShapes Go.WideShapes Go.ChangeAt Go.RowKit
set_option maxRecDepth 100000

theorem own : ownKnob Try.prog.godebug = none := by kernel_rfl
theorem laidOut : laidOutB Try.prog = true := by kernel_rfl

/-- a step: what, an area, a number, bytes -/
structure St where
  what : Int
  area : Int
  n : Int
  p : Option Addr
  l : List Int
  c : Nat
instance : Inhabited St := ⟨⟨0, 0, 0, none, [], 0⟩⟩
def St.cells (x : St) : List Value := [.int .i64 x.what, .int .i64 x.area, .int .i64 x.n, .slice x.p x.l.length x.c]
def i64r (x : Int) : Prop := -9223372036854775808 ≤ x ∧ x ≤ 9223372036854775807
structure St.ok (w : World) (x : St) : Prop where
  what : i64r x.what
  area : i64r x.area
  n : i64r x.n
  bytes : Bytes w x.p x.l
  fits : x.l.length ≤ x.c
  none : x.p = none → x.c = 0

theorem open_st {H : Type} {enc : TypeId × Value → H} {W : World} {n : Nat} {cs : List Value} {y : DataW H × List MemPlace} (hl : cs.length = 4) (h : DataW.trod enc Try.prog W 0 (fun _ => true) true n 29 cs = some y) : ∃ x : St, cs = x.cells ∧ x.ok W := by
  have hc : Try.prog.cellsOf 29 = 4 := by kernel_rfl
  match cs, hl with
  | [x0, x1, x2, x3], _ =>
    obtain ⟨n0, y0, v0, e0, t0⟩ := trod_leaf 4 (show leafAt Try.prog 4 29 0 = some 3 by kernel_rfl) h (by simp) (by rw [hc]; simp)
    obtain rfl : x0 = v0 := Option.some.inj e0
    obtain ⟨a0, q0, _, b0⟩ := DataW.trod_int Try.underlying3 t0
    injection q0 with q0
    subst q0
    obtain ⟨n1, y1, v1, e1, t1⟩ := trod_leaf 4 (show leafAt Try.prog 4 29 1 = some 3 by kernel_rfl) h (by simp) (by rw [hc]; simp)
    obtain rfl : x1 = v1 := Option.some.inj e1
    obtain ⟨a1, q1, _, b1⟩ := DataW.trod_int Try.underlying3 t1
    injection q1 with q1
    subst q1
    obtain ⟨n2, y2, v2, e2, t2⟩ := trod_leaf 4 (show leafAt Try.prog 4 29 2 = some 3 by kernel_rfl) h (by simp) (by rw [hc]; simp)
    obtain rfl : x2 = v2 := Option.some.inj e2
    obtain ⟨a2, q2, _, b2⟩ := DataW.trod_int Try.underlying3 t2
    injection q2 with q2
    subst q2
    obtain ⟨n3, y3, v3, e3, t3⟩ := trod_leaf 4 (show leafAt Try.prog 4 29 3 = some 27 by kernel_rfl) h (by simp) (by rw [hc]; simp)
    obtain rfl : x3 = v3 := Option.some.inj e3
    obtain ⟨p, l, c, rfl, hb, _, hf, hn⟩ := open_bytes t3
    exact ⟨⟨a0, a1, a2, p, l, c⟩, rfl, by simpa [i64r, Lit.wf, IntKind.min, IntKind.max, IntKind.signed, IntKind.bits] using b0, by simpa [i64r, Lit.wf, IntKind.min, IntKind.max, IntKind.signed, IntKind.bits] using b1, by simpa [i64r, Lit.wf, IntKind.min, IntKind.max, IntKind.signed, IntKind.bits] using b2, hb, hf, hn⟩

theorem open_steps {H : Type} {enc : TypeId × Value → H} {W : World} {n : Nat} {v : Value} {y : DataW H × List MemPlace} (h : DataW.trod enc Try.prog W 0 (fun _ => true) true n 22 [v] = some y) : ∃ xs : List St, RowU W 4 St.cells v xs ∧ ∀ x ∈ xs, x.ok W :=
  open_row St.cells 4 (fun x => x.ok W) Try.underlying22 (by kernel_rfl) (by decide) (fun _ _ _ h1 h2 => open_st h1 h2) h

/-- what holds between the calls: the disk at B holds d, the document's areas at C the same; z is below nought just where it isn't armed -/
structure Inv (w wr : World) (B C : Nat) (d : Dk) (z : Int) : Prop where
  at_ : At wr B d
  ar : wr.heap[C]? = some (.cells #[.string (strOfNums d.a0), .string (strOfNums d.a1)] 26 (0, 0))
  k : Kept (fun _ => False) w wr
  hB : w.heap.size ≤ B
  hC : w.heap.size ≤ C
  ne : B ≠ C
  zd : decide (0 ≤ z) = d.armed
  zn : d.armed = true → z = d.n
  zr : i64r z

theorem Inv.up {w wr w' : World} {B C : Nat} {d : Dk} {z : Int} (h : Inv w wr B C d z) (k : Kept (fun _ => False) wr w') : Inv w w' B C d z :=
  ⟨h.at_.kept k (fun _ _ h => h), (k.block C (lt_of_block h.ar) (fun h => h)).trans h.ar, h.k.trans k (fun _ _ h => h), h.hB, h.hC, h.ne, h.zd, h.zn, h.zr⟩

/-- ahead of Write: the document's areas are those of d' already -/
structure Mid (w wx : World) (B C g : Nat) (d d' : Dk) (z : Int) (G : Array Value) : Prop where
  at_ : At wx B d
  ar : wx.heap[C]? = some (.cells #[.string (strOfNums d'.a0), .string (strOfNums d'.a1)] 26 (0, 0))
  gc : wx.heap[g]? = some (.cells G 29 (0, 0))
  k : Kept (fun _ => False) w wx
  hB : w.heap.size ≤ B
  hC : w.heap.size ≤ C
  ne : B ≠ C
  gB : g ≠ B
  gC : g ≠ C
  gw : w.heap.size ≤ g
  zd : decide (0 ≤ z) = d'.armed
  zn : d'.armed = true → z = d'.n
  zr : i64r z

theorem Inv.arm {w wr w' : World} {B C : Nat} {d : Dk} {z : Int} {x : Int} (h : Inv w wr B C d z) (a : At w' B (d.arm x)) (k : Kept (fun k => k = B) wr w') (hx : i64r x) : Inv w w' B C (d.arm x) (max x 0) :=
  ⟨a, (k.block C (lt_of_block h.ar) (fun e => h.ne e.symm)).trans h.ar, h.k.up k h.hB, h.hB, h.hC, h.ne, by show decide (0 ≤ max x 0) = true; rw [decide_eq_true_eq]; omega, fun _ => rfl, by unfold i64r at *; omega⟩

theorem Inv.mid {w wr : World} {B C g : Nat} {d : Dk} {z : Int} {G : Array Value} (h : Inv w wr B C d z) (hg : wr.heap[g]? = some (.cells G 29 (0, 0))) (n : g ≠ B ∧ g ≠ C ∧ w.heap.size ≤ g) : Mid w wr B C g d d z G :=
  ⟨h.at_, h.ar, hg, h.k, h.hB, h.hC, h.ne, n.1, n.2.1, n.2.2, h.zd, h.zn, h.zr⟩

theorem cell_of {w : World} {g : Nat} {cs : Array Value} {T : TypeId} {v : Value} {i : Nat} (h : w.heap[g]? = some (.cells cs T (0, 0))) (hv : cs[i]? = some v) : w.cell? ⟨g, i, none⟩ = some v := by
  simp [World.cell?, h, hv]
theorem frozen_of {w : World} {g : Nat} {cs : Array Value} {T : TypeId} {i : Nat} (h : w.heap[g]? = some (.cells cs T (0, 0))) : w.frozen? ⟨g, i, none⟩ = false := by
  simp [World.frozen?, h]

theorem bytes_not {w : World} {ad : Addr} {l : List Int} {C : Nat} {s0 s1 : ByteArray} {T : TypeId} (h : Bytes w (some ad) l) (hl : 0 < l.length) (hc : w.heap[C]? = some (.cells #[.string s0, .string s1] T (0, 0))) : ad.block ≠ C := by
  intro hbb
  obtain ⟨ad', e', hx⟩ := h 0 hl
  injection e' with e'; subst e'
  have hab := add_block ad 0
  unfold World.cell? at hx
  rw [hab, hbb, hc] at hx
  simp only [] at hx
  split at hx
  · cases hx
  · rcases hq : (ad.add 0).off with _ | _ | j
    all_goals (rw [hq] at hx; simp at hx)

theorem at_keptC {w w' : World} {B C : Nat} {d : Dk} {s0 s1 : ByteArray} (h : At w B d) (hc : w.heap[C]? = some (.cells #[.string s0, .string s1] 26 (0, 0))) (ne : B ≠ C) (k : Kept (fun k => k = C) w w') : At w' B d := by
  obtain ⟨p0, c0, p1, c1, hb, l0, l1, ok⟩ := h
  have L : ∀ {p c l}, Lies w B p c l → Lies w' B p c l := fun {p c l} h => ⟨bytes_kept h.bytes k (fun ad e hl hs => by subst e; exact bytes_not h.bytes hl hc hs), h.none, h.fits, h.apart⟩
  exact ⟨p0, c0, p1, c1, (k.block B (lt_of_block hb) ne).trans hb, L l0, L l1, ok⟩

/-- append onto nothing -/
theorem wp_app {o : Oper} {a : Act} {K : Act → World → Prop} {Q : Exit → Act → World → Prop} (w : World) (s x : Operand)
    (ho : o.op = .call { callee := .builtin .append, args := #[s, x], argTypes := #[27, 27] }) (hs : a.eval s = .slice none 0 0)
    (ao : Option Addr) (m c : Nat) (news : List Int) (hx : a.eval x = .slice ao m c) (hl : news.length = m) (hb : Bytes w ao news) (hnone : ao = none → m = 0 ∧ c = 0) (hbig : m ≤ 10000000)
    (hK : ∀ ao' cap' w', Bytes w' ao' news → m ≤ cap' → Kept (fun _ => False) w w' → K (a.put o.dst (.slice ao' m cap')) w') : Oper.wp Try.prog o a w K Q := by
  have hown : w.ownsRow 0 5 1 (.slice none 0 0) 0 (vals []) := ⟨rfl, .inl ⟨rfl, rfl⟩⟩
  obtain ⟨i0, hi0, hz0, hz1, hz2⟩ := info_parts byte_info
  cases ao with
  | none =>
    obtain ⟨rfl, rfl⟩ := hnone rfl
    obtain rfl : news = [] := List.eq_nil_of_length_eq_zero hl
    have hrun := run_append_owned_none (P := Try.prog) (w := w) 0 27 o.type 5 i0 1 Try.underlying27 hi0 (.slice none 0 0) 0 (vals []) hown
    unfold Oper.wp
    simp [execOp, ho, resolve, invoke, builtin, hs, hx, hrun, Result.andThen]
    exact hK _ _ w hb (Nat.le_refl _) (Kept.refl _ _)
  | some ad =>
    obtain ⟨v', w', hrun, h2, h3, _, h5⟩ := run_append_own_at (P := Try.prog) w 0 27 o.type 5 i0 _ 1 1 Try.underlying27 hi0 hz0 hz1 hz2 rfl (by omega) (.slice none 0 0) 0 (vals []) hown ad m c (vals news) (by simp [vals, hl]) (by
      intro j u hu
      obtain ⟨hj, rfl⟩ := List.getElem?_eq_some_iff.1 hu
      simp only [vals, List.length_map] at hj
      obtain ⟨ad', e1, e2⟩ := hb j hj
      injection e1 with e1; subst e1
      rw [e2]; simp [vals, List.getElem?_eq_getElem hj]) (vals_one news) (by simp only [maxLen]; omega) (by omega) (Nat.zero_le _)
    have hv : vals [] ++ vals news = vals news := by simp [vals]
    rw [hv] at h2
    obtain ⟨ao', cap', rfl, _⟩ := own_form h2
    have hcap : m ≤ cap' := by
      rcases h2.2 with ⟨h, hn⟩ | ⟨g', cap, cur, hv', _, _, hle, _⟩
      · omega
      · injection hv' with _ _ e3; omega
    unfold Oper.wp
    simp [execOp, ho, resolve, invoke, builtin, hs, hx, hrun, Result.andThen]
    have hb' : Bytes w' ao' news := own_bytes (n := 0 + m) (cap := cap') (by simpa using h2)
    refine hK ao' cap' w' hb' hcap ((Kept.ofGrown h3).mono (fun i _ h => ?_))
    simp [Value.ownBlock] at h

theorem Mid.up {w wx w' : World} {B C g : Nat} {d d' : Dk} {z : Int} {G : Array Value} (h : Mid w wx B C g d d' z G) (k : Kept (fun _ => False) wx w') : Mid w w' B C g d d' z G :=
  ⟨h.at_.kept k (fun _ _ h => h), (k.block C (lt_of_block h.ar) (fun h => h)).trans h.ar, (k.block g (lt_of_block h.gc) (fun h => h)).trans h.gc, h.k.trans k (fun _ _ h => h), h.hB, h.hC, h.ne, h.gB, h.gC, h.gw, h.zd, h.zn, h.zr⟩

/-- Write, and all is as before a step -/
theorem Mid.inv {w wx w' : World} {B C g : Nat} {d d' : Dk} {z : Int} {G : Array Value} (h : Mid w wx B C g d d' z G) (a : At w' B d') (k : Kept (fun k => k = B) wx w') : Inv w w' B C d' z :=
  ⟨a, (k.block C (lt_of_block h.ar) (fun e => h.ne e.symm)).trans h.ar, h.k.up k h.hB, h.hB, h.hC, h.ne, h.zd, h.zn, h.zr⟩

/-- one of the document's areas is laid -/
theorem Mid.lay {w wx : World} {B C g : Nat} {d d1 d2 : Dk} {z z2 : Int} {G : Array Value} (h : Mid w wx B C g d d1 z G) (x : Nat) (s : ByteArray) (hs : (#[Value.string (strOfNums d1.a0), Value.string (strOfNums d1.a1)] : Array Value).setIfInBounds x (.string s) = #[.string (strOfNums d2.a0), .string (strOfNums d2.a1)])
    (hz : decide (0 ≤ z2) = d2.armed) (hn : d2.armed = true → z2 = d2.n) (hr : i64r z2) : Mid w (wx.setCell ⟨C, x, none⟩ (.string s)) B C g d d2 z2 G := by
  have k : Kept (fun k => k = C) wx (wx.setCell ⟨C, x, none⟩ (.string s)) := (Kept.refl _ wx).setCell _ _ (fun _ => rfl)
  refine ⟨at_keptC h.at_ h.ar h.ne k, ?_, (k.block g (lt_of_block h.gc) h.gC).trans h.gc, h.k.up k h.hC, h.hB, h.hC, h.ne, h.gB, h.gC, h.gw, hz, hn, hr⟩
  rw [heap_setCell_same _ _ _ _ _ _ h.ar, hs]

theorem wr_no {d : Dk} {x : Int} {l : List Int} (hx : hasB x = false) : d.write x l = d ∧ d.err x l = 61 := by
  unfold Dk.write Dk.err
  rw [hx]
  exact ⟨rfl, rfl⟩
theorem err_ok {d : Dk} {x : Int} {l : List Int} (hx : hasB x = true) (hl : l.length ≤ 40040) (ha : d.armed = false) : d.err x l = 0 := by unfold Dk.err; rw [if_pos hx, if_neg (by omega), ha]; rfl
theorem err_pw {d : Dk} {x : Int} {l : List Int} (hx : hasB x = true) (hl : l.length ≤ 40040) (ha : d.armed = true) : d.err x l = 70 := by unfold Dk.err; rw [if_pos hx, if_neg (by omega), ha]; rfl
theorem wr_ok {d : Dk} {x : Int} {l : List Int} (hx : hasB x = true) (hl : l.length ≤ 40040) (ha : d.armed = false) : d.write x l = d.put x l := by unfold Dk.write; rw [if_pos hx, if_neg (by omega), ha]; rfl
theorem wr_pw {d : Dk} {x : Int} {l : List Int} (hx : hasB x = true) (hl : l.length ≤ 40040) (ha : d.armed = true) : d.write x l = d.put x (l.take d.n.toNat) := by unfold Dk.write; rw [if_pos hx, if_neg (by omega), ha]; rfl

theorem str_take {w : World} {ao : Option Addr} {c k : Nat} {l : List Int} (h : Bytes w ao l) (hk : k ≤ l.length) (hn : ao = none → l = []) : (convert 27 9 (.slice ao k c)).run Try.prog w = .ok (.string (strOfNums (l.take k))) w := by
  have e : (l.take k).length = k := by simp; omega
  have h2 : Bytes w ao (l.take k) := by
    intro i hi
    rw [e] at hi
    obtain ⟨ad, e1, e2⟩ := h i (by omega)
    exact ⟨ad, e1, by rw [e2]; simp [hi]⟩
  have h3 := str_bytes (c := c) h2 (fun hx => by rw [hn hx]; simp)
  rw [e] at h3
  exact h3

set_option maxHeartbeats 4000000 in
theorem core (l : List St) (a : Option Addr) (cap : Nat) (w : World) (hr : RowU w 4 St.cells (.slice a l.length cap) l) (hok : ∀ x ∈ l, x.ok w) (hl : l.length ≤ 40) :
    Calls Try.prog 3 #[.slice a l.length cap] w fun e w' => e = .returned (.bool true) ∧ Below w.heap.size w w' := by
  have HR := Lib.hid hr
  have HO := Lib.hid hok
  clear hr hok
  generalize hm : l.length = m at *
  have HM := Lib.hid hm
  clear hm
  go_enter Try.func3, Try.ntmps3
  go_wp2_with fail
  refine (known_any w).mono ?_
  rintro e w1 ⟨rfl, k1⟩
  obtain ⟨B, hB⟩ : ∃ B, w1.heap.size = B := ⟨_, rfl⟩
  have HB := Lib.hid (show w.heap.size ≤ B by rw [← hB]; exact k1.size)
  go_wp2_with fail
  refine (new_any w1).mono ?_
  rintro e w2 ⟨rfl, h2, k2⟩
  rw [hB] at h2 ⊢
  have H2 := Lib.hid h2
  have K2 := Lib.hid (k1.trans k2 (fun _ _ h => h))
  clear h2 k2 k1 hB
  have hm0 : decide (40 < (m : Int)) = false := by rw [decide_eq_false_iff_not]; omega
  go_wp2_with fail
  obtain ⟨C, hC⟩ : ∃ C, C = w2.heap.size := ⟨_, rfl⟩
  obtain ⟨w3, hw3⟩ : ∃ w3, w3 = w2.alloc (.cells #[.string ⟨#[]⟩, .string ⟨#[]⟩] 26) := ⟨_, rfl⟩
  have k3 : Kept (fun _ => False) w2 w3 := by rw [hw3]; exact (Kept.refl _ w2).alloc _
  have I3 : Hid (Inv w w3 B C Dk.new (-1)) := Lib.hid ⟨H2.out.kept k3 (fun _ _ h => h), by rw [hw3, hC]; exact heap_alloc_new _ _, K2.out.trans k3 (fun _ _ h => h), HB.out, by rw [hC]; exact K2.out.size, by have := H2.out.lt; omega, by decide, (fun h => by cases h), by unfold i64r; omega⟩
  rw [← hC, ← hw3]
  clear hw3 k3 hC H2 K2 HB
  go_loopw [5, 6] (fun z5 vi wr => ∃ (i : Nat) (d : Dk) (z : Int), i ≤ m ∧ vi = .int .i64 i ∧ z5 = .int .i64 z ∧ Hid (Inv w wr B C d z)) (fun _ i _ => m - (intOf i).toNat)
  case atStart => exact ⟨0, _, _, by omega, rfl, rfl, I3⟩
  case round =>
    obtain ⟨i, d, z, hi, rfl, rfl, HI⟩ := hrel
    clear I3
    by_cases hlt : i < m
    · obtain ⟨x, hxe⟩ : ∃ x, l[i]? = some x := ⟨_, List.getElem?_eq_getElem (by rw [HM.out]; exact hlt)⟩
      have hxo := HO.out x (List.mem_of_getElem? hxe)
      obtain ⟨b, off, rfl, hx⟩ : ∃ b off, a = some ⟨b, off, none⟩ ∧ ∀ j u, (St.cells x)[j]? = some u → w.cell? ⟨b, off + i * 4 + j, none⟩ = some u := by
        obtain ⟨ao, c, e, _, _, _, h⟩ := HR.out
        injection e with e1 _ _
        subst e1
        exact h i x hxe
      have kk := HI.out.k
      have st : ∀ {ad v}, w.cell? ad = some v → wr.cell? ad = some v := fun h => by rw [← h]; exact World.cell?_of_block (kk.block _ (cell_block h) (fun h => h))
      have q0 : wr.cell? ⟨b, off + i * 4, none⟩ = _ := st (hx 0 _ rfl)
      have q1 := st (hx 1 _ rfl)
      have q2 := st (hx 2 _ rfl)
      have q3 := st (hx 3 _ rfl)
      have HXO := Lib.hid hxo
      obtain ⟨what, area, sn, sp, sl, sc⟩ := x
      simp only at q0 q1 q2 q3
      clear hx hxe hxo kk st
      obtain ⟨g, hg⟩ : ∃ g, g = wr.heap.size := ⟨_, rfl⟩
      obtain ⟨W, hW⟩ : ∃ W, W = wr.alloc (.cells #[.int .i64 what, .int .i64 area, .int .i64 sn, .slice sp sl.length sc] 29) := ⟨_, rfl⟩
      have kW : Kept (fun _ => False) wr W := by rw [hW]; exact (Kept.refl _ wr).alloc _
      have IW : Hid (Inv w W B C d z) := Lib.hid (HI.out.up kW)
      have hG : W.heap[g]? = some (.cells #[.int .i64 what, .int .i64 area, .int .i64 sn, .slice sp sl.length sc] 29 (0, 0)) := by rw [hW, hg]; exact heap_alloc_new _ _
      have hgB : g ≠ B := by have := HI.out.at_.lt; omega
      have hgC : g ≠ C := by have := lt_of_block HI.out.ar; omega
      have hgw : w.heap.size ≤ g := by rw [hg]; exact HI.out.k.size
      have NE := Lib.hid (And.intro hgB (And.intro hgC hgw))
      have HG := Lib.hid hG
      have EG := Lib.hid hg
      have EW := Lib.hid hW
      clear hG hgB hgC hgw hg hW kW HI
      generalize hsl : sl.length = sm at *
      have HSL := Lib.hid hsl
      clear hsl
      go_upto_region 12 with fail
      rw [← EG.out, ← EW.out]
      clear EG EW q0 q1 q2 q3
      have c0 : W.cell? ⟨g, 0, none⟩ = some (.int .i64 what) := cell_of HG.out (i := 0) rfl
      have c1 : W.cell? ⟨g, 1, none⟩ = some (.int .i64 area) := cell_of HG.out (i := 1) rfl
      have c2 : W.cell? ⟨g, 2, none⟩ = some (.int .i64 sn) := cell_of HG.out (i := 2) rfl
      have c3 : W.cell? ⟨g, 3, none⟩ = some (.slice sp sm sc) := cell_of HG.out (i := 3) rfl
      by_cases h3 : sm ≤ 300
      · have hm3 : decide (300 < (sm : Int)) = false := by rw [decide_eq_false_iff_not]; omega
        go_upto_if 31 with fail
        go_cut [5, 8] from 15 to 102 (fun s5 s8 wx => ∃ d' z', s5 = .int .i64 z' ∧ Hid (Inv w wx B C d' z'))
        case first =>
          by_cases hw2 : 2 < what
          · have hd2 : decide (2 < what) = true := decide_eq_true hw2
            clear hw2
            rw [hd2]
            have hxn := HXO.out.n
            have HXN := Lib.hid hxn
            have A := Lib.hid (arm_any W B d sn IW.out.at_ hxn.2)
            by_cases hs0 : 0 ≤ sn
            · have em : max sn 0 = sn := max_pos sn hs0
              go_wp2_with fail
              refine A.out.mono ?_
              rintro e w4 ⟨rfl, h4, k4⟩
              have I4 := Lib.hid (IW.out.arm h4 k4 HXN.out)
              have c2' : w4.cell? ⟨g, 2, none⟩ = some (.int .i64 sn) := by rw [← c2]; exact World.cell?_of_block (k4.block g (cell_block c2) (fun e => NE.out.1 e))
              clear h4 k4 A IW c0 c1 c2 c3
              go_wp2_with fail
              go_meet
              exact ⟨_, _, by rw [em], I4⟩
            · have em : max sn 0 = 0 := max_neg sn (by omega)
              go_wp2_with fail
              refine A.out.mono ?_
              rintro e w4 ⟨rfl, h4, k4⟩
              have I4 := Lib.hid (IW.out.arm h4 k4 HXN.out)
              have c2' : w4.cell? ⟨g, 2, none⟩ = some (.int .i64 sn) := by rw [← c2]; exact World.cell?_of_block (k4.block g (cell_block c2) (fun e => NE.out.1 e))
              clear h4 k4 A IW c0 c1 c2 c3
              go_wp2_with fail
              go_meet
              exact ⟨_, _, by rw [em], I4⟩
          · have hd2 : decide (2 < what) = false := decide_eq_false hw2
            clear hw2
            rw [hd2]
            have hno : sp = none → sm = 0 ∧ sc = 0 := fun h => by have h1 := HXO.out.none h; have h2 := HXO.out.fits; have h3 := HSL.out; simp only at h1 h2; omega
            have hnl : sp = none → sl = [] := fun h => List.eq_nil_of_length_eq_zero (by have h1 := hno h; have h3 := HSL.out; omega)
            have HNO := Lib.hid hno
            have HNL := Lib.hid hnl
            have HFI := Lib.hid (show sm ≤ sc by have h2 := HXO.out.fits; have h3 := HSL.out; simp only at h2; omega)
            have hsa := fun w' (h : Kept (fun _ => False) w w') => str_take (c := sc) (k := sm) (bytes_kept HXO.out.bytes h (fun _ _ _ h => h)) (by have := HSL.out; simp only; omega) hnl
            simp only at hsa
            rw [show sl.take sm = sl by rw [← HSL.out]; exact List.take_length] at hsa
            have SA := Lib.hid hsa
            clear hno hnl hsa
            go_upto_region 18 with fail
            go_cut [46] from 15 to 102 (fun s46 wx => s46 = .bool (decide (area < 0) || decide (1 < area)) ∧ wx = W)
            case first =>
              by_cases hx1 : area < 0
              · go_wp2_with fail
                go_meet
                exact ⟨by rw [decide_eq_true hx1]; rfl, rfl⟩
              · go_wp2_with fail
                go_meet
                exact ⟨by rw [decide_eq_false (show ¬ area < 0 by omega)]; rfl, rfl⟩
            case rest =>
            obtain ⟨rfl, hwc⟩ := hcut
            have hwc2 := hwc.symm
            clear hwc
            subst hwc2
            go_upto_if 46 with fail
            go_cut [5, 8] from 15 to 102 (fun s5 s8 wx => ∃ z', s5 = .int .i64 z' ∧ s8 = .int .i64 (d.err area sl) ∧ Hid (Mid w wx B C g d (d.write area sl) z' #[.int .i64 what, .int .i64 area, .int .i64 sn, .slice sp sm sc]))
            case first =>
              cases hba : hasB area with
              | false =>
                have hb : (decide (area < 0) || decide (1 < area)) = true := by unfold hasB at hba; rw [decide_eq_false_iff_not] at hba; simp only [Bool.or_eq_true, decide_eq_true_eq]; omega
                have M1 := Lib.hid (IW.out.mid HG.out NE.out)
                have hwn := wr_no (d := d) (l := sl) hba
                clear IW HG hba
                rw [hb]
                go_wp2_with fail
                go_meet
                exact ⟨z, rfl, by rw [hwn.2], by rw [hwn.1]; exact M1⟩
              | true =>
                have hx' : area = 0 ∨ area = 1 := by unfold hasB at hba; exact of_decide_eq_true hba
                clear hba
                by_cases hx0 : area = 0
                · obtain rfl : area = 0 := by omega
                  have hb : (decide ((0 : Int) < 0) || decide ((1 : Int) < 0)) = false := by decide
                  rw [hb]
                  have hl40 : sl.length ≤ 40040 := by have := HSL.out; omega
                  have y0 : W.cell? ⟨C, 0, none⟩ = some (.string (strOfNums d.a0)) := cell_of IW.out.ar (i := 0) rfl
                  have y1 : W.frozen? ⟨C, 0, none⟩ = false := frozen_of IW.out.ar
                  have hs := SA.out W IW.out.k
                  have hgt : ⟨g, 1, none⟩ ≠ (⟨C, 0, none⟩ : Addr) := fun e => NE.out.2.1 (congrArg Addr.block e)
                  have NG := Lib.hid hgt
                  clear hgt
                  cases ha : d.armed with
                  | false =>
                    have hzf : decide (0 ≤ z) = false := IW.out.zd.trans ha
                    have M1 : Hid (Mid w (W.setCell ⟨C, 0, none⟩ (.string (strOfNums sl))) B C g d (d.write 0 sl) z #[.int .i64 what, .int .i64 0, .int .i64 sn, .slice sp sm sc]) := Lib.hid ((IW.out.mid HG.out NE.out).lay 0 _ (by rw [wr_ok (by decide) hl40 ha]; rfl) (by rw [wr_ok (by decide) hl40 ha]; exact hzf) (by rw [wr_ok (by decide) hl40 ha]; intro h; cases h) IW.out.zr)
                    have he := err_ok (x := 0) (l := sl) (by decide) hl40 ha
                    clear IW HG ha hl40
                    go_wp2_with fail
                    go_meet
                    exact ⟨z, rfl, by rw [he], M1⟩
                  | true =>
                    have hzf : decide (0 ≤ z) = true := IW.out.zd.trans ha
                    have hzn := IW.out.zn ha
                    obtain ⟨zk, rfl⟩ := Int.eq_ofNat_of_zero_le (of_decide_eq_true hzf)
                    have M1 : Hid (Mid w (W.setCell ⟨C, 0, none⟩ (.string (strOfNums sl))) B C g d { d with a0 := sl } zk #[.int .i64 what, .int .i64 0, .int .i64 sn, .slice sp sm sc]) := Lib.hid ((IW.out.mid HG.out NE.out).lay 0 _ rfl (hzf.trans ha.symm) (fun _ => hzn) IW.out.zr)
                    have he := err_pw (x := 0) (l := sl) (by decide) hl40 ha
                    have hwr : d.write 0 sl = d.put 0 (sl.take zk) := by rw [wr_pw (by decide) hl40 ha, ← hzn]; rfl
                    have z0 : (W.setCell ⟨C, 0, none⟩ (.string (strOfNums sl))).cell? ⟨C, 0, none⟩ = some (.string (strOfNums sl)) := cell_of M1.out.ar (i := 0) rfl
                    have z1 : (W.setCell ⟨C, 0, none⟩ (.string (strOfNums sl))).frozen? ⟨C, 0, none⟩ = false := frozen_of M1.out.ar
                    obtain ⟨W1, hW1⟩ : ∃ W1, W1 = W.setCell ⟨C, 0, none⟩ (.string (strOfNums sl)) := ⟨_, rfl⟩
                    rw [← hW1] at M1 z0 z1
                    have EW1 := Lib.hid hW1
                    have HWR := Lib.hid hwr
                    clear hW1 IW HG ha hl40 hwr
                    have HZN := Lib.hid hzn
                    clear hzn
                    go_upto_region 22 with fail
                    rw [← EW1.out]
                    clear EW1 y0 y1 hs c0 c1 c2 c3
                    rcases Nat.lt_or_ge sm zk with hq | hq
                    · have hqi : (sm : Int) < (zk : Int) := by omega
                      have hkc : (sm : Int) ≤ (sc : Int) := by have := HFI.out; omega
                      have SB := Lib.hid (fun w' (h : Kept (fun _ => False) w w') => str_take (c := sc) (k := sm) (bytes_kept HXO.out.bytes h (fun _ _ _ h => h)) (by have := HSL.out; simp only; omega) HNL.out)
                      simp only at SB
                      have hta : sl.take zk = sl.take sm := by rw [List.take_of_length_le (by have := HSL.out; omega), List.take_of_length_le (by have := HSL.out; omega)]
                      have HTA := Lib.hid hta
                      clear hta
                      refine wp_region_held_drew (S := fun w' => Kept (fun _ => False) w w' ∧ w'.heap[g]? = some (.cells #[.int .i64 what, .int .i64 0, .int .i64 sn, .slice sp sm sc] 29 (0, 0))) (by kernel_rfl) (⟨M1.out.k.drew, M1.out.gc⟩) (fun hS => ?_)
                      refine takeA (i := 0) (v := .pointer (some ⟨g, 1, none⟩)) ({ tmps := #[.slice (some ⟨b, off, none⟩) m cap, undef, u2, .pointer (some ⟨B, 0, none⟩), .pointer (some ⟨C, 0, none⟩), .int .i64 ↑zk, .int .i64 ↑i, .pointer (some ⟨g, 0, none⟩), .int .i64 0, .bool true, .bool false, .slice (some ⟨b, off, none⟩) m cap, .int .i64 ↑m, .bool false, .pointer (some ⟨B, 0, none⟩), u15, u16, u17, u18, u19, u20, u21, u22, u23, u24, u25, u26, u27, u28, u29, u30, u31, u32, u33, u34, u35, u36, u37, u38, u39, u40, u41, u42, u43, u44, u45, .bool false, .pointer (some ⟨g, 1, none⟩), .int .i64 0, .pointer (some ⟨g, 3, none⟩), .slice sp sm sc, .string (strOfNums sl), .pointer (some ⟨C, 0, none⟩), .int .i64 ↑zk, .bool true, .pointer (some ⟨g, 1, none⟩), u56, u57, u58, u59, u60, u61, u62, u63, u64, u65, u66, u67, u68, u69, u70, u71, u72, u73, u74, u75, u76, u77, u78, u79, u80, u81, u82, u83, u84, u85, u86, u87, u88, u89, u90, u91, u92, u93, u94, u95, u96, u97, u98, u99, u100, u101, u102], defers := [] }) rfl (by kernel_rfl) (by kernel_rfl) (by kernel_rfl) (fun _ _ _ h => h) (.inl ⟨rfl, fun _ _ => by go_simp⟩) hS rfl ?_
                      refine takeA (i := 1) (v := .int .i64 0) ({ tmps := #[.slice (some ⟨b, off, none⟩) m cap, undef, u2, .pointer (some ⟨B, 0, none⟩), .pointer (some ⟨C, 0, none⟩), .int .i64 ↑zk, .int .i64 ↑i, .pointer (some ⟨g, 0, none⟩), .int .i64 0, .bool true, .bool false, .slice (some ⟨b, off, none⟩) m cap, .int .i64 ↑m, .bool false, .pointer (some ⟨B, 0, none⟩), u15, u16, u17, u18, u19, u20, u21, u22, u23, u24, u25, u26, u27, u28, u29, u30, u31, u32, u33, u34, u35, u36, u37, u38, u39, u40, u41, u42, u43, u44, u45, .bool false, .pointer (some ⟨g, 1, none⟩), .int .i64 0, .pointer (some ⟨g, 3, none⟩), .slice sp sm sc, .string (strOfNums sl), .pointer (some ⟨C, 0, none⟩), .int .i64 ↑zk, .bool true, .pointer (some ⟨g, 1, none⟩), .int .i64 0, u57, u58, u59, u60, u61, u62, u63, u64, u65, u66, u67, u68, u69, u70, u71, u72, u73, u74, u75, u76, u77, u78, u79, u80, u81, u82, u83, u84, u85, u86, u87, u88, u89, u90, u91, u92, u93, u94, u95, u96, u97, u98, u99, u100, u101, u102], defers := [] }) rfl (by kernel_rfl) (by kernel_rfl) (by kernel_rfl) (fun _ _ _ h => h) (yi_load 3 _ (.pointer (some ⟨g, 1, none⟩)) rfl rfl rfl (fun w hw => by have q := cell_of hw.2 (i := 1) rfl; go_simp)) hS rfl ?_
                      refine takeA (i := 2) (v := .pointer (some ⟨g, 3, none⟩)) ({ tmps := #[.slice (some ⟨b, off, none⟩) m cap, undef, u2, .pointer (some ⟨B, 0, none⟩), .pointer (some ⟨C, 0, none⟩), .int .i64 ↑zk, .int .i64 ↑i, .pointer (some ⟨g, 0, none⟩), .int .i64 0, .bool true, .bool false, .slice (some ⟨b, off, none⟩) m cap, .int .i64 ↑m, .bool false, .pointer (some ⟨B, 0, none⟩), u15, u16, u17, u18, u19, u20, u21, u22, u23, u24, u25, u26, u27, u28, u29, u30, u31, u32, u33, u34, u35, u36, u37, u38, u39, u40, u41, u42, u43, u44, u45, .bool false, .pointer (some ⟨g, 1, none⟩), .int .i64 0, .pointer (some ⟨g, 3, none⟩), .slice sp sm sc, .string (strOfNums sl), .pointer (some ⟨C, 0, none⟩), .int .i64 ↑zk, .bool true, .pointer (some ⟨g, 1, none⟩), .int .i64 0, .pointer (some ⟨g, 3, none⟩), u58, u59, u60, u61, u62, u63, u64, u65, u66, u67, u68, u69, u70, u71, u72, u73, u74, u75, u76, u77, u78, u79, u80, u81, u82, u83, u84, u85, u86, u87, u88, u89, u90, u91, u92, u93, u94, u95, u96, u97, u98, u99, u100, u101, u102], defers := [] }) rfl (by kernel_rfl) (by kernel_rfl) (by kernel_rfl) (fun _ _ _ h => h) (.inl ⟨rfl, fun _ _ => by go_simp⟩) hS rfl ?_
                      refine takeA (i := 3) (v := .slice sp sm sc) ({ tmps := #[.slice (some ⟨b, off, none⟩) m cap, undef, u2, .pointer (some ⟨B, 0, none⟩), .pointer (some ⟨C, 0, none⟩), .int .i64 ↑zk, .int .i64 ↑i, .pointer (some ⟨g, 0, none⟩), .int .i64 0, .bool true, .bool false, .slice (some ⟨b, off, none⟩) m cap, .int .i64 ↑m, .bool false, .pointer (some ⟨B, 0, none⟩), u15, u16, u17, u18, u19, u20, u21, u22, u23, u24, u25, u26, u27, u28, u29, u30, u31, u32, u33, u34, u35, u36, u37, u38, u39, u40, u41, u42, u43, u44, u45, .bool false, .pointer (some ⟨g, 1, none⟩), .int .i64 0, .pointer (some ⟨g, 3, none⟩), .slice sp sm sc, .string (strOfNums sl), .pointer (some ⟨C, 0, none⟩), .int .i64 ↑zk, .bool true, .pointer (some ⟨g, 1, none⟩), .int .i64 0, .pointer (some ⟨g, 3, none⟩), .slice sp sm sc, u59, u60, u61, u62, u63, u64, u65, u66, u67, u68, u69, u70, u71, u72, u73, u74, u75, u76, u77, u78, u79, u80, u81, u82, u83, u84, u85, u86, u87, u88, u89, u90, u91, u92, u93, u94, u95, u96, u97, u98, u99, u100, u101, u102], defers := [] }) rfl (by kernel_rfl) (by kernel_rfl) (by kernel_rfl) (fun _ _ _ h => h) (yi_load 27 _ (.pointer (some ⟨g, 3, none⟩)) rfl rfl rfl (fun w hw => by have q := cell_of hw.2 (i := 3) rfl; go_simp)) hS rfl ?_
                      refine takeA (i := 4) (v := .int .i64 ↑zk) ({ tmps := #[.slice (some ⟨b, off, none⟩) m cap, undef, u2, .pointer (some ⟨B, 0, none⟩), .pointer (some ⟨C, 0, none⟩), .int .i64 ↑zk, .int .i64 ↑i, .pointer (some ⟨g, 0, none⟩), .int .i64 0, .bool true, .bool false, .slice (some ⟨b, off, none⟩) m cap, .int .i64 ↑m, .bool false, .pointer (some ⟨B, 0, none⟩), u15, u16, u17, u18, u19, u20, u21, u22, u23, u24, u25, u26, u27, u28, u29, u30, u31, u32, u33, u34, u35, u36, u37, u38, u39, u40, u41, u42, u43, u44, u45, .bool false, .pointer (some ⟨g, 1, none⟩), .int .i64 0, .pointer (some ⟨g, 3, none⟩), .slice sp sm sc, .string (strOfNums sl), .pointer (some ⟨C, 0, none⟩), .int .i64 ↑zk, .bool true, .pointer (some ⟨g, 1, none⟩), .int .i64 0, .pointer (some ⟨g, 3, none⟩), .slice sp sm sc, .int .i64 ↑zk, u60, u61, u62, u63, u64, u65, u66, u67, u68, u69, u70, u71, u72, u73, u74, u75, u76, u77, u78, u79, u80, u81, u82, u83, u84, u85, u86, u87, u88, u89, u90, u91, u92, u93, u94, u95, u96, u97, u98, u99, u100, u101, u102], defers := [] }) rfl (by kernel_rfl) (by kernel_rfl) (by kernel_rfl) (fun _ _ _ h => h) (.inl ⟨rfl, fun _ _ => rfl⟩) hS rfl ?_
                      refine takeA (i := 5) (v := .pointer (some ⟨g, 3, none⟩)) ({ tmps := #[.slice (some ⟨b, off, none⟩) m cap, undef, u2, .pointer (some ⟨B, 0, none⟩), .pointer (some ⟨C, 0, none⟩), .int .i64 ↑zk, .int .i64 ↑i, .pointer (some ⟨g, 0, none⟩), .int .i64 0, .bool true, .bool false, .slice (some ⟨b, off, none⟩) m cap, .int .i64 ↑m, .bool false, .pointer (some ⟨B, 0, none⟩), u15, u16, u17, u18, u19, u20, u21, u22, u23, u24, u25, u26, u27, u28, u29, u30, u31, u32, u33, u34, u35, u36, u37, u38, u39, u40, u41, u42, u43, u44, u45, .bool false, .pointer (some ⟨g, 1, none⟩), .int .i64 0, .pointer (some ⟨g, 3, none⟩), .slice sp sm sc, .string (strOfNums sl), .pointer (some ⟨C, 0, none⟩), .int .i64 ↑zk, .bool true, .pointer (some ⟨g, 1, none⟩), .int .i64 0, .pointer (some ⟨g, 3, none⟩), .slice sp sm sc, .int .i64 ↑zk, .pointer (some ⟨g, 3, none⟩), u61, u62, u63, u64, u65, u66, u67, u68, u69, u70, u71, u72, u73, u74, u75, u76, u77, u78, u79, u80, u81, u82, u83, u84, u85, u86, u87, u88, u89, u90, u91, u92, u93, u94, u95, u96, u97, u98, u99, u100, u101, u102], defers := [] }) rfl (by kernel_rfl) (by kernel_rfl) (by kernel_rfl) (fun _ _ _ h => h) (.inl ⟨rfl, fun _ _ => by go_simp⟩) hS rfl ?_
                      refine takeA (i := 6) (v := .slice sp sm sc) ({ tmps := #[.slice (some ⟨b, off, none⟩) m cap, undef, u2, .pointer (some ⟨B, 0, none⟩), .pointer (some ⟨C, 0, none⟩), .int .i64 ↑zk, .int .i64 ↑i, .pointer (some ⟨g, 0, none⟩), .int .i64 0, .bool true, .bool false, .slice (some ⟨b, off, none⟩) m cap, .int .i64 ↑m, .bool false, .pointer (some ⟨B, 0, none⟩), u15, u16, u17, u18, u19, u20, u21, u22, u23, u24, u25, u26, u27, u28, u29, u30, u31, u32, u33, u34, u35, u36, u37, u38, u39, u40, u41, u42, u43, u44, u45, .bool false, .pointer (some ⟨g, 1, none⟩), .int .i64 0, .pointer (some ⟨g, 3, none⟩), .slice sp sm sc, .string (strOfNums sl), .pointer (some ⟨C, 0, none⟩), .int .i64 ↑zk, .bool true, .pointer (some ⟨g, 1, none⟩), .int .i64 0, .pointer (some ⟨g, 3, none⟩), .slice sp sm sc, .int .i64 ↑zk, .pointer (some ⟨g, 3, none⟩), .slice sp sm sc, u62, u63, u64, u65, u66, u67, u68, u69, u70, u71, u72, u73, u74, u75, u76, u77, u78, u79, u80, u81, u82, u83, u84, u85, u86, u87, u88, u89, u90, u91, u92, u93, u94, u95, u96, u97, u98, u99, u100, u101, u102], defers := [] }) rfl (by kernel_rfl) (by kernel_rfl) (by kernel_rfl) (fun _ _ _ h => h) (yi_load 27 _ (.pointer (some ⟨g, 3, none⟩)) rfl rfl rfl (fun w hw => by have q := cell_of hw.2 (i := 3) rfl; go_simp)) hS rfl ?_
                      refine takeA (i := 7) (v := .int .i64 ↑sm) ({ tmps := #[.slice (some ⟨b, off, none⟩) m cap, undef, u2, .pointer (some ⟨B, 0, none⟩), .pointer (some ⟨C, 0, none⟩), .int .i64 ↑zk, .int .i64 ↑i, .pointer (some ⟨g, 0, none⟩), .int .i64 0, .bool true, .bool false, .slice (some ⟨b, off, none⟩) m cap, .int .i64 ↑m, .bool false, .pointer (some ⟨B, 0, none⟩), u15, u16, u17, u18, u19, u20, u21, u22, u23, u24, u25, u26, u27, u28, u29, u30, u31, u32, u33, u34, u35, u36, u37, u38, u39, u40, u41, u42, u43, u44, u45, .bool false, .pointer (some ⟨g, 1, none⟩), .int .i64 0, .pointer (some ⟨g, 3, none⟩), .slice sp sm sc, .string (strOfNums sl), .pointer (some ⟨C, 0, none⟩), .int .i64 ↑zk, .bool true, .pointer (some ⟨g, 1, none⟩), .int .i64 0, .pointer (some ⟨g, 3, none⟩), .slice sp sm sc, .int .i64 ↑zk, .pointer (some ⟨g, 3, none⟩), .slice sp sm sc, .int .i64 ↑sm, u63, u64, u65, u66, u67, u68, u69, u70, u71, u72, u73, u74, u75, u76, u77, u78, u79, u80, u81, u82, u83, u84, u85, u86, u87, u88, u89, u90, u91, u92, u93, u94, u95, u96, u97, u98, u99, u100, u101, u102], defers := [] }) rfl (by kernel_rfl) (by kernel_rfl) (by kernel_rfl) (fun _ _ _ h => h) (.inl ⟨rfl, fun _ _ => by go_simp⟩) hS rfl ?_
                      refine takeA (i := 8) (v := .int .i64 ↑sm) ({ tmps := #[.slice (some ⟨b, off, none⟩) m cap, undef, u2, .pointer (some ⟨B, 0, none⟩), .pointer (some ⟨C, 0, none⟩), .int .i64 ↑zk, .int .i64 ↑i, .pointer (some ⟨g, 0, none⟩), .int .i64 0, .bool true, .bool false, .slice (some ⟨b, off, none⟩) m cap, .int .i64 ↑m, .bool false, .pointer (some ⟨B, 0, none⟩), u15, u16, u17, u18, u19, u20, u21, u22, u23, u24, u25, u26, u27, u28, u29, u30, u31, u32, u33, u34, u35, u36, u37, u38, u39, u40, u41, u42, u43, u44, u45, .bool false, .pointer (some ⟨g, 1, none⟩), .int .i64 0, .pointer (some ⟨g, 3, none⟩), .slice sp sm sc, .string (strOfNums sl), .pointer (some ⟨C, 0, none⟩), .int .i64 ↑zk, .bool true, .pointer (some ⟨g, 1, none⟩), .int .i64 0, .pointer (some ⟨g, 3, none⟩), .slice sp sm sc, .int .i64 ↑zk, .pointer (some ⟨g, 3, none⟩), .slice sp sm sc, .int .i64 ↑sm, .int .i64 ↑sm, u64, u65, u66, u67, u68, u69, u70, u71, u72, u73, u74, u75, u76, u77, u78, u79, u80, u81, u82, u83, u84, u85, u86, u87, u88, u89, u90, u91, u92, u93, u94, u95, u96, u97, u98, u99, u100, u101, u102], defers := [] }) rfl (by kernel_rfl) (by kernel_rfl) (by kernel_rfl) (fun _ _ _ h => h) (.inl ⟨rfl, fun _ _ => by go_simp⟩) hS rfl ?_
                      refine takeA (i := 9) (v := .slice sp sm sc) ({ tmps := #[.slice (some ⟨b, off, none⟩) m cap, undef, u2, .pointer (some ⟨B, 0, none⟩), .pointer (some ⟨C, 0, none⟩), .int .i64 ↑zk, .int .i64 ↑i, .pointer (some ⟨g, 0, none⟩), .int .i64 0, .bool true, .bool false, .slice (some ⟨b, off, none⟩) m cap, .int .i64 ↑m, .bool false, .pointer (some ⟨B, 0, none⟩), u15, u16, u17, u18, u19, u20, u21, u22, u23, u24, u25, u26, u27, u28, u29, u30, u31, u32, u33, u34, u35, u36, u37, u38, u39, u40, u41, u42, u43, u44, u45, .bool false, .pointer (some ⟨g, 1, none⟩), .int .i64 0, .pointer (some ⟨g, 3, none⟩), .slice sp sm sc, .string (strOfNums sl), .pointer (some ⟨C, 0, none⟩), .int .i64 ↑zk, .bool true, .pointer (some ⟨g, 1, none⟩), .int .i64 0, .pointer (some ⟨g, 3, none⟩), .slice sp sm sc, .int .i64 ↑zk, .pointer (some ⟨g, 3, none⟩), .slice sp sm sc, .int .i64 ↑sm, .int .i64 ↑sm, .slice sp sm sc, u65, u66, u67, u68, u69, u70, u71, u72, u73, u74, u75, u76, u77, u78, u79, u80, u81, u82, u83, u84, u85, u86, u87, u88, u89, u90, u91, u92, u93, u94, u95, u96, u97, u98, u99, u100, u101, u102], defers := [] }) rfl (by kernel_rfl) (by kernel_rfl) (by kernel_rfl) (fun _ _ _ h => h) (.inl ⟨rfl, fun _ _ => by go_simp⟩) hS rfl ?_
                      refine takeA (i := 10) (v := .string (strOfNums (sl.take sm))) ({ tmps := #[.slice (some ⟨b, off, none⟩) m cap, undef, u2, .pointer (some ⟨B, 0, none⟩), .pointer (some ⟨C, 0, none⟩), .int .i64 ↑zk, .int .i64 ↑i, .pointer (some ⟨g, 0, none⟩), .int .i64 0, .bool true, .bool false, .slice (some ⟨b, off, none⟩) m cap, .int .i64 ↑m, .bool false, .pointer (some ⟨B, 0, none⟩), u15, u16, u17, u18, u19, u20, u21, u22, u23, u24, u25, u26, u27, u28, u29, u30, u31, u32, u33, u34, u35, u36, u37, u38, u39, u40, u41, u42, u43, u44, u45, .bool false, .pointer (some ⟨g, 1, none⟩), .int .i64 0, .pointer (some ⟨g, 3, none⟩), .slice sp sm sc, .string (strOfNums sl), .pointer (some ⟨C, 0, none⟩), .int .i64 ↑zk, .bool true, .pointer (some ⟨g, 1, none⟩), .int .i64 0, .pointer (some ⟨g, 3, none⟩), .slice sp sm sc, .int .i64 ↑zk, .pointer (some ⟨g, 3, none⟩), .slice sp sm sc, .int .i64 ↑sm, .int .i64 ↑sm, .slice sp sm sc, .string (strOfNums (sl.take sm)), u66, u67, u68, u69, u70, u71, u72, u73, u74, u75, u76, u77, u78, u79, u80, u81, u82, u83, u84, u85, u86, u87, u88, u89, u90, u91, u92, u93, u94, u95, u96, u97, u98, u99, u100, u101, u102], defers := [] }) rfl (by kernel_rfl) (by kernel_rfl) (by kernel_rfl) (fun _ _ _ h => h) (yi_conv 27 9 _ (.slice sp sm sc) rfl rfl rfl (fun w hw => SB.out w hw.1)) hS rfl ?_
                      refine takeA (i := 11) (v := .pointer (some ⟨C, 0, none⟩)) ({ tmps := #[.slice (some ⟨b, off, none⟩) m cap, undef, u2, .pointer (some ⟨B, 0, none⟩), .pointer (some ⟨C, 0, none⟩), .int .i64 ↑zk, .int .i64 ↑i, .pointer (some ⟨g, 0, none⟩), .int .i64 0, .bool true, .bool false, .slice (some ⟨b, off, none⟩) m cap, .int .i64 ↑m, .bool false, .pointer (some ⟨B, 0, none⟩), u15, u16, u17, u18, u19, u20, u21, u22, u23, u24, u25, u26, u27, u28, u29, u30, u31, u32, u33, u34, u35, u36, u37, u38, u39, u40, u41, u42, u43, u44, u45, .bool false, .pointer (some ⟨g, 1, none⟩), .int .i64 0, .pointer (some ⟨g, 3, none⟩), .slice sp sm sc, .string (strOfNums sl), .pointer (some ⟨C, 0, none⟩), .int .i64 ↑zk, .bool true, .pointer (some ⟨g, 1, none⟩), .int .i64 0, .pointer (some ⟨g, 3, none⟩), .slice sp sm sc, .int .i64 ↑zk, .pointer (some ⟨g, 3, none⟩), .slice sp sm sc, .int .i64 ↑sm, .int .i64 ↑sm, .slice sp sm sc, .string (strOfNums (sl.take sm)), .pointer (some ⟨C, 0, none⟩), u67, u68, u69, u70, u71, u72, u73, u74, u75, u76, u77, u78, u79, u80, u81, u82, u83, u84, u85, u86, u87, u88, u89, u90, u91, u92, u93, u94, u95, u96, u97, u98, u99, u100, u101, u102], defers := [] }) rfl (by kernel_rfl) (by kernel_rfl) (by kernel_rfl) (fun _ _ _ h => h) (.inl ⟨rfl, fun _ _ => by go_simp⟩) hS rfl ?_
                      refine wpAnyH_ready (rs := [12]) (by kernel_rfl) (by simp) ?_
                      refine AllReadyH.cons rfl (fun K hK => ?_) AllReadyH.nil
                      rw [if_pos (by rfl)]
                      go_simp
                      refine hK.out ({ tmps := #[.slice (some ⟨b, off, none⟩) m cap, undef, u2, .pointer (some ⟨B, 0, none⟩), .pointer (some ⟨C, 0, none⟩), .int .i64 ↑zk, .int .i64 ↑i, .pointer (some ⟨g, 0, none⟩), .int .i64 0, .bool true, .bool false, .slice (some ⟨b, off, none⟩) m cap, .int .i64 ↑m, .bool false, .pointer (some ⟨B, 0, none⟩), u15, u16, u17, u18, u19, u20, u21, u22, u23, u24, u25, u26, u27, u28, u29, u30, u31, u32, u33, u34, u35, u36, u37, u38, u39, u40, u41, u42, u43, u44, u45, .bool false, .pointer (some ⟨g, 1, none⟩), .int .i64 0, .pointer (some ⟨g, 3, none⟩), .slice sp sm sc, .string (strOfNums sl), .pointer (some ⟨C, 0, none⟩), .int .i64 ↑zk, .bool true, .pointer (some ⟨g, 1, none⟩), .int .i64 0, .pointer (some ⟨g, 3, none⟩), .slice sp sm sc, .int .i64 ↑zk, .pointer (some ⟨g, 3, none⟩), .slice sp sm sc, .int .i64 ↑sm, .int .i64 ↑sm, .slice sp sm sc, .string (strOfNums (sl.take sm)), .pointer (some ⟨C, 0, none⟩), u67, u68, u69, u70, u71, u72, u73, u74, u75, u76, u77, u78, u79, u80, u81, u82, u83, u84, u85, u86, u87, u88, u89, u90, u91, u92, u93, u94, u95, u96, u97, u98, u99, u100, u101, u102], defers := [] }) _ (⟨(M1.out.k.up ((Kept.refl _ W1).setCell ⟨C, 0, none⟩ _ (fun _ => rfl)) M1.out.hC).drew, (((Kept.refl (fun k => k = C) W1).setCell ⟨C, 0, none⟩ _ (fun _ => rfl)).block g (lt_of_block M1.out.gc) M1.out.gC).trans M1.out.gc⟩) (fun hS => ?_)
                      clear hK K
                      refine wpAnyH_done (by kernel_rfl) ?_ _
                      clear hS
                      go_wp2_with fail
                      go_meet
                      refine ⟨-1, rfl, by rw [he], Lib.hid ((M1.out.lay 0 _ (by rw [HWR.out, HTA.out]; rfl) (by rw [HWR.out]; rfl) (by rw [HWR.out]; intro h; cases h) (by unfold i64r; omega)).up (Kept.refl _ _).drew)⟩
                    · have hqi : ¬ ((sm : Int) < (zk : Int)) := by omega
                      have hkc : (zk : Int) ≤ (sc : Int) := by have := HFI.out; omega
                      have SB := Lib.hid (fun w' (h : Kept (fun _ => False) w w') => str_take (c := sc) (k := zk) (bytes_kept HXO.out.bytes h (fun _ _ _ h => h)) (by have := HSL.out; simp only; omega) HNL.out)
                      simp only at SB
                      refine wp_region_held_drew (S := fun w' => Kept (fun _ => False) w w' ∧ w'.heap[g]? = some (.cells #[.int .i64 what, .int .i64 0, .int .i64 sn, .slice sp sm sc] 29 (0, 0))) (by kernel_rfl) (⟨M1.out.k.drew, M1.out.gc⟩) (fun hS => ?_)
                      refine takeA (i := 0) (v := .pointer (some ⟨g, 1, none⟩)) ({ tmps := #[.slice (some ⟨b, off, none⟩) m cap, undef, u2, .pointer (some ⟨B, 0, none⟩), .pointer (some ⟨C, 0, none⟩), .int .i64 ↑zk, .int .i64 ↑i, .pointer (some ⟨g, 0, none⟩), .int .i64 0, .bool true, .bool false, .slice (some ⟨b, off, none⟩) m cap, .int .i64 ↑m, .bool false, .pointer (some ⟨B, 0, none⟩), u15, u16, u17, u18, u19, u20, u21, u22, u23, u24, u25, u26, u27, u28, u29, u30, u31, u32, u33, u34, u35, u36, u37, u38, u39, u40, u41, u42, u43, u44, u45, .bool false, .pointer (some ⟨g, 1, none⟩), .int .i64 0, .pointer (some ⟨g, 3, none⟩), .slice sp sm sc, .string (strOfNums sl), .pointer (some ⟨C, 0, none⟩), .int .i64 ↑zk, .bool true, .pointer (some ⟨g, 1, none⟩), u56, u57, u58, u59, u60, u61, u62, u63, u64, u65, u66, u67, u68, u69, u70, u71, u72, u73, u74, u75, u76, u77, u78, u79, u80, u81, u82, u83, u84, u85, u86, u87, u88, u89, u90, u91, u92, u93, u94, u95, u96, u97, u98, u99, u100, u101, u102], defers := [] }) rfl (by kernel_rfl) (by kernel_rfl) (by kernel_rfl) (fun _ _ _ h => h) (.inl ⟨rfl, fun _ _ => by go_simp⟩) hS rfl ?_
                      refine takeA (i := 1) (v := .int .i64 0) ({ tmps := #[.slice (some ⟨b, off, none⟩) m cap, undef, u2, .pointer (some ⟨B, 0, none⟩), .pointer (some ⟨C, 0, none⟩), .int .i64 ↑zk, .int .i64 ↑i, .pointer (some ⟨g, 0, none⟩), .int .i64 0, .bool true, .bool false, .slice (some ⟨b, off, none⟩) m cap, .int .i64 ↑m, .bool false, .pointer (some ⟨B, 0, none⟩), u15, u16, u17, u18, u19, u20, u21, u22, u23, u24, u25, u26, u27, u28, u29, u30, u31, u32, u33, u34, u35, u36, u37, u38, u39, u40, u41, u42, u43, u44, u45, .bool false, .pointer (some ⟨g, 1, none⟩), .int .i64 0, .pointer (some ⟨g, 3, none⟩), .slice sp sm sc, .string (strOfNums sl), .pointer (some ⟨C, 0, none⟩), .int .i64 ↑zk, .bool true, .pointer (some ⟨g, 1, none⟩), .int .i64 0, u57, u58, u59, u60, u61, u62, u63, u64, u65, u66, u67, u68, u69, u70, u71, u72, u73, u74, u75, u76, u77, u78, u79, u80, u81, u82, u83, u84, u85, u86, u87, u88, u89, u90, u91, u92, u93, u94, u95, u96, u97, u98, u99, u100, u101, u102], defers := [] }) rfl (by kernel_rfl) (by kernel_rfl) (by kernel_rfl) (fun _ _ _ h => h) (yi_load 3 _ (.pointer (some ⟨g, 1, none⟩)) rfl rfl rfl (fun w hw => by have q := cell_of hw.2 (i := 1) rfl; go_simp)) hS rfl ?_
                      refine takeA (i := 2) (v := .pointer (some ⟨g, 3, none⟩)) ({ tmps := #[.slice (some ⟨b, off, none⟩) m cap, undef, u2, .pointer (some ⟨B, 0, none⟩), .pointer (some ⟨C, 0, none⟩), .int .i64 ↑zk, .int .i64 ↑i, .pointer (some ⟨g, 0, none⟩), .int .i64 0, .bool true, .bool false, .slice (some ⟨b, off, none⟩) m cap, .int .i64 ↑m, .bool false, .pointer (some ⟨B, 0, none⟩), u15, u16, u17, u18, u19, u20, u21, u22, u23, u24, u25, u26, u27, u28, u29, u30, u31, u32, u33, u34, u35, u36, u37, u38, u39, u40, u41, u42, u43, u44, u45, .bool false, .pointer (some ⟨g, 1, none⟩), .int .i64 0, .pointer (some ⟨g, 3, none⟩), .slice sp sm sc, .string (strOfNums sl), .pointer (some ⟨C, 0, none⟩), .int .i64 ↑zk, .bool true, .pointer (some ⟨g, 1, none⟩), .int .i64 0, .pointer (some ⟨g, 3, none⟩), u58, u59, u60, u61, u62, u63, u64, u65, u66, u67, u68, u69, u70, u71, u72, u73, u74, u75, u76, u77, u78, u79, u80, u81, u82, u83, u84, u85, u86, u87, u88, u89, u90, u91, u92, u93, u94, u95, u96, u97, u98, u99, u100, u101, u102], defers := [] }) rfl (by kernel_rfl) (by kernel_rfl) (by kernel_rfl) (fun _ _ _ h => h) (.inl ⟨rfl, fun _ _ => by go_simp⟩) hS rfl ?_
                      refine takeA (i := 3) (v := .slice sp sm sc) ({ tmps := #[.slice (some ⟨b, off, none⟩) m cap, undef, u2, .pointer (some ⟨B, 0, none⟩), .pointer (some ⟨C, 0, none⟩), .int .i64 ↑zk, .int .i64 ↑i, .pointer (some ⟨g, 0, none⟩), .int .i64 0, .bool true, .bool false, .slice (some ⟨b, off, none⟩) m cap, .int .i64 ↑m, .bool false, .pointer (some ⟨B, 0, none⟩), u15, u16, u17, u18, u19, u20, u21, u22, u23, u24, u25, u26, u27, u28, u29, u30, u31, u32, u33, u34, u35, u36, u37, u38, u39, u40, u41, u42, u43, u44, u45, .bool false, .pointer (some ⟨g, 1, none⟩), .int .i64 0, .pointer (some ⟨g, 3, none⟩), .slice sp sm sc, .string (strOfNums sl), .pointer (some ⟨C, 0, none⟩), .int .i64 ↑zk, .bool true, .pointer (some ⟨g, 1, none⟩), .int .i64 0, .pointer (some ⟨g, 3, none⟩), .slice sp sm sc, u59, u60, u61, u62, u63, u64, u65, u66, u67, u68, u69, u70, u71, u72, u73, u74, u75, u76, u77, u78, u79, u80, u81, u82, u83, u84, u85, u86, u87, u88, u89, u90, u91, u92, u93, u94, u95, u96, u97, u98, u99, u100, u101, u102], defers := [] }) rfl (by kernel_rfl) (by kernel_rfl) (by kernel_rfl) (fun _ _ _ h => h) (yi_load 27 _ (.pointer (some ⟨g, 3, none⟩)) rfl rfl rfl (fun w hw => by have q := cell_of hw.2 (i := 3) rfl; go_simp)) hS rfl ?_
                      refine takeA (i := 4) (v := .int .i64 ↑zk) ({ tmps := #[.slice (some ⟨b, off, none⟩) m cap, undef, u2, .pointer (some ⟨B, 0, none⟩), .pointer (some ⟨C, 0, none⟩), .int .i64 ↑zk, .int .i64 ↑i, .pointer (some ⟨g, 0, none⟩), .int .i64 0, .bool true, .bool false, .slice (some ⟨b, off, none⟩) m cap, .int .i64 ↑m, .bool false, .pointer (some ⟨B, 0, none⟩), u15, u16, u17, u18, u19, u20, u21, u22, u23, u24, u25, u26, u27, u28, u29, u30, u31, u32, u33, u34, u35, u36, u37, u38, u39, u40, u41, u42, u43, u44, u45, .bool false, .pointer (some ⟨g, 1, none⟩), .int .i64 0, .pointer (some ⟨g, 3, none⟩), .slice sp sm sc, .string (strOfNums sl), .pointer (some ⟨C, 0, none⟩), .int .i64 ↑zk, .bool true, .pointer (some ⟨g, 1, none⟩), .int .i64 0, .pointer (some ⟨g, 3, none⟩), .slice sp sm sc, .int .i64 ↑zk, u60, u61, u62, u63, u64, u65, u66, u67, u68, u69, u70, u71, u72, u73, u74, u75, u76, u77, u78, u79, u80, u81, u82, u83, u84, u85, u86, u87, u88, u89, u90, u91, u92, u93, u94, u95, u96, u97, u98, u99, u100, u101, u102], defers := [] }) rfl (by kernel_rfl) (by kernel_rfl) (by kernel_rfl) (fun _ _ _ h => h) (.inl ⟨rfl, fun _ _ => rfl⟩) hS rfl ?_
                      refine takeA (i := 5) (v := .pointer (some ⟨g, 3, none⟩)) ({ tmps := #[.slice (some ⟨b, off, none⟩) m cap, undef, u2, .pointer (some ⟨B, 0, none⟩), .pointer (some ⟨C, 0, none⟩), .int .i64 ↑zk, .int .i64 ↑i, .pointer (some ⟨g, 0, none⟩), .int .i64 0, .bool true, .bool false, .slice (some ⟨b, off, none⟩) m cap, .int .i64 ↑m, .bool false, .pointer (some ⟨B, 0, none⟩), u15, u16, u17, u18, u19, u20, u21, u22, u23, u24, u25, u26, u27, u28, u29, u30, u31, u32, u33, u34, u35, u36, u37, u38, u39, u40, u41, u42, u43, u44, u45, .bool false, .pointer (some ⟨g, 1, none⟩), .int .i64 0, .pointer (some ⟨g, 3, none⟩), .slice sp sm sc, .string (strOfNums sl), .pointer (some ⟨C, 0, none⟩), .int .i64 ↑zk, .bool true, .pointer (some ⟨g, 1, none⟩), .int .i64 0, .pointer (some ⟨g, 3, none⟩), .slice sp sm sc, .int .i64 ↑zk, .pointer (some ⟨g, 3, none⟩), u61, u62, u63, u64, u65, u66, u67, u68, u69, u70, u71, u72, u73, u74, u75, u76, u77, u78, u79, u80, u81, u82, u83, u84, u85, u86, u87, u88, u89, u90, u91, u92, u93, u94, u95, u96, u97, u98, u99, u100, u101, u102], defers := [] }) rfl (by kernel_rfl) (by kernel_rfl) (by kernel_rfl) (fun _ _ _ h => h) (.inl ⟨rfl, fun _ _ => by go_simp⟩) hS rfl ?_
                      refine takeA (i := 6) (v := .slice sp sm sc) ({ tmps := #[.slice (some ⟨b, off, none⟩) m cap, undef, u2, .pointer (some ⟨B, 0, none⟩), .pointer (some ⟨C, 0, none⟩), .int .i64 ↑zk, .int .i64 ↑i, .pointer (some ⟨g, 0, none⟩), .int .i64 0, .bool true, .bool false, .slice (some ⟨b, off, none⟩) m cap, .int .i64 ↑m, .bool false, .pointer (some ⟨B, 0, none⟩), u15, u16, u17, u18, u19, u20, u21, u22, u23, u24, u25, u26, u27, u28, u29, u30, u31, u32, u33, u34, u35, u36, u37, u38, u39, u40, u41, u42, u43, u44, u45, .bool false, .pointer (some ⟨g, 1, none⟩), .int .i64 0, .pointer (some ⟨g, 3, none⟩), .slice sp sm sc, .string (strOfNums sl), .pointer (some ⟨C, 0, none⟩), .int .i64 ↑zk, .bool true, .pointer (some ⟨g, 1, none⟩), .int .i64 0, .pointer (some ⟨g, 3, none⟩), .slice sp sm sc, .int .i64 ↑zk, .pointer (some ⟨g, 3, none⟩), .slice sp sm sc, u62, u63, u64, u65, u66, u67, u68, u69, u70, u71, u72, u73, u74, u75, u76, u77, u78, u79, u80, u81, u82, u83, u84, u85, u86, u87, u88, u89, u90, u91, u92, u93, u94, u95, u96, u97, u98, u99, u100, u101, u102], defers := [] }) rfl (by kernel_rfl) (by kernel_rfl) (by kernel_rfl) (fun _ _ _ h => h) (yi_load 27 _ (.pointer (some ⟨g, 3, none⟩)) rfl rfl rfl (fun w hw => by have q := cell_of hw.2 (i := 3) rfl; go_simp)) hS rfl ?_
                      refine takeA (i := 7) (v := .int .i64 ↑sm) ({ tmps := #[.slice (some ⟨b, off, none⟩) m cap, undef, u2, .pointer (some ⟨B, 0, none⟩), .pointer (some ⟨C, 0, none⟩), .int .i64 ↑zk, .int .i64 ↑i, .pointer (some ⟨g, 0, none⟩), .int .i64 0, .bool true, .bool false, .slice (some ⟨b, off, none⟩) m cap, .int .i64 ↑m, .bool false, .pointer (some ⟨B, 0, none⟩), u15, u16, u17, u18, u19, u20, u21, u22, u23, u24, u25, u26, u27, u28, u29, u30, u31, u32, u33, u34, u35, u36, u37, u38, u39, u40, u41, u42, u43, u44, u45, .bool false, .pointer (some ⟨g, 1, none⟩), .int .i64 0, .pointer (some ⟨g, 3, none⟩), .slice sp sm sc, .string (strOfNums sl), .pointer (some ⟨C, 0, none⟩), .int .i64 ↑zk, .bool true, .pointer (some ⟨g, 1, none⟩), .int .i64 0, .pointer (some ⟨g, 3, none⟩), .slice sp sm sc, .int .i64 ↑zk, .pointer (some ⟨g, 3, none⟩), .slice sp sm sc, .int .i64 ↑sm, u63, u64, u65, u66, u67, u68, u69, u70, u71, u72, u73, u74, u75, u76, u77, u78, u79, u80, u81, u82, u83, u84, u85, u86, u87, u88, u89, u90, u91, u92, u93, u94, u95, u96, u97, u98, u99, u100, u101, u102], defers := [] }) rfl (by kernel_rfl) (by kernel_rfl) (by kernel_rfl) (fun _ _ _ h => h) (.inl ⟨rfl, fun _ _ => by go_simp⟩) hS rfl ?_
                      refine takeA (i := 8) (v := .int .i64 ↑zk) ({ tmps := #[.slice (some ⟨b, off, none⟩) m cap, undef, u2, .pointer (some ⟨B, 0, none⟩), .pointer (some ⟨C, 0, none⟩), .int .i64 ↑zk, .int .i64 ↑i, .pointer (some ⟨g, 0, none⟩), .int .i64 0, .bool true, .bool false, .slice (some ⟨b, off, none⟩) m cap, .int .i64 ↑m, .bool false, .pointer (some ⟨B, 0, none⟩), u15, u16, u17, u18, u19, u20, u21, u22, u23, u24, u25, u26, u27, u28, u29, u30, u31, u32, u33, u34, u35, u36, u37, u38, u39, u40, u41, u42, u43, u44, u45, .bool false, .pointer (some ⟨g, 1, none⟩), .int .i64 0, .pointer (some ⟨g, 3, none⟩), .slice sp sm sc, .string (strOfNums sl), .pointer (some ⟨C, 0, none⟩), .int .i64 ↑zk, .bool true, .pointer (some ⟨g, 1, none⟩), .int .i64 0, .pointer (some ⟨g, 3, none⟩), .slice sp sm sc, .int .i64 ↑zk, .pointer (some ⟨g, 3, none⟩), .slice sp sm sc, .int .i64 ↑sm, .int .i64 ↑zk, u64, u65, u66, u67, u68, u69, u70, u71, u72, u73, u74, u75, u76, u77, u78, u79, u80, u81, u82, u83, u84, u85, u86, u87, u88, u89, u90, u91, u92, u93, u94, u95, u96, u97, u98, u99, u100, u101, u102], defers := [] }) rfl (by kernel_rfl) (by kernel_rfl) (by kernel_rfl) (fun _ _ _ h => h) (.inl ⟨rfl, fun _ _ => by go_simp⟩) hS rfl ?_
                      refine takeA (i := 9) (v := .slice sp zk sc) ({ tmps := #[.slice (some ⟨b, off, none⟩) m cap, undef, u2, .pointer (some ⟨B, 0, none⟩), .pointer (some ⟨C, 0, none⟩), .int .i64 ↑zk, .int .i64 ↑i, .pointer (some ⟨g, 0, none⟩), .int .i64 0, .bool true, .bool false, .slice (some ⟨b, off, none⟩) m cap, .int .i64 ↑m, .bool false, .pointer (some ⟨B, 0, none⟩), u15, u16, u17, u18, u19, u20, u21, u22, u23, u24, u25, u26, u27, u28, u29, u30, u31, u32, u33, u34, u35, u36, u37, u38, u39, u40, u41, u42, u43, u44, u45, .bool false, .pointer (some ⟨g, 1, none⟩), .int .i64 0, .pointer (some ⟨g, 3, none⟩), .slice sp sm sc, .string (strOfNums sl), .pointer (some ⟨C, 0, none⟩), .int .i64 ↑zk, .bool true, .pointer (some ⟨g, 1, none⟩), .int .i64 0, .pointer (some ⟨g, 3, none⟩), .slice sp sm sc, .int .i64 ↑zk, .pointer (some ⟨g, 3, none⟩), .slice sp sm sc, .int .i64 ↑sm, .int .i64 ↑zk, .slice sp zk sc, u65, u66, u67, u68, u69, u70, u71, u72, u73, u74, u75, u76, u77, u78, u79, u80, u81, u82, u83, u84, u85, u86, u87, u88, u89, u90, u91, u92, u93, u94, u95, u96, u97, u98, u99, u100, u101, u102], defers := [] }) rfl (by kernel_rfl) (by kernel_rfl) (by kernel_rfl) (fun _ _ _ h => h) (.inl ⟨rfl, fun _ _ => by go_simp⟩) hS rfl ?_
                      refine takeA (i := 10) (v := .string (strOfNums (sl.take zk))) ({ tmps := #[.slice (some ⟨b, off, none⟩) m cap, undef, u2, .pointer (some ⟨B, 0, none⟩), .pointer (some ⟨C, 0, none⟩), .int .i64 ↑zk, .int .i64 ↑i, .pointer (some ⟨g, 0, none⟩), .int .i64 0, .bool true, .bool false, .slice (some ⟨b, off, none⟩) m cap, .int .i64 ↑m, .bool false, .pointer (some ⟨B, 0, none⟩), u15, u16, u17, u18, u19, u20, u21, u22, u23, u24, u25, u26, u27, u28, u29, u30, u31, u32, u33, u34, u35, u36, u37, u38, u39, u40, u41, u42, u43, u44, u45, .bool false, .pointer (some ⟨g, 1, none⟩), .int .i64 0, .pointer (some ⟨g, 3, none⟩), .slice sp sm sc, .string (strOfNums sl), .pointer (some ⟨C, 0, none⟩), .int .i64 ↑zk, .bool true, .pointer (some ⟨g, 1, none⟩), .int .i64 0, .pointer (some ⟨g, 3, none⟩), .slice sp sm sc, .int .i64 ↑zk, .pointer (some ⟨g, 3, none⟩), .slice sp sm sc, .int .i64 ↑sm, .int .i64 ↑zk, .slice sp zk sc, .string (strOfNums (sl.take zk)), u66, u67, u68, u69, u70, u71, u72, u73, u74, u75, u76, u77, u78, u79, u80, u81, u82, u83, u84, u85, u86, u87, u88, u89, u90, u91, u92, u93, u94, u95, u96, u97, u98, u99, u100, u101, u102], defers := [] }) rfl (by kernel_rfl) (by kernel_rfl) (by kernel_rfl) (fun _ _ _ h => h) (yi_conv 27 9 _ (.slice sp zk sc) rfl rfl rfl (fun w hw => SB.out w hw.1)) hS rfl ?_
                      refine takeA (i := 11) (v := .pointer (some ⟨C, 0, none⟩)) ({ tmps := #[.slice (some ⟨b, off, none⟩) m cap, undef, u2, .pointer (some ⟨B, 0, none⟩), .pointer (some ⟨C, 0, none⟩), .int .i64 ↑zk, .int .i64 ↑i, .pointer (some ⟨g, 0, none⟩), .int .i64 0, .bool true, .bool false, .slice (some ⟨b, off, none⟩) m cap, .int .i64 ↑m, .bool false, .pointer (some ⟨B, 0, none⟩), u15, u16, u17, u18, u19, u20, u21, u22, u23, u24, u25, u26, u27, u28, u29, u30, u31, u32, u33, u34, u35, u36, u37, u38, u39, u40, u41, u42, u43, u44, u45, .bool false, .pointer (some ⟨g, 1, none⟩), .int .i64 0, .pointer (some ⟨g, 3, none⟩), .slice sp sm sc, .string (strOfNums sl), .pointer (some ⟨C, 0, none⟩), .int .i64 ↑zk, .bool true, .pointer (some ⟨g, 1, none⟩), .int .i64 0, .pointer (some ⟨g, 3, none⟩), .slice sp sm sc, .int .i64 ↑zk, .pointer (some ⟨g, 3, none⟩), .slice sp sm sc, .int .i64 ↑sm, .int .i64 ↑zk, .slice sp zk sc, .string (strOfNums (sl.take zk)), .pointer (some ⟨C, 0, none⟩), u67, u68, u69, u70, u71, u72, u73, u74, u75, u76, u77, u78, u79, u80, u81, u82, u83, u84, u85, u86, u87, u88, u89, u90, u91, u92, u93, u94, u95, u96, u97, u98, u99, u100, u101, u102], defers := [] }) rfl (by kernel_rfl) (by kernel_rfl) (by kernel_rfl) (fun _ _ _ h => h) (.inl ⟨rfl, fun _ _ => by go_simp⟩) hS rfl ?_
                      refine wpAnyH_ready (rs := [12]) (by kernel_rfl) (by simp) ?_
                      refine AllReadyH.cons rfl (fun K hK => ?_) AllReadyH.nil
                      rw [if_pos (by rfl)]
                      go_simp
                      refine hK.out ({ tmps := #[.slice (some ⟨b, off, none⟩) m cap, undef, u2, .pointer (some ⟨B, 0, none⟩), .pointer (some ⟨C, 0, none⟩), .int .i64 ↑zk, .int .i64 ↑i, .pointer (some ⟨g, 0, none⟩), .int .i64 0, .bool true, .bool false, .slice (some ⟨b, off, none⟩) m cap, .int .i64 ↑m, .bool false, .pointer (some ⟨B, 0, none⟩), u15, u16, u17, u18, u19, u20, u21, u22, u23, u24, u25, u26, u27, u28, u29, u30, u31, u32, u33, u34, u35, u36, u37, u38, u39, u40, u41, u42, u43, u44, u45, .bool false, .pointer (some ⟨g, 1, none⟩), .int .i64 0, .pointer (some ⟨g, 3, none⟩), .slice sp sm sc, .string (strOfNums sl), .pointer (some ⟨C, 0, none⟩), .int .i64 ↑zk, .bool true, .pointer (some ⟨g, 1, none⟩), .int .i64 0, .pointer (some ⟨g, 3, none⟩), .slice sp sm sc, .int .i64 ↑zk, .pointer (some ⟨g, 3, none⟩), .slice sp sm sc, .int .i64 ↑sm, .int .i64 ↑zk, .slice sp zk sc, .string (strOfNums (sl.take zk)), .pointer (some ⟨C, 0, none⟩), u67, u68, u69, u70, u71, u72, u73, u74, u75, u76, u77, u78, u79, u80, u81, u82, u83, u84, u85, u86, u87, u88, u89, u90, u91, u92, u93, u94, u95, u96, u97, u98, u99, u100, u101, u102], defers := [] }) _ (⟨(M1.out.k.up ((Kept.refl _ W1).setCell ⟨C, 0, none⟩ _ (fun _ => rfl)) M1.out.hC).drew, (((Kept.refl (fun k => k = C) W1).setCell ⟨C, 0, none⟩ _ (fun _ => rfl)).block g (lt_of_block M1.out.gc) M1.out.gC).trans M1.out.gc⟩) (fun hS => ?_)
                      clear hK K
                      refine wpAnyH_done (by kernel_rfl) ?_ _
                      clear hS
                      go_wp2_with fail
                      go_meet
                      refine ⟨-1, rfl, by rw [he], Lib.hid ((M1.out.lay 0 _ (by rw [HWR.out]; rfl) (by rw [HWR.out]; rfl) (by rw [HWR.out]; intro h; cases h) (by unfold i64r; omega)).up (Kept.refl _ _).drew)⟩
                · obtain rfl : area = 1 := by omega
                  have hb : (decide ((1 : Int) < 0) || decide ((1 : Int) < 1)) = false := by decide
                  rw [hb]
                  have hl40 : sl.length ≤ 40040 := by have := HSL.out; omega
                  have y0 : W.cell? ⟨C, 1, none⟩ = some (.string (strOfNums d.a1)) := cell_of IW.out.ar (i := 1) rfl
                  have y1 : W.frozen? ⟨C, 1, none⟩ = false := frozen_of IW.out.ar
                  have hs := SA.out W IW.out.k
                  have hgt : ⟨g, 1, none⟩ ≠ (⟨C, 1, none⟩ : Addr) := fun e => NE.out.2.1 (congrArg Addr.block e)
                  have NG := Lib.hid hgt
                  clear hgt
                  cases ha : d.armed with
                  | false =>
                    have hzf : decide (0 ≤ z) = false := IW.out.zd.trans ha
                    have M1 : Hid (Mid w (W.setCell ⟨C, 1, none⟩ (.string (strOfNums sl))) B C g d (d.write 1 sl) z #[.int .i64 what, .int .i64 1, .int .i64 sn, .slice sp sm sc]) := Lib.hid ((IW.out.mid HG.out NE.out).lay 1 _ (by rw [wr_ok (by decide) hl40 ha]; rfl) (by rw [wr_ok (by decide) hl40 ha]; exact hzf) (by rw [wr_ok (by decide) hl40 ha]; intro h; cases h) IW.out.zr)
                    have he := err_ok (x := 1) (l := sl) (by decide) hl40 ha
                    clear IW HG ha hl40
                    go_wp2_with fail
                    go_meet
                    exact ⟨z, rfl, by rw [he], M1⟩
                  | true =>
                    have hzf : decide (0 ≤ z) = true := IW.out.zd.trans ha
                    have hzn := IW.out.zn ha
                    obtain ⟨zk, rfl⟩ := Int.eq_ofNat_of_zero_le (of_decide_eq_true hzf)
                    have M1 : Hid (Mid w (W.setCell ⟨C, 1, none⟩ (.string (strOfNums sl))) B C g d { d with a1 := sl } zk #[.int .i64 what, .int .i64 1, .int .i64 sn, .slice sp sm sc]) := Lib.hid ((IW.out.mid HG.out NE.out).lay 1 _ rfl (hzf.trans ha.symm) (fun _ => hzn) IW.out.zr)
                    have he := err_pw (x := 1) (l := sl) (by decide) hl40 ha
                    have hwr : d.write 1 sl = d.put 1 (sl.take zk) := by rw [wr_pw (by decide) hl40 ha, ← hzn]; rfl
                    have z0 : (W.setCell ⟨C, 1, none⟩ (.string (strOfNums sl))).cell? ⟨C, 1, none⟩ = some (.string (strOfNums sl)) := cell_of M1.out.ar (i := 1) rfl
                    have z1 : (W.setCell ⟨C, 1, none⟩ (.string (strOfNums sl))).frozen? ⟨C, 1, none⟩ = false := frozen_of M1.out.ar
                    obtain ⟨W1, hW1⟩ : ∃ W1, W1 = W.setCell ⟨C, 1, none⟩ (.string (strOfNums sl)) := ⟨_, rfl⟩
                    rw [← hW1] at M1 z0 z1
                    have EW1 := Lib.hid hW1
                    have HWR := Lib.hid hwr
                    clear hW1 IW HG ha hl40 hwr
                    have HZN := Lib.hid hzn
                    clear hzn
                    go_upto_region 22 with fail
                    rw [← EW1.out]
                    clear EW1 y0 y1 hs c0 c1 c2 c3
                    rcases Nat.lt_or_ge sm zk with hq | hq
                    · have hqi : (sm : Int) < (zk : Int) := by omega
                      have hkc : (sm : Int) ≤ (sc : Int) := by have := HFI.out; omega
                      have SB := Lib.hid (fun w' (h : Kept (fun _ => False) w w') => str_take (c := sc) (k := sm) (bytes_kept HXO.out.bytes h (fun _ _ _ h => h)) (by have := HSL.out; simp only; omega) HNL.out)
                      simp only at SB
                      have hta : sl.take zk = sl.take sm := by rw [List.take_of_length_le (by have := HSL.out; omega), List.take_of_length_le (by have := HSL.out; omega)]
                      have HTA := Lib.hid hta
                      clear hta
                      refine wp_region_held_drew (S := fun w' => Kept (fun _ => False) w w' ∧ w'.heap[g]? = some (.cells #[.int .i64 what, .int .i64 1, .int .i64 sn, .slice sp sm sc] 29 (0, 0))) (by kernel_rfl) (⟨M1.out.k.drew, M1.out.gc⟩) (fun hS => ?_)
                      refine takeA (i := 0) (v := .pointer (some ⟨g, 1, none⟩)) ({ tmps := #[.slice (some ⟨b, off, none⟩) m cap, undef, u2, .pointer (some ⟨B, 0, none⟩), .pointer (some ⟨C, 0, none⟩), .int .i64 ↑zk, .int .i64 ↑i, .pointer (some ⟨g, 0, none⟩), .int .i64 0, .bool true, .bool false, .slice (some ⟨b, off, none⟩) m cap, .int .i64 ↑m, .bool false, .pointer (some ⟨B, 0, none⟩), u15, u16, u17, u18, u19, u20, u21, u22, u23, u24, u25, u26, u27, u28, u29, u30, u31, u32, u33, u34, u35, u36, u37, u38, u39, u40, u41, u42, u43, u44, u45, .bool false, .pointer (some ⟨g, 1, none⟩), .int .i64 1, .pointer (some ⟨g, 3, none⟩), .slice sp sm sc, .string (strOfNums sl), .pointer (some ⟨C, 1, none⟩), .int .i64 ↑zk, .bool true, .pointer (some ⟨g, 1, none⟩), u56, u57, u58, u59, u60, u61, u62, u63, u64, u65, u66, u67, u68, u69, u70, u71, u72, u73, u74, u75, u76, u77, u78, u79, u80, u81, u82, u83, u84, u85, u86, u87, u88, u89, u90, u91, u92, u93, u94, u95, u96, u97, u98, u99, u100, u101, u102], defers := [] }) rfl (by kernel_rfl) (by kernel_rfl) (by kernel_rfl) (fun _ _ _ h => h) (.inl ⟨rfl, fun _ _ => by go_simp⟩) hS rfl ?_
                      refine takeA (i := 1) (v := .int .i64 1) ({ tmps := #[.slice (some ⟨b, off, none⟩) m cap, undef, u2, .pointer (some ⟨B, 0, none⟩), .pointer (some ⟨C, 0, none⟩), .int .i64 ↑zk, .int .i64 ↑i, .pointer (some ⟨g, 0, none⟩), .int .i64 0, .bool true, .bool false, .slice (some ⟨b, off, none⟩) m cap, .int .i64 ↑m, .bool false, .pointer (some ⟨B, 0, none⟩), u15, u16, u17, u18, u19, u20, u21, u22, u23, u24, u25, u26, u27, u28, u29, u30, u31, u32, u33, u34, u35, u36, u37, u38, u39, u40, u41, u42, u43, u44, u45, .bool false, .pointer (some ⟨g, 1, none⟩), .int .i64 1, .pointer (some ⟨g, 3, none⟩), .slice sp sm sc, .string (strOfNums sl), .pointer (some ⟨C, 1, none⟩), .int .i64 ↑zk, .bool true, .pointer (some ⟨g, 1, none⟩), .int .i64 1, u57, u58, u59, u60, u61, u62, u63, u64, u65, u66, u67, u68, u69, u70, u71, u72, u73, u74, u75, u76, u77, u78, u79, u80, u81, u82, u83, u84, u85, u86, u87, u88, u89, u90, u91, u92, u93, u94, u95, u96, u97, u98, u99, u100, u101, u102], defers := [] }) rfl (by kernel_rfl) (by kernel_rfl) (by kernel_rfl) (fun _ _ _ h => h) (yi_load 3 _ (.pointer (some ⟨g, 1, none⟩)) rfl rfl rfl (fun w hw => by have q := cell_of hw.2 (i := 1) rfl; go_simp)) hS rfl ?_
                      refine takeA (i := 2) (v := .pointer (some ⟨g, 3, none⟩)) ({ tmps := #[.slice (some ⟨b, off, none⟩) m cap, undef, u2, .pointer (some ⟨B, 0, none⟩), .pointer (some ⟨C, 0, none⟩), .int .i64 ↑zk, .int .i64 ↑i, .pointer (some ⟨g, 0, none⟩), .int .i64 0, .bool true, .bool false, .slice (some ⟨b, off, none⟩) m cap, .int .i64 ↑m, .bool false, .pointer (some ⟨B, 0, none⟩), u15, u16, u17, u18, u19, u20, u21, u22, u23, u24, u25, u26, u27, u28, u29, u30, u31, u32, u33, u34, u35, u36, u37, u38, u39, u40, u41, u42, u43, u44, u45, .bool false, .pointer (some ⟨g, 1, none⟩), .int .i64 1, .pointer (some ⟨g, 3, none⟩), .slice sp sm sc, .string (strOfNums sl), .pointer (some ⟨C, 1, none⟩), .int .i64 ↑zk, .bool true, .pointer (some ⟨g, 1, none⟩), .int .i64 1, .pointer (some ⟨g, 3, none⟩), u58, u59, u60, u61, u62, u63, u64, u65, u66, u67, u68, u69, u70, u71, u72, u73, u74, u75, u76, u77, u78, u79, u80, u81, u82, u83, u84, u85, u86, u87, u88, u89, u90, u91, u92, u93, u94, u95, u96, u97, u98, u99, u100, u101, u102], defers := [] }) rfl (by kernel_rfl) (by kernel_rfl) (by kernel_rfl) (fun _ _ _ h => h) (.inl ⟨rfl, fun _ _ => by go_simp⟩) hS rfl ?_
                      refine takeA (i := 3) (v := .slice sp sm sc) ({ tmps := #[.slice (some ⟨b, off, none⟩) m cap, undef, u2, .pointer (some ⟨B, 0, none⟩), .pointer (some ⟨C, 0, none⟩), .int .i64 ↑zk, .int .i64 ↑i, .pointer (some ⟨g, 0, none⟩), .int .i64 0, .bool true, .bool false, .slice (some ⟨b, off, none⟩) m cap, .int .i64 ↑m, .bool false, .pointer (some ⟨B, 0, none⟩), u15, u16, u17, u18, u19, u20, u21, u22, u23, u24, u25, u26, u27, u28, u29, u30, u31, u32, u33, u34, u35, u36, u37, u38, u39, u40, u41, u42, u43, u44, u45, .bool false, .pointer (some ⟨g, 1, none⟩), .int .i64 1, .pointer (some ⟨g, 3, none⟩), .slice sp sm sc, .string (strOfNums sl), .pointer (some ⟨C, 1, none⟩), .int .i64 ↑zk, .bool true, .pointer (some ⟨g, 1, none⟩), .int .i64 1, .pointer (some ⟨g, 3, none⟩), .slice sp sm sc, u59, u60, u61, u62, u63, u64, u65, u66, u67, u68, u69, u70, u71, u72, u73, u74, u75, u76, u77, u78, u79, u80, u81, u82, u83, u84, u85, u86, u87, u88, u89, u90, u91, u92, u93, u94, u95, u96, u97, u98, u99, u100, u101, u102], defers := [] }) rfl (by kernel_rfl) (by kernel_rfl) (by kernel_rfl) (fun _ _ _ h => h) (yi_load 27 _ (.pointer (some ⟨g, 3, none⟩)) rfl rfl rfl (fun w hw => by have q := cell_of hw.2 (i := 3) rfl; go_simp)) hS rfl ?_
                      refine takeA (i := 4) (v := .int .i64 ↑zk) ({ tmps := #[.slice (some ⟨b, off, none⟩) m cap, undef, u2, .pointer (some ⟨B, 0, none⟩), .pointer (some ⟨C, 0, none⟩), .int .i64 ↑zk, .int .i64 ↑i, .pointer (some ⟨g, 0, none⟩), .int .i64 0, .bool true, .bool false, .slice (some ⟨b, off, none⟩) m cap, .int .i64 ↑m, .bool false, .pointer (some ⟨B, 0, none⟩), u15, u16, u17, u18, u19, u20, u21, u22, u23, u24, u25, u26, u27, u28, u29, u30, u31, u32, u33, u34, u35, u36, u37, u38, u39, u40, u41, u42, u43, u44, u45, .bool false, .pointer (some ⟨g, 1, none⟩), .int .i64 1, .pointer (some ⟨g, 3, none⟩), .slice sp sm sc, .string (strOfNums sl), .pointer (some ⟨C, 1, none⟩), .int .i64 ↑zk, .bool true, .pointer (some ⟨g, 1, none⟩), .int .i64 1, .pointer (some ⟨g, 3, none⟩), .slice sp sm sc, .int .i64 ↑zk, u60, u61, u62, u63, u64, u65, u66, u67, u68, u69, u70, u71, u72, u73, u74, u75, u76, u77, u78, u79, u80, u81, u82, u83, u84, u85, u86, u87, u88, u89, u90, u91, u92, u93, u94, u95, u96, u97, u98, u99, u100, u101, u102], defers := [] }) rfl (by kernel_rfl) (by kernel_rfl) (by kernel_rfl) (fun _ _ _ h => h) (.inl ⟨rfl, fun _ _ => rfl⟩) hS rfl ?_
                      refine takeA (i := 5) (v := .pointer (some ⟨g, 3, none⟩)) ({ tmps := #[.slice (some ⟨b, off, none⟩) m cap, undef, u2, .pointer (some ⟨B, 0, none⟩), .pointer (some ⟨C, 0, none⟩), .int .i64 ↑zk, .int .i64 ↑i, .pointer (some ⟨g, 0, none⟩), .int .i64 0, .bool true, .bool false, .slice (some ⟨b, off, none⟩) m cap, .int .i64 ↑m, .bool false, .pointer (some ⟨B, 0, none⟩), u15, u16, u17, u18, u19, u20, u21, u22, u23, u24, u25, u26, u27, u28, u29, u30, u31, u32, u33, u34, u35, u36, u37, u38, u39, u40, u41, u42, u43, u44, u45, .bool false, .pointer (some ⟨g, 1, none⟩), .int .i64 1, .pointer (some ⟨g, 3, none⟩), .slice sp sm sc, .string (strOfNums sl), .pointer (some ⟨C, 1, none⟩), .int .i64 ↑zk, .bool true, .pointer (some ⟨g, 1, none⟩), .int .i64 1, .pointer (some ⟨g, 3, none⟩), .slice sp sm sc, .int .i64 ↑zk, .pointer (some ⟨g, 3, none⟩), u61, u62, u63, u64, u65, u66, u67, u68, u69, u70, u71, u72, u73, u74, u75, u76, u77, u78, u79, u80, u81, u82, u83, u84, u85, u86, u87, u88, u89, u90, u91, u92, u93, u94, u95, u96, u97, u98, u99, u100, u101, u102], defers := [] }) rfl (by kernel_rfl) (by kernel_rfl) (by kernel_rfl) (fun _ _ _ h => h) (.inl ⟨rfl, fun _ _ => by go_simp⟩) hS rfl ?_
                      refine takeA (i := 6) (v := .slice sp sm sc) ({ tmps := #[.slice (some ⟨b, off, none⟩) m cap, undef, u2, .pointer (some ⟨B, 0, none⟩), .pointer (some ⟨C, 0, none⟩), .int .i64 ↑zk, .int .i64 ↑i, .pointer (some ⟨g, 0, none⟩), .int .i64 0, .bool true, .bool false, .slice (some ⟨b, off, none⟩) m cap, .int .i64 ↑m, .bool false, .pointer (some ⟨B, 0, none⟩), u15, u16, u17, u18, u19, u20, u21, u22, u23, u24, u25, u26, u27, u28, u29, u30, u31, u32, u33, u34, u35, u36, u37, u38, u39, u40, u41, u42, u43, u44, u45, .bool false, .pointer (some ⟨g, 1, none⟩), .int .i64 1, .pointer (some ⟨g, 3, none⟩), .slice sp sm sc, .string (strOfNums sl), .pointer (some ⟨C, 1, none⟩), .int .i64 ↑zk, .bool true, .pointer (some ⟨g, 1, none⟩), .int .i64 1, .pointer (some ⟨g, 3, none⟩), .slice sp sm sc, .int .i64 ↑zk, .pointer (some ⟨g, 3, none⟩), .slice sp sm sc, u62, u63, u64, u65, u66, u67, u68, u69, u70, u71, u72, u73, u74, u75, u76, u77, u78, u79, u80, u81, u82, u83, u84, u85, u86, u87, u88, u89, u90, u91, u92, u93, u94, u95, u96, u97, u98, u99, u100, u101, u102], defers := [] }) rfl (by kernel_rfl) (by kernel_rfl) (by kernel_rfl) (fun _ _ _ h => h) (yi_load 27 _ (.pointer (some ⟨g, 3, none⟩)) rfl rfl rfl (fun w hw => by have q := cell_of hw.2 (i := 3) rfl; go_simp)) hS rfl ?_
                      refine takeA (i := 7) (v := .int .i64 ↑sm) ({ tmps := #[.slice (some ⟨b, off, none⟩) m cap, undef, u2, .pointer (some ⟨B, 0, none⟩), .pointer (some ⟨C, 0, none⟩), .int .i64 ↑zk, .int .i64 ↑i, .pointer (some ⟨g, 0, none⟩), .int .i64 0, .bool true, .bool false, .slice (some ⟨b, off, none⟩) m cap, .int .i64 ↑m, .bool false, .pointer (some ⟨B, 0, none⟩), u15, u16, u17, u18, u19, u20, u21, u22, u23, u24, u25, u26, u27, u28, u29, u30, u31, u32, u33, u34, u35, u36, u37, u38, u39, u40, u41, u42, u43, u44, u45, .bool false, .pointer (some ⟨g, 1, none⟩), .int .i64 1, .pointer (some ⟨g, 3, none⟩), .slice sp sm sc, .string (strOfNums sl), .pointer (some ⟨C, 1, none⟩), .int .i64 ↑zk, .bool true, .pointer (some ⟨g, 1, none⟩), .int .i64 1, .pointer (some ⟨g, 3, none⟩), .slice sp sm sc, .int .i64 ↑zk, .pointer (some ⟨g, 3, none⟩), .slice sp sm sc, .int .i64 ↑sm, u63, u64, u65, u66, u67, u68, u69, u70, u71, u72, u73, u74, u75, u76, u77, u78, u79, u80, u81, u82, u83, u84, u85, u86, u87, u88, u89, u90, u91, u92, u93, u94, u95, u96, u97, u98, u99, u100, u101, u102], defers := [] }) rfl (by kernel_rfl) (by kernel_rfl) (by kernel_rfl) (fun _ _ _ h => h) (.inl ⟨rfl, fun _ _ => by go_simp⟩) hS rfl ?_
                      refine takeA (i := 8) (v := .int .i64 ↑sm) ({ tmps := #[.slice (some ⟨b, off, none⟩) m cap, undef, u2, .pointer (some ⟨B, 0, none⟩), .pointer (some ⟨C, 0, none⟩), .int .i64 ↑zk, .int .i64 ↑i, .pointer (some ⟨g, 0, none⟩), .int .i64 0, .bool true, .bool false, .slice (some ⟨b, off, none⟩) m cap, .int .i64 ↑m, .bool false, .pointer (some ⟨B, 0, none⟩), u15, u16, u17, u18, u19, u20, u21, u22, u23, u24, u25, u26, u27, u28, u29, u30, u31, u32, u33, u34, u35, u36, u37, u38, u39, u40, u41, u42, u43, u44, u45, .bool false, .pointer (some ⟨g, 1, none⟩), .int .i64 1, .pointer (some ⟨g, 3, none⟩), .slice sp sm sc, .string (strOfNums sl), .pointer (some ⟨C, 1, none⟩), .int .i64 ↑zk, .bool true, .pointer (some ⟨g, 1, none⟩), .int .i64 1, .pointer (some ⟨g, 3, none⟩), .slice sp sm sc, .int .i64 ↑zk, .pointer (some ⟨g, 3, none⟩), .slice sp sm sc, .int .i64 ↑sm, .int .i64 ↑sm, u64, u65, u66, u67, u68, u69, u70, u71, u72, u73, u74, u75, u76, u77, u78, u79, u80, u81, u82, u83, u84, u85, u86, u87, u88, u89, u90, u91, u92, u93, u94, u95, u96, u97, u98, u99, u100, u101, u102], defers := [] }) rfl (by kernel_rfl) (by kernel_rfl) (by kernel_rfl) (fun _ _ _ h => h) (.inl ⟨rfl, fun _ _ => by go_simp⟩) hS rfl ?_
                      refine takeA (i := 9) (v := .slice sp sm sc) ({ tmps := #[.slice (some ⟨b, off, none⟩) m cap, undef, u2, .pointer (some ⟨B, 0, none⟩), .pointer (some ⟨C, 0, none⟩), .int .i64 ↑zk, .int .i64 ↑i, .pointer (some ⟨g, 0, none⟩), .int .i64 0, .bool true, .bool false, .slice (some ⟨b, off, none⟩) m cap, .int .i64 ↑m, .bool false, .pointer (some ⟨B, 0, none⟩), u15, u16, u17, u18, u19, u20, u21, u22, u23, u24, u25, u26, u27, u28, u29, u30, u31, u32, u33, u34, u35, u36, u37, u38, u39, u40, u41, u42, u43, u44, u45, .bool false, .pointer (some ⟨g, 1, none⟩), .int .i64 1, .pointer (some ⟨g, 3, none⟩), .slice sp sm sc, .string (strOfNums sl), .pointer (some ⟨C, 1, none⟩), .int .i64 ↑zk, .bool true, .pointer (some ⟨g, 1, none⟩), .int .i64 1, .pointer (some ⟨g, 3, none⟩), .slice sp sm sc, .int .i64 ↑zk, .pointer (some ⟨g, 3, none⟩), .slice sp sm sc, .int .i64 ↑sm, .int .i64 ↑sm, .slice sp sm sc, u65, u66, u67, u68, u69, u70, u71, u72, u73, u74, u75, u76, u77, u78, u79, u80, u81, u82, u83, u84, u85, u86, u87, u88, u89, u90, u91, u92, u93, u94, u95, u96, u97, u98, u99, u100, u101, u102], defers := [] }) rfl (by kernel_rfl) (by kernel_rfl) (by kernel_rfl) (fun _ _ _ h => h) (.inl ⟨rfl, fun _ _ => by go_simp⟩) hS rfl ?_
                      refine takeA (i := 10) (v := .string (strOfNums (sl.take sm))) ({ tmps := #[.slice (some ⟨b, off, none⟩) m cap, undef, u2, .pointer (some ⟨B, 0, none⟩), .pointer (some ⟨C, 0, none⟩), .int .i64 ↑zk, .int .i64 ↑i, .pointer (some ⟨g, 0, none⟩), .int .i64 0, .bool true, .bool false, .slice (some ⟨b, off, none⟩) m cap, .int .i64 ↑m, .bool false, .pointer (some ⟨B, 0, none⟩), u15, u16, u17, u18, u19, u20, u21, u22, u23, u24, u25, u26, u27, u28, u29, u30, u31, u32, u33, u34, u35, u36, u37, u38, u39, u40, u41, u42, u43, u44, u45, .bool false, .pointer (some ⟨g, 1, none⟩), .int .i64 1, .pointer (some ⟨g, 3, none⟩), .slice sp sm sc, .string (strOfNums sl), .pointer (some ⟨C, 1, none⟩), .int .i64 ↑zk, .bool true, .pointer (some ⟨g, 1, none⟩), .int .i64 1, .pointer (some ⟨g, 3, none⟩), .slice sp sm sc, .int .i64 ↑zk, .pointer (some ⟨g, 3, none⟩), .slice sp sm sc, .int .i64 ↑sm, .int .i64 ↑sm, .slice sp sm sc, .string (strOfNums (sl.take sm)), u66, u67, u68, u69, u70, u71, u72, u73, u74, u75, u76, u77, u78, u79, u80, u81, u82, u83, u84, u85, u86, u87, u88, u89, u90, u91, u92, u93, u94, u95, u96, u97, u98, u99, u100, u101, u102], defers := [] }) rfl (by kernel_rfl) (by kernel_rfl) (by kernel_rfl) (fun _ _ _ h => h) (yi_conv 27 9 _ (.slice sp sm sc) rfl rfl rfl (fun w hw => SB.out w hw.1)) hS rfl ?_
                      refine takeA (i := 11) (v := .pointer (some ⟨C, 1, none⟩)) ({ tmps := #[.slice (some ⟨b, off, none⟩) m cap, undef, u2, .pointer (some ⟨B, 0, none⟩), .pointer (some ⟨C, 0, none⟩), .int .i64 ↑zk, .int .i64 ↑i, .pointer (some ⟨g, 0, none⟩), .int .i64 0, .bool true, .bool false, .slice (some ⟨b, off, none⟩) m cap, .int .i64 ↑m, .bool false, .pointer (some ⟨B, 0, none⟩), u15, u16, u17, u18, u19, u20, u21, u22, u23, u24, u25, u26, u27, u28, u29, u30, u31, u32, u33, u34, u35, u36, u37, u38, u39, u40, u41, u42, u43, u44, u45, .bool false, .pointer (some ⟨g, 1, none⟩), .int .i64 1, .pointer (some ⟨g, 3, none⟩), .slice sp sm sc, .string (strOfNums sl), .pointer (some ⟨C, 1, none⟩), .int .i64 ↑zk, .bool true, .pointer (some ⟨g, 1, none⟩), .int .i64 1, .pointer (some ⟨g, 3, none⟩), .slice sp sm sc, .int .i64 ↑zk, .pointer (some ⟨g, 3, none⟩), .slice sp sm sc, .int .i64 ↑sm, .int .i64 ↑sm, .slice sp sm sc, .string (strOfNums (sl.take sm)), .pointer (some ⟨C, 1, none⟩), u67, u68, u69, u70, u71, u72, u73, u74, u75, u76, u77, u78, u79, u80, u81, u82, u83, u84, u85, u86, u87, u88, u89, u90, u91, u92, u93, u94, u95, u96, u97, u98, u99, u100, u101, u102], defers := [] }) rfl (by kernel_rfl) (by kernel_rfl) (by kernel_rfl) (fun _ _ _ h => h) (.inl ⟨rfl, fun _ _ => by go_simp⟩) hS rfl ?_
                      refine wpAnyH_ready (rs := [12]) (by kernel_rfl) (by simp) ?_
                      refine AllReadyH.cons rfl (fun K hK => ?_) AllReadyH.nil
                      rw [if_pos (by rfl)]
                      go_simp
                      refine hK.out ({ tmps := #[.slice (some ⟨b, off, none⟩) m cap, undef, u2, .pointer (some ⟨B, 0, none⟩), .pointer (some ⟨C, 0, none⟩), .int .i64 ↑zk, .int .i64 ↑i, .pointer (some ⟨g, 0, none⟩), .int .i64 0, .bool true, .bool false, .slice (some ⟨b, off, none⟩) m cap, .int .i64 ↑m, .bool false, .pointer (some ⟨B, 0, none⟩), u15, u16, u17, u18, u19, u20, u21, u22, u23, u24, u25, u26, u27, u28, u29, u30, u31, u32, u33, u34, u35, u36, u37, u38, u39, u40, u41, u42, u43, u44, u45, .bool false, .pointer (some ⟨g, 1, none⟩), .int .i64 1, .pointer (some ⟨g, 3, none⟩), .slice sp sm sc, .string (strOfNums sl), .pointer (some ⟨C, 1, none⟩), .int .i64 ↑zk, .bool true, .pointer (some ⟨g, 1, none⟩), .int .i64 1, .pointer (some ⟨g, 3, none⟩), .slice sp sm sc, .int .i64 ↑zk, .pointer (some ⟨g, 3, none⟩), .slice sp sm sc, .int .i64 ↑sm, .int .i64 ↑sm, .slice sp sm sc, .string (strOfNums (sl.take sm)), .pointer (some ⟨C, 1, none⟩), u67, u68, u69, u70, u71, u72, u73, u74, u75, u76, u77, u78, u79, u80, u81, u82, u83, u84, u85, u86, u87, u88, u89, u90, u91, u92, u93, u94, u95, u96, u97, u98, u99, u100, u101, u102], defers := [] }) _ (⟨(M1.out.k.up ((Kept.refl _ W1).setCell ⟨C, 1, none⟩ _ (fun _ => rfl)) M1.out.hC).drew, (((Kept.refl (fun k => k = C) W1).setCell ⟨C, 1, none⟩ _ (fun _ => rfl)).block g (lt_of_block M1.out.gc) M1.out.gC).trans M1.out.gc⟩) (fun hS => ?_)
                      clear hK K
                      refine wpAnyH_done (by kernel_rfl) ?_ _
                      clear hS
                      go_wp2_with fail
                      go_meet
                      refine ⟨-1, rfl, by rw [he], Lib.hid ((M1.out.lay 1 _ (by rw [HWR.out, HTA.out]; rfl) (by rw [HWR.out]; rfl) (by rw [HWR.out]; intro h; cases h) (by unfold i64r; omega)).up (Kept.refl _ _).drew)⟩
                    · have hqi : ¬ ((sm : Int) < (zk : Int)) := by omega
                      have hkc : (zk : Int) ≤ (sc : Int) := by have := HFI.out; omega
                      have SB := Lib.hid (fun w' (h : Kept (fun _ => False) w w') => str_take (c := sc) (k := zk) (bytes_kept HXO.out.bytes h (fun _ _ _ h => h)) (by have := HSL.out; simp only; omega) HNL.out)
                      simp only at SB
                      refine wp_region_held_drew (S := fun w' => Kept (fun _ => False) w w' ∧ w'.heap[g]? = some (.cells #[.int .i64 what, .int .i64 1, .int .i64 sn, .slice sp sm sc] 29 (0, 0))) (by kernel_rfl) (⟨M1.out.k.drew, M1.out.gc⟩) (fun hS => ?_)
                      refine takeA (i := 0) (v := .pointer (some ⟨g, 1, none⟩)) ({ tmps := #[.slice (some ⟨b, off, none⟩) m cap, undef, u2, .pointer (some ⟨B, 0, none⟩), .pointer (some ⟨C, 0, none⟩), .int .i64 ↑zk, .int .i64 ↑i, .pointer (some ⟨g, 0, none⟩), .int .i64 0, .bool true, .bool false, .slice (some ⟨b, off, none⟩) m cap, .int .i64 ↑m, .bool false, .pointer (some ⟨B, 0, none⟩), u15, u16, u17, u18, u19, u20, u21, u22, u23, u24, u25, u26, u27, u28, u29, u30, u31, u32, u33, u34, u35, u36, u37, u38, u39, u40, u41, u42, u43, u44, u45, .bool false, .pointer (some ⟨g, 1, none⟩), .int .i64 1, .pointer (some ⟨g, 3, none⟩), .slice sp sm sc, .string (strOfNums sl), .pointer (some ⟨C, 1, none⟩), .int .i64 ↑zk, .bool true, .pointer (some ⟨g, 1, none⟩), u56, u57, u58, u59, u60, u61, u62, u63, u64, u65, u66, u67, u68, u69, u70, u71, u72, u73, u74, u75, u76, u77, u78, u79, u80, u81, u82, u83, u84, u85, u86, u87, u88, u89, u90, u91, u92, u93, u94, u95, u96, u97, u98, u99, u100, u101, u102], defers := [] }) rfl (by kernel_rfl) (by kernel_rfl) (by kernel_rfl) (fun _ _ _ h => h) (.inl ⟨rfl, fun _ _ => by go_simp⟩) hS rfl ?_
                      refine takeA (i := 1) (v := .int .i64 1) ({ tmps := #[.slice (some ⟨b, off, none⟩) m cap, undef, u2, .pointer (some ⟨B, 0, none⟩), .pointer (some ⟨C, 0, none⟩), .int .i64 ↑zk, .int .i64 ↑i, .pointer (some ⟨g, 0, none⟩), .int .i64 0, .bool true, .bool false, .slice (some ⟨b, off, none⟩) m cap, .int .i64 ↑m, .bool false, .pointer (some ⟨B, 0, none⟩), u15, u16, u17, u18, u19, u20, u21, u22, u23, u24, u25, u26, u27, u28, u29, u30, u31, u32, u33, u34, u35, u36, u37, u38, u39, u40, u41, u42, u43, u44, u45, .bool false, .pointer (some ⟨g, 1, none⟩), .int .i64 1, .pointer (some ⟨g, 3, none⟩), .slice sp sm sc, .string (strOfNums sl), .pointer (some ⟨C, 1, none⟩), .int .i64 ↑zk, .bool true, .pointer (some ⟨g, 1, none⟩), .int .i64 1, u57, u58, u59, u60, u61, u62, u63, u64, u65, u66, u67, u68, u69, u70, u71, u72, u73, u74, u75, u76, u77, u78, u79, u80, u81, u82, u83, u84, u85, u86, u87, u88, u89, u90, u91, u92, u93, u94, u95, u96, u97, u98, u99, u100, u101, u102], defers := [] }) rfl (by kernel_rfl) (by kernel_rfl) (by kernel_rfl) (fun _ _ _ h => h) (yi_load 3 _ (.pointer (some ⟨g, 1, none⟩)) rfl rfl rfl (fun w hw => by have q := cell_of hw.2 (i := 1) rfl; go_simp)) hS rfl ?_
                      refine takeA (i := 2) (v := .pointer (some ⟨g, 3, none⟩)) ({ tmps := #[.slice (some ⟨b, off, none⟩) m cap, undef, u2, .pointer (some ⟨B, 0, none⟩), .pointer (some ⟨C, 0, none⟩), .int .i64 ↑zk, .int .i64 ↑i, .pointer (some ⟨g, 0, none⟩), .int .i64 0, .bool true, .bool false, .slice (some ⟨b, off, none⟩) m cap, .int .i64 ↑m, .bool false, .pointer (some ⟨B, 0, none⟩), u15, u16, u17, u18, u19, u20, u21, u22, u23, u24, u25, u26, u27, u28, u29, u30, u31, u32, u33, u34, u35, u36, u37, u38, u39, u40, u41, u42, u43, u44, u45, .bool false, .pointer (some ⟨g, 1, none⟩), .int .i64 1, .pointer (some ⟨g, 3, none⟩), .slice sp sm sc, .string (strOfNums sl), .pointer (some ⟨C, 1, none⟩), .int .i64 ↑zk, .bool true, .pointer (some ⟨g, 1, none⟩), .int .i64 1, .pointer (some ⟨g, 3, none⟩), u58, u59, u60, u61, u62, u63, u64, u65, u66, u67, u68, u69, u70, u71, u72, u73, u74, u75, u76, u77, u78, u79, u80, u81, u82, u83, u84, u85, u86, u87, u88, u89, u90, u91, u92, u93, u94, u95, u96, u97, u98, u99, u100, u101, u102], defers := [] }) rfl (by kernel_rfl) (by kernel_rfl) (by kernel_rfl) (fun _ _ _ h => h) (.inl ⟨rfl, fun _ _ => by go_simp⟩) hS rfl ?_
                      refine takeA (i := 3) (v := .slice sp sm sc) ({ tmps := #[.slice (some ⟨b, off, none⟩) m cap, undef, u2, .pointer (some ⟨B, 0, none⟩), .pointer (some ⟨C, 0, none⟩), .int .i64 ↑zk, .int .i64 ↑i, .pointer (some ⟨g, 0, none⟩), .int .i64 0, .bool true, .bool false, .slice (some ⟨b, off, none⟩) m cap, .int .i64 ↑m, .bool false, .pointer (some ⟨B, 0, none⟩), u15, u16, u17, u18, u19, u20, u21, u22, u23, u24, u25, u26, u27, u28, u29, u30, u31, u32, u33, u34, u35, u36, u37, u38, u39, u40, u41, u42, u43, u44, u45, .bool false, .pointer (some ⟨g, 1, none⟩), .int .i64 1, .pointer (some ⟨g, 3, none⟩), .slice sp sm sc, .string (strOfNums sl), .pointer (some ⟨C, 1, none⟩), .int .i64 ↑zk, .bool true, .pointer (some ⟨g, 1, none⟩), .int .i64 1, .pointer (some ⟨g, 3, none⟩), .slice sp sm sc, u59, u60, u61, u62, u63, u64, u65, u66, u67, u68, u69, u70, u71, u72, u73, u74, u75, u76, u77, u78, u79, u80, u81, u82, u83, u84, u85, u86, u87, u88, u89, u90, u91, u92, u93, u94, u95, u96, u97, u98, u99, u100, u101, u102], defers := [] }) rfl (by kernel_rfl) (by kernel_rfl) (by kernel_rfl) (fun _ _ _ h => h) (yi_load 27 _ (.pointer (some ⟨g, 3, none⟩)) rfl rfl rfl (fun w hw => by have q := cell_of hw.2 (i := 3) rfl; go_simp)) hS rfl ?_
                      refine takeA (i := 4) (v := .int .i64 ↑zk) ({ tmps := #[.slice (some ⟨b, off, none⟩) m cap, undef, u2, .pointer (some ⟨B, 0, none⟩), .pointer (some ⟨C, 0, none⟩), .int .i64 ↑zk, .int .i64 ↑i, .pointer (some ⟨g, 0, none⟩), .int .i64 0, .bool true, .bool false, .slice (some ⟨b, off, none⟩) m cap, .int .i64 ↑m, .bool false, .pointer (some ⟨B, 0, none⟩), u15, u16, u17, u18, u19, u20, u21, u22, u23, u24, u25, u26, u27, u28, u29, u30, u31, u32, u33, u34, u35, u36, u37, u38, u39, u40, u41, u42, u43, u44, u45, .bool false, .pointer (some ⟨g, 1, none⟩), .int .i64 1, .pointer (some ⟨g, 3, none⟩), .slice sp sm sc, .string (strOfNums sl), .pointer (some ⟨C, 1, none⟩), .int .i64 ↑zk, .bool true, .pointer (some ⟨g, 1, none⟩), .int .i64 1, .pointer (some ⟨g, 3, none⟩), .slice sp sm sc, .int .i64 ↑zk, u60, u61, u62, u63, u64, u65, u66, u67, u68, u69, u70, u71, u72, u73, u74, u75, u76, u77, u78, u79, u80, u81, u82, u83, u84, u85, u86, u87, u88, u89, u90, u91, u92, u93, u94, u95, u96, u97, u98, u99, u100, u101, u102], defers := [] }) rfl (by kernel_rfl) (by kernel_rfl) (by kernel_rfl) (fun _ _ _ h => h) (.inl ⟨rfl, fun _ _ => rfl⟩) hS rfl ?_
                      refine takeA (i := 5) (v := .pointer (some ⟨g, 3, none⟩)) ({ tmps := #[.slice (some ⟨b, off, none⟩) m cap, undef, u2, .pointer (some ⟨B, 0, none⟩), .pointer (some ⟨C, 0, none⟩), .int .i64 ↑zk, .int .i64 ↑i, .pointer (some ⟨g, 0, none⟩), .int .i64 0, .bool true, .bool false, .slice (some ⟨b, off, none⟩) m cap, .int .i64 ↑m, .bool false, .pointer (some ⟨B, 0, none⟩), u15, u16, u17, u18, u19, u20, u21, u22, u23, u24, u25, u26, u27, u28, u29, u30, u31, u32, u33, u34, u35, u36, u37, u38, u39, u40, u41, u42, u43, u44, u45, .bool false, .pointer (some ⟨g, 1, none⟩), .int .i64 1, .pointer (some ⟨g, 3, none⟩), .slice sp sm sc, .string (strOfNums sl), .pointer (some ⟨C, 1, none⟩), .int .i64 ↑zk, .bool true, .pointer (some ⟨g, 1, none⟩), .int .i64 1, .pointer (some ⟨g, 3, none⟩), .slice sp sm sc, .int .i64 ↑zk, .pointer (some ⟨g, 3, none⟩), u61, u62, u63, u64, u65, u66, u67, u68, u69, u70, u71, u72, u73, u74, u75, u76, u77, u78, u79, u80, u81, u82, u83, u84, u85, u86, u87, u88, u89, u90, u91, u92, u93, u94, u95, u96, u97, u98, u99, u100, u101, u102], defers := [] }) rfl (by kernel_rfl) (by kernel_rfl) (by kernel_rfl) (fun _ _ _ h => h) (.inl ⟨rfl, fun _ _ => by go_simp⟩) hS rfl ?_
                      refine takeA (i := 6) (v := .slice sp sm sc) ({ tmps := #[.slice (some ⟨b, off, none⟩) m cap, undef, u2, .pointer (some ⟨B, 0, none⟩), .pointer (some ⟨C, 0, none⟩), .int .i64 ↑zk, .int .i64 ↑i, .pointer (some ⟨g, 0, none⟩), .int .i64 0, .bool true, .bool false, .slice (some ⟨b, off, none⟩) m cap, .int .i64 ↑m, .bool false, .pointer (some ⟨B, 0, none⟩), u15, u16, u17, u18, u19, u20, u21, u22, u23, u24, u25, u26, u27, u28, u29, u30, u31, u32, u33, u34, u35, u36, u37, u38, u39, u40, u41, u42, u43, u44, u45, .bool false, .pointer (some ⟨g, 1, none⟩), .int .i64 1, .pointer (some ⟨g, 3, none⟩), .slice sp sm sc, .string (strOfNums sl), .pointer (some ⟨C, 1, none⟩), .int .i64 ↑zk, .bool true, .pointer (some ⟨g, 1, none⟩), .int .i64 1, .pointer (some ⟨g, 3, none⟩), .slice sp sm sc, .int .i64 ↑zk, .pointer (some ⟨g, 3, none⟩), .slice sp sm sc, u62, u63, u64, u65, u66, u67, u68, u69, u70, u71, u72, u73, u74, u75, u76, u77, u78, u79, u80, u81, u82, u83, u84, u85, u86, u87, u88, u89, u90, u91, u92, u93, u94, u95, u96, u97, u98, u99, u100, u101, u102], defers := [] }) rfl (by kernel_rfl) (by kernel_rfl) (by kernel_rfl) (fun _ _ _ h => h) (yi_load 27 _ (.pointer (some ⟨g, 3, none⟩)) rfl rfl rfl (fun w hw => by have q := cell_of hw.2 (i := 3) rfl; go_simp)) hS rfl ?_
                      refine takeA (i := 7) (v := .int .i64 ↑sm) ({ tmps := #[.slice (some ⟨b, off, none⟩) m cap, undef, u2, .pointer (some ⟨B, 0, none⟩), .pointer (some ⟨C, 0, none⟩), .int .i64 ↑zk, .int .i64 ↑i, .pointer (some ⟨g, 0, none⟩), .int .i64 0, .bool true, .bool false, .slice (some ⟨b, off, none⟩) m cap, .int .i64 ↑m, .bool false, .pointer (some ⟨B, 0, none⟩), u15, u16, u17, u18, u19, u20, u21, u22, u23, u24, u25, u26, u27, u28, u29, u30, u31, u32, u33, u34, u35, u36, u37, u38, u39, u40, u41, u42, u43, u44, u45, .bool false, .pointer (some ⟨g, 1, none⟩), .int .i64 1, .pointer (some ⟨g, 3, none⟩), .slice sp sm sc, .string (strOfNums sl), .pointer (some ⟨C, 1, none⟩), .int .i64 ↑zk, .bool true, .pointer (some ⟨g, 1, none⟩), .int .i64 1, .pointer (some ⟨g, 3, none⟩), .slice sp sm sc, .int .i64 ↑zk, .pointer (some ⟨g, 3, none⟩), .slice sp sm sc, .int .i64 ↑sm, u63, u64, u65, u66, u67, u68, u69, u70, u71, u72, u73, u74, u75, u76, u77, u78, u79, u80, u81, u82, u83, u84, u85, u86, u87, u88, u89, u90, u91, u92, u93, u94, u95, u96, u97, u98, u99, u100, u101, u102], defers := [] }) rfl (by kernel_rfl) (by kernel_rfl) (by kernel_rfl) (fun _ _ _ h => h) (.inl ⟨rfl, fun _ _ => by go_simp⟩) hS rfl ?_
                      refine takeA (i := 8) (v := .int .i64 ↑zk) ({ tmps := #[.slice (some ⟨b, off, none⟩) m cap, undef, u2, .pointer (some ⟨B, 0, none⟩), .pointer (some ⟨C, 0, none⟩), .int .i64 ↑zk, .int .i64 ↑i, .pointer (some ⟨g, 0, none⟩), .int .i64 0, .bool true, .bool false, .slice (some ⟨b, off, none⟩) m cap, .int .i64 ↑m, .bool false, .pointer (some ⟨B, 0, none⟩), u15, u16, u17, u18, u19, u20, u21, u22, u23, u24, u25, u26, u27, u28, u29, u30, u31, u32, u33, u34, u35, u36, u37, u38, u39, u40, u41, u42, u43, u44, u45, .bool false, .pointer (some ⟨g, 1, none⟩), .int .i64 1, .pointer (some ⟨g, 3, none⟩), .slice sp sm sc, .string (strOfNums sl), .pointer (some ⟨C, 1, none⟩), .int .i64 ↑zk, .bool true, .pointer (some ⟨g, 1, none⟩), .int .i64 1, .pointer (some ⟨g, 3, none⟩), .slice sp sm sc, .int .i64 ↑zk, .pointer (some ⟨g, 3, none⟩), .slice sp sm sc, .int .i64 ↑sm, .int .i64 ↑zk, u64, u65, u66, u67, u68, u69, u70, u71, u72, u73, u74, u75, u76, u77, u78, u79, u80, u81, u82, u83, u84, u85, u86, u87, u88, u89, u90, u91, u92, u93, u94, u95, u96, u97, u98, u99, u100, u101, u102], defers := [] }) rfl (by kernel_rfl) (by kernel_rfl) (by kernel_rfl) (fun _ _ _ h => h) (.inl ⟨rfl, fun _ _ => by go_simp⟩) hS rfl ?_
                      refine takeA (i := 9) (v := .slice sp zk sc) ({ tmps := #[.slice (some ⟨b, off, none⟩) m cap, undef, u2, .pointer (some ⟨B, 0, none⟩), .pointer (some ⟨C, 0, none⟩), .int .i64 ↑zk, .int .i64 ↑i, .pointer (some ⟨g, 0, none⟩), .int .i64 0, .bool true, .bool false, .slice (some ⟨b, off, none⟩) m cap, .int .i64 ↑m, .bool false, .pointer (some ⟨B, 0, none⟩), u15, u16, u17, u18, u19, u20, u21, u22, u23, u24, u25, u26, u27, u28, u29, u30, u31, u32, u33, u34, u35, u36, u37, u38, u39, u40, u41, u42, u43, u44, u45, .bool false, .pointer (some ⟨g, 1, none⟩), .int .i64 1, .pointer (some ⟨g, 3, none⟩), .slice sp sm sc, .string (strOfNums sl), .pointer (some ⟨C, 1, none⟩), .int .i64 ↑zk, .bool true, .pointer (some ⟨g, 1, none⟩), .int .i64 1, .pointer (some ⟨g, 3, none⟩), .slice sp sm sc, .int .i64 ↑zk, .pointer (some ⟨g, 3, none⟩), .slice sp sm sc, .int .i64 ↑sm, .int .i64 ↑zk, .slice sp zk sc, u65, u66, u67, u68, u69, u70, u71, u72, u73, u74, u75, u76, u77, u78, u79, u80, u81, u82, u83, u84, u85, u86, u87, u88, u89, u90, u91, u92, u93, u94, u95, u96, u97, u98, u99, u100, u101, u102], defers := [] }) rfl (by kernel_rfl) (by kernel_rfl) (by kernel_rfl) (fun _ _ _ h => h) (.inl ⟨rfl, fun _ _ => by go_simp⟩) hS rfl ?_
                      refine takeA (i := 10) (v := .string (strOfNums (sl.take zk))) ({ tmps := #[.slice (some ⟨b, off, none⟩) m cap, undef, u2, .pointer (some ⟨B, 0, none⟩), .pointer (some ⟨C, 0, none⟩), .int .i64 ↑zk, .int .i64 ↑i, .pointer (some ⟨g, 0, none⟩), .int .i64 0, .bool true, .bool false, .slice (some ⟨b, off, none⟩) m cap, .int .i64 ↑m, .bool false, .pointer (some ⟨B, 0, none⟩), u15, u16, u17, u18, u19, u20, u21, u22, u23, u24, u25, u26, u27, u28, u29, u30, u31, u32, u33, u34, u35, u36, u37, u38, u39, u40, u41, u42, u43, u44, u45, .bool false, .pointer (some ⟨g, 1, none⟩), .int .i64 1, .pointer (some ⟨g, 3, none⟩), .slice sp sm sc, .string (strOfNums sl), .pointer (some ⟨C, 1, none⟩), .int .i64 ↑zk, .bool true, .pointer (some ⟨g, 1, none⟩), .int .i64 1, .pointer (some ⟨g, 3, none⟩), .slice sp sm sc, .int .i64 ↑zk, .pointer (some ⟨g, 3, none⟩), .slice sp sm sc, .int .i64 ↑sm, .int .i64 ↑zk, .slice sp zk sc, .string (strOfNums (sl.take zk)), u66, u67, u68, u69, u70, u71, u72, u73, u74, u75, u76, u77, u78, u79, u80, u81, u82, u83, u84, u85, u86, u87, u88, u89, u90, u91, u92, u93, u94, u95, u96, u97, u98, u99, u100, u101, u102], defers := [] }) rfl (by kernel_rfl) (by kernel_rfl) (by kernel_rfl) (fun _ _ _ h => h) (yi_conv 27 9 _ (.slice sp zk sc) rfl rfl rfl (fun w hw => SB.out w hw.1)) hS rfl ?_
                      refine takeA (i := 11) (v := .pointer (some ⟨C, 1, none⟩)) ({ tmps := #[.slice (some ⟨b, off, none⟩) m cap, undef, u2, .pointer (some ⟨B, 0, none⟩), .pointer (some ⟨C, 0, none⟩), .int .i64 ↑zk, .int .i64 ↑i, .pointer (some ⟨g, 0, none⟩), .int .i64 0, .bool true, .bool false, .slice (some ⟨b, off, none⟩) m cap, .int .i64 ↑m, .bool false, .pointer (some ⟨B, 0, none⟩), u15, u16, u17, u18, u19, u20, u21, u22, u23, u24, u25, u26, u27, u28, u29, u30, u31, u32, u33, u34, u35, u36, u37, u38, u39, u40, u41, u42, u43, u44, u45, .bool false, .pointer (some ⟨g, 1, none⟩), .int .i64 1, .pointer (some ⟨g, 3, none⟩), .slice sp sm sc, .string (strOfNums sl), .pointer (some ⟨C, 1, none⟩), .int .i64 ↑zk, .bool true, .pointer (some ⟨g, 1, none⟩), .int .i64 1, .pointer (some ⟨g, 3, none⟩), .slice sp sm sc, .int .i64 ↑zk, .pointer (some ⟨g, 3, none⟩), .slice sp sm sc, .int .i64 ↑sm, .int .i64 ↑zk, .slice sp zk sc, .string (strOfNums (sl.take zk)), .pointer (some ⟨C, 1, none⟩), u67, u68, u69, u70, u71, u72, u73, u74, u75, u76, u77, u78, u79, u80, u81, u82, u83, u84, u85, u86, u87, u88, u89, u90, u91, u92, u93, u94, u95, u96, u97, u98, u99, u100, u101, u102], defers := [] }) rfl (by kernel_rfl) (by kernel_rfl) (by kernel_rfl) (fun _ _ _ h => h) (.inl ⟨rfl, fun _ _ => by go_simp⟩) hS rfl ?_
                      refine wpAnyH_ready (rs := [12]) (by kernel_rfl) (by simp) ?_
                      refine AllReadyH.cons rfl (fun K hK => ?_) AllReadyH.nil
                      rw [if_pos (by rfl)]
                      go_simp
                      refine hK.out ({ tmps := #[.slice (some ⟨b, off, none⟩) m cap, undef, u2, .pointer (some ⟨B, 0, none⟩), .pointer (some ⟨C, 0, none⟩), .int .i64 ↑zk, .int .i64 ↑i, .pointer (some ⟨g, 0, none⟩), .int .i64 0, .bool true, .bool false, .slice (some ⟨b, off, none⟩) m cap, .int .i64 ↑m, .bool false, .pointer (some ⟨B, 0, none⟩), u15, u16, u17, u18, u19, u20, u21, u22, u23, u24, u25, u26, u27, u28, u29, u30, u31, u32, u33, u34, u35, u36, u37, u38, u39, u40, u41, u42, u43, u44, u45, .bool false, .pointer (some ⟨g, 1, none⟩), .int .i64 1, .pointer (some ⟨g, 3, none⟩), .slice sp sm sc, .string (strOfNums sl), .pointer (some ⟨C, 1, none⟩), .int .i64 ↑zk, .bool true, .pointer (some ⟨g, 1, none⟩), .int .i64 1, .pointer (some ⟨g, 3, none⟩), .slice sp sm sc, .int .i64 ↑zk, .pointer (some ⟨g, 3, none⟩), .slice sp sm sc, .int .i64 ↑sm, .int .i64 ↑zk, .slice sp zk sc, .string (strOfNums (sl.take zk)), .pointer (some ⟨C, 1, none⟩), u67, u68, u69, u70, u71, u72, u73, u74, u75, u76, u77, u78, u79, u80, u81, u82, u83, u84, u85, u86, u87, u88, u89, u90, u91, u92, u93, u94, u95, u96, u97, u98, u99, u100, u101, u102], defers := [] }) _ (⟨(M1.out.k.up ((Kept.refl _ W1).setCell ⟨C, 1, none⟩ _ (fun _ => rfl)) M1.out.hC).drew, (((Kept.refl (fun k => k = C) W1).setCell ⟨C, 1, none⟩ _ (fun _ => rfl)).block g (lt_of_block M1.out.gc) M1.out.gC).trans M1.out.gc⟩) (fun hS => ?_)
                      clear hK K
                      refine wpAnyH_done (by kernel_rfl) ?_ _
                      clear hS
                      go_wp2_with fail
                      go_meet
                      refine ⟨-1, rfl, by rw [he], Lib.hid ((M1.out.lay 1 _ (by rw [HWR.out]; rfl) (by rw [HWR.out]; rfl) (by rw [HWR.out]; intro h; cases h) (by unfold i64r; omega)).up (Kept.refl _ _).drew)⟩
            case rest =>
              obtain ⟨z', rfl, rfl, M3⟩ := hcut
              obtain ⟨er, her⟩ : ∃ er, d.err area sl = er := ⟨_, rfl⟩
              rw [her]
              have HER := Lib.hid her
              have M4 := Lib.hid (M3.out.up (Kept.refl _ wc).drew)
              clear her M3 IW HG c0 c1 c2 c3
              have hsm300 := h3
              go_wp2_with fail
              refine wp_region_held_drew (S := fun w' => Kept (fun _ => False) w w' ∧ w'.heap[g]? = some (.cells #[.int .i64 what, .int .i64 area, .int .i64 sn, .slice sp sm sc] 29 (0, 0))) (by kernel_rfl) (⟨M4.out.k, M4.out.gc⟩) (fun hS => ?_)
              refine takeA (i := 0) (v := .pointer (some ⟨B, 0, none⟩)) ({ tmps := #[.slice (some ⟨b, off, none⟩) m cap, undef, u2, .pointer (some ⟨B, 0, none⟩), .pointer (some ⟨C, 0, none⟩), .int .i64 z', .int .i64 ↑i, .pointer (some ⟨g, 0, none⟩), .int .i64 er, .bool true, .bool false, .slice (some ⟨b, off, none⟩) m cap, .int .i64 ↑m, .bool false, .pointer (some ⟨B, 0, none⟩), u15, u16, u17, u18, u19, u20, u21, u22, u23, u24, u25, u26, u27, u28, u29, u30, u31, u32, u33, u34, u35, u36, u37, u38, u39, u40, u41, u42, u43, u44, u45, u46, u47, u48, u49, u50, u51, u52, u53, u54, u55, u56, u57, u58, u59, u60, u61, u62, u63, u64, u65, u66, .pointer (some ⟨B, 0, none⟩), u68, u69, u70, u71, u72, u73, u74, u75, u76, u77, u78, u79, u80, u81, u82, u83, u84, u85, u86, u87, u88, u89, u90, u91, u92, u93, u94, u95, u96, u97, u98, u99, u100, u101, u102], defers := [] }) rfl (by kernel_rfl) (by kernel_rfl) (by kernel_rfl) (fun _ _ _ h => h) (.inl ⟨rfl, fun _ _ => rfl⟩) hS rfl ?_
              refine takeA (i := 1) (v := .pointer (some ⟨g, 1, none⟩)) ({ tmps := #[.slice (some ⟨b, off, none⟩) m cap, undef, u2, .pointer (some ⟨B, 0, none⟩), .pointer (some ⟨C, 0, none⟩), .int .i64 z', .int .i64 ↑i, .pointer (some ⟨g, 0, none⟩), .int .i64 er, .bool true, .bool false, .slice (some ⟨b, off, none⟩) m cap, .int .i64 ↑m, .bool false, .pointer (some ⟨B, 0, none⟩), u15, u16, u17, u18, u19, u20, u21, u22, u23, u24, u25, u26, u27, u28, u29, u30, u31, u32, u33, u34, u35, u36, u37, u38, u39, u40, u41, u42, u43, u44, u45, u46, u47, u48, u49, u50, u51, u52, u53, u54, u55, u56, u57, u58, u59, u60, u61, u62, u63, u64, u65, u66, .pointer (some ⟨B, 0, none⟩), .pointer (some ⟨g, 1, none⟩), u69, u70, u71, u72, u73, u74, u75, u76, u77, u78, u79, u80, u81, u82, u83, u84, u85, u86, u87, u88, u89, u90, u91, u92, u93, u94, u95, u96, u97, u98, u99, u100, u101, u102], defers := [] }) rfl (by kernel_rfl) (by kernel_rfl) (by kernel_rfl) (fun _ _ _ h => h) (.inl ⟨rfl, fun _ _ => by go_simp⟩) hS rfl ?_
              refine takeA (i := 2) (v := .int .i64 area) ({ tmps := #[.slice (some ⟨b, off, none⟩) m cap, undef, u2, .pointer (some ⟨B, 0, none⟩), .pointer (some ⟨C, 0, none⟩), .int .i64 z', .int .i64 ↑i, .pointer (some ⟨g, 0, none⟩), .int .i64 er, .bool true, .bool false, .slice (some ⟨b, off, none⟩) m cap, .int .i64 ↑m, .bool false, .pointer (some ⟨B, 0, none⟩), u15, u16, u17, u18, u19, u20, u21, u22, u23, u24, u25, u26, u27, u28, u29, u30, u31, u32, u33, u34, u35, u36, u37, u38, u39, u40, u41, u42, u43, u44, u45, u46, u47, u48, u49, u50, u51, u52, u53, u54, u55, u56, u57, u58, u59, u60, u61, u62, u63, u64, u65, u66, .pointer (some ⟨B, 0, none⟩), .pointer (some ⟨g, 1, none⟩), .int .i64 area, u70, u71, u72, u73, u74, u75, u76, u77, u78, u79, u80, u81, u82, u83, u84, u85, u86, u87, u88, u89, u90, u91, u92, u93, u94, u95, u96, u97, u98, u99, u100, u101, u102], defers := [] }) rfl (by kernel_rfl) (by kernel_rfl) (by kernel_rfl) (fun _ _ _ h => h) (yi_load 3 _ (.pointer (some ⟨g, 1, none⟩)) rfl rfl rfl (fun w hw => by have q := cell_of hw.2 (i := 1) rfl; go_simp)) hS rfl ?_
              refine takeA (i := 3) (v := .pointer (some ⟨g, 3, none⟩)) ({ tmps := #[.slice (some ⟨b, off, none⟩) m cap, undef, u2, .pointer (some ⟨B, 0, none⟩), .pointer (some ⟨C, 0, none⟩), .int .i64 z', .int .i64 ↑i, .pointer (some ⟨g, 0, none⟩), .int .i64 er, .bool true, .bool false, .slice (some ⟨b, off, none⟩) m cap, .int .i64 ↑m, .bool false, .pointer (some ⟨B, 0, none⟩), u15, u16, u17, u18, u19, u20, u21, u22, u23, u24, u25, u26, u27, u28, u29, u30, u31, u32, u33, u34, u35, u36, u37, u38, u39, u40, u41, u42, u43, u44, u45, u46, u47, u48, u49, u50, u51, u52, u53, u54, u55, u56, u57, u58, u59, u60, u61, u62, u63, u64, u65, u66, .pointer (some ⟨B, 0, none⟩), .pointer (some ⟨g, 1, none⟩), .int .i64 area, .pointer (some ⟨g, 3, none⟩), u71, u72, u73, u74, u75, u76, u77, u78, u79, u80, u81, u82, u83, u84, u85, u86, u87, u88, u89, u90, u91, u92, u93, u94, u95, u96, u97, u98, u99, u100, u101, u102], defers := [] }) rfl (by kernel_rfl) (by kernel_rfl) (by kernel_rfl) (fun _ _ _ h => h) (.inl ⟨rfl, fun _ _ => by go_simp⟩) hS rfl ?_
              refine takeA (i := 4) (v := .slice sp sm sc) ({ tmps := #[.slice (some ⟨b, off, none⟩) m cap, undef, u2, .pointer (some ⟨B, 0, none⟩), .pointer (some ⟨C, 0, none⟩), .int .i64 z', .int .i64 ↑i, .pointer (some ⟨g, 0, none⟩), .int .i64 er, .bool true, .bool false, .slice (some ⟨b, off, none⟩) m cap, .int .i64 ↑m, .bool false, .pointer (some ⟨B, 0, none⟩), u15, u16, u17, u18, u19, u20, u21, u22, u23, u24, u25, u26, u27, u28, u29, u30, u31, u32, u33, u34, u35, u36, u37, u38, u39, u40, u41, u42, u43, u44, u45, u46, u47, u48, u49, u50, u51, u52, u53, u54, u55, u56, u57, u58, u59, u60, u61, u62, u63, u64, u65, u66, .pointer (some ⟨B, 0, none⟩), .pointer (some ⟨g, 1, none⟩), .int .i64 area, .pointer (some ⟨g, 3, none⟩), .slice sp sm sc, u72, u73, u74, u75, u76, u77, u78, u79, u80, u81, u82, u83, u84, u85, u86, u87, u88, u89, u90, u91, u92, u93, u94, u95, u96, u97, u98, u99, u100, u101, u102], defers := [] }) rfl (by kernel_rfl) (by kernel_rfl) (by kernel_rfl) (fun _ _ _ h => h) (yi_load 27 _ (.pointer (some ⟨g, 3, none⟩)) rfl rfl rfl (fun w hw => by have q := cell_of hw.2 (i := 3) rfl; go_simp)) hS rfl ?_
              refine takeA (i := 7) (v := .int .i64 er) ({ tmps := #[.slice (some ⟨b, off, none⟩) m cap, undef, u2, .pointer (some ⟨B, 0, none⟩), .pointer (some ⟨C, 0, none⟩), .int .i64 z', .int .i64 ↑i, .pointer (some ⟨g, 0, none⟩), .int .i64 er, .bool true, .bool false, .slice (some ⟨b, off, none⟩) m cap, .int .i64 ↑m, .bool false, .pointer (some ⟨B, 0, none⟩), u15, u16, u17, u18, u19, u20, u21, u22, u23, u24, u25, u26, u27, u28, u29, u30, u31, u32, u33, u34, u35, u36, u37, u38, u39, u40, u41, u42, u43, u44, u45, u46, u47, u48, u49, u50, u51, u52, u53, u54, u55, u56, u57, u58, u59, u60, u61, u62, u63, u64, u65, u66, .pointer (some ⟨B, 0, none⟩), .pointer (some ⟨g, 1, none⟩), .int .i64 area, .pointer (some ⟨g, 3, none⟩), .slice sp sm sc, u72, u73, .int .i64 er, u75, u76, u77, u78, u79, u80, u81, u82, u83, u84, u85, u86, u87, u88, u89, u90, u91, u92, u93, u94, u95, u96, u97, u98, u99, u100, u101, u102], defers := [] }) rfl (by kernel_rfl) (by kernel_rfl) (by kernel_rfl) (fun _ _ _ h => h) (.inl ⟨rfl, fun _ _ => rfl⟩) hS rfl ?_
              refine wpAnyH_ready (rs := [5]) (by kernel_rfl) (by simp) ?_
              refine AllReadyH.cons rfl (fun K hK => ?_) AllReadyH.nil
              rw [if_pos (by rfl)]
              refine wp_app _ (.const (.slice none 0 0)) (.tmp 71) rfl rfl sp sm sc sl rfl HSL.out (bytes_kept HXO.out.bytes hS.1 (fun _ _ _ h => h)) HNO.out (by omega) ?_
              intro ao5 cap5 w5 hb5 hc5 hk5
              have M5 := Lib.hid (M4.out.up hk5)
              have HB5 := Lib.hid hb5
              have HC5 := Lib.hid hc5
              clear hb5 hc5 hk5
              refine hK.out ({ tmps := #[.slice (some ⟨b, off, none⟩) m cap, undef, u2, .pointer (some ⟨B, 0, none⟩), .pointer (some ⟨C, 0, none⟩), .int .i64 z', .int .i64 ↑i, .pointer (some ⟨g, 0, none⟩), .int .i64 er, .bool true, .bool false, .slice (some ⟨b, off, none⟩) m cap, .int .i64 ↑m, .bool false, .pointer (some ⟨B, 0, none⟩), u15, u16, u17, u18, u19, u20, u21, u22, u23, u24, u25, u26, u27, u28, u29, u30, u31, u32, u33, u34, u35, u36, u37, u38, u39, u40, u41, u42, u43, u44, u45, u46, u47, u48, u49, u50, u51, u52, u53, u54, u55, u56, u57, u58, u59, u60, u61, u62, u63, u64, u65, u66, .pointer (some ⟨B, 0, none⟩), .pointer (some ⟨g, 1, none⟩), .int .i64 area, .pointer (some ⟨g, 3, none⟩), .slice sp sm sc, .slice ao5 sm cap5, u73, .int .i64 er, u75, u76, u77, u78, u79, u80, u81, u82, u83, u84, u85, u86, u87, u88, u89, u90, u91, u92, u93, u94, u95, u96, u97, u98, u99, u100, u101, u102], defers := [] }) _ (⟨M5.out.k, M5.out.gc⟩) (fun hS => ?_)
              clear hK K
              refine wpAnyH_ready (rs := [6]) (by kernel_rfl) (by simp) ?_
              refine AllReadyH.cons rfl (fun K hK => ?_) AllReadyH.nil
              rw [if_pos (by rfl)]
              go_simp
              refine Calls.mono (show Calls Try.prog 9 #[.pointer (some ⟨B, 0, none⟩), .int .i64 area, .slice ao5 sm cap5] w5 (fun e w' => e = .returned (.int .i64 er) ∧ At w' B (d.write area sl) ∧ Kept (fun k => k = B) w5 w') by have h := write_any w5 B d area ao5 cap5 sl M5.out.at_ HB5.out (by rw [HSL.out]; exact HC5.out); rw [HSL.out, HER.out] at h; exact h) ?_
              rintro e w6 ⟨rfl, h6, k6⟩
              have M6 := Lib.hid (M5.out.inv h6 k6)
              have hS6 := M5.out.gc
              have hS7 := (k6.block g (lt_of_block hS6) M5.out.gB).trans hS6
              clear h6 k6 hS6
              refine hK.out ({ tmps := #[.slice (some ⟨b, off, none⟩) m cap, undef, u2, .pointer (some ⟨B, 0, none⟩), .pointer (some ⟨C, 0, none⟩), .int .i64 z', .int .i64 ↑i, .pointer (some ⟨g, 0, none⟩), .int .i64 er, .bool true, .bool false, .slice (some ⟨b, off, none⟩) m cap, .int .i64 ↑m, .bool false, .pointer (some ⟨B, 0, none⟩), u15, u16, u17, u18, u19, u20, u21, u22, u23, u24, u25, u26, u27, u28, u29, u30, u31, u32, u33, u34, u35, u36, u37, u38, u39, u40, u41, u42, u43, u44, u45, u46, u47, u48, u49, u50, u51, u52, u53, u54, u55, u56, u57, u58, u59, u60, u61, u62, u63, u64, u65, u66, .pointer (some ⟨B, 0, none⟩), .pointer (some ⟨g, 1, none⟩), .int .i64 area, .pointer (some ⟨g, 3, none⟩), .slice sp sm sc, .slice ao5 sm cap5, .int .i64 er, .int .i64 er, u75, u76, u77, u78, u79, u80, u81, u82, u83, u84, u85, u86, u87, u88, u89, u90, u91, u92, u93, u94, u95, u96, u97, u98, u99, u100, u101, u102], defers := [] }) _ (⟨M6.out.k, hS7⟩) (fun hS => ?_)
              clear hK K
              refine takeA (i := 8) (v := .bool false) ({ tmps := #[.slice (some ⟨b, off, none⟩) m cap, undef, u2, .pointer (some ⟨B, 0, none⟩), .pointer (some ⟨C, 0, none⟩), .int .i64 z', .int .i64 ↑i, .pointer (some ⟨g, 0, none⟩), .int .i64 er, .bool true, .bool false, .slice (some ⟨b, off, none⟩) m cap, .int .i64 ↑m, .bool false, .pointer (some ⟨B, 0, none⟩), u15, u16, u17, u18, u19, u20, u21, u22, u23, u24, u25, u26, u27, u28, u29, u30, u31, u32, u33, u34, u35, u36, u37, u38, u39, u40, u41, u42, u43, u44, u45, u46, u47, u48, u49, u50, u51, u52, u53, u54, u55, u56, u57, u58, u59, u60, u61, u62, u63, u64, u65, u66, .pointer (some ⟨B, 0, none⟩), .pointer (some ⟨g, 1, none⟩), .int .i64 area, .pointer (some ⟨g, 3, none⟩), .slice sp sm sc, .slice ao5 sm cap5, .int .i64 er, .int .i64 er, .bool false, u76, u77, u78, u79, u80, u81, u82, u83, u84, u85, u86, u87, u88, u89, u90, u91, u92, u93, u94, u95, u96, u97, u98, u99, u100, u101, u102], defers := [] }) rfl (by kernel_rfl) (by kernel_rfl) (by kernel_rfl) (fun _ _ _ h => h) (.inl ⟨rfl, fun _ _ => by go_simp⟩) hS rfl ?_
              refine wpAnyH_done (by kernel_rfl) ?_ _
              clear hS
              go_wp2_with fail
              go_meet
              exact ⟨_, z', rfl, M6⟩
        case rest =>
          obtain ⟨d2, z2, rfl, I2⟩ := hcut
          have I2d := Lib.hid (I2.out.up (Kept.refl _ wc).drew)
          have HZD := Lib.hid I2.out.zd
          clear IW HG c0 c1 c2 c3 I2
          go_wp2_with fail
          refine wp_region_held_drew (S := fun w' => Kept (fun _ => False) w w' ∧ At w' B d2 ∧ w'.heap[C]? = some (.cells #[.string (strOfNums d2.a0), .string (strOfNums d2.a1)] 26 (0, 0))) (by kernel_rfl) (⟨I2d.out.k, I2d.out.at_, I2d.out.ar⟩) (fun hS => ?_)
          refine takeA (i := 0) (v := .pointer (some ⟨B, 0, none⟩)) ({ tmps := #[.slice (some ⟨b, off, none⟩) m cap, undef, u2, .pointer (some ⟨B, 0, none⟩), .pointer (some ⟨C, 0, none⟩), .int .i64 z2, .int .i64 ↑i, .pointer (some ⟨g, 0, none⟩), u8, .bool true, .bool false, .slice (some ⟨b, off, none⟩) m cap, .int .i64 ↑m, .bool false, .pointer (some ⟨B, 0, none⟩), u15, u16, u17, u18, u19, u20, u21, u22, u23, u24, u25, u26, u27, u28, u29, u30, u31, u32, u33, u34, u35, u36, u37, u38, u39, u40, u41, u42, u43, u44, u45, u46, u47, u48, u49, u50, u51, u52, u53, u54, u55, u56, u57, u58, u59, u60, u61, u62, u63, u64, u65, u66, u67, u68, u69, u70, u71, u72, u73, u74, u75, .pointer (some ⟨B, 0, none⟩), u77, u78, u79, u80, u81, u82, u83, u84, u85, u86, u87, u88, u89, u90, u91, u92, u93, u94, u95, u96, u97, u98, u99, u100, u101, u102], defers := [] }) rfl (by kernel_rfl) (by kernel_rfl) (by kernel_rfl) (fun _ _ _ h => h) (.inl ⟨rfl, fun _ _ => rfl⟩) hS rfl ?_
          refine takeA (i := 3) (v := .pointer (some ⟨C, 0, none⟩)) ({ tmps := #[.slice (some ⟨b, off, none⟩) m cap, undef, u2, .pointer (some ⟨B, 0, none⟩), .pointer (some ⟨C, 0, none⟩), .int .i64 z2, .int .i64 ↑i, .pointer (some ⟨g, 0, none⟩), u8, .bool true, .bool false, .slice (some ⟨b, off, none⟩) m cap, .int .i64 ↑m, .bool false, .pointer (some ⟨B, 0, none⟩), u15, u16, u17, u18, u19, u20, u21, u22, u23, u24, u25, u26, u27, u28, u29, u30, u31, u32, u33, u34, u35, u36, u37, u38, u39, u40, u41, u42, u43, u44, u45, u46, u47, u48, u49, u50, u51, u52, u53, u54, u55, u56, u57, u58, u59, u60, u61, u62, u63, u64, u65, u66, u67, u68, u69, u70, u71, u72, u73, u74, u75, .pointer (some ⟨B, 0, none⟩), u77, u78, .pointer (some ⟨C, 0, none⟩), u80, u81, u82, u83, u84, u85, u86, u87, u88, u89, u90, u91, u92, u93, u94, u95, u96, u97, u98, u99, u100, u101, u102], defers := [] }) rfl (by kernel_rfl) (by kernel_rfl) (by kernel_rfl) (fun _ _ _ h => h) (.inl ⟨rfl, fun _ _ => by go_simp⟩) hS rfl ?_
          refine takeA (i := 4) (v := .string (strOfNums d2.a0)) ({ tmps := #[.slice (some ⟨b, off, none⟩) m cap, undef, u2, .pointer (some ⟨B, 0, none⟩), .pointer (some ⟨C, 0, none⟩), .int .i64 z2, .int .i64 ↑i, .pointer (some ⟨g, 0, none⟩), u8, .bool true, .bool false, .slice (some ⟨b, off, none⟩) m cap, .int .i64 ↑m, .bool false, .pointer (some ⟨B, 0, none⟩), u15, u16, u17, u18, u19, u20, u21, u22, u23, u24, u25, u26, u27, u28, u29, u30, u31, u32, u33, u34, u35, u36, u37, u38, u39, u40, u41, u42, u43, u44, u45, u46, u47, u48, u49, u50, u51, u52, u53, u54, u55, u56, u57, u58, u59, u60, u61, u62, u63, u64, u65, u66, u67, u68, u69, u70, u71, u72, u73, u74, u75, .pointer (some ⟨B, 0, none⟩), u77, u78, .pointer (some ⟨C, 0, none⟩), .string (strOfNums d2.a0), u81, u82, u83, u84, u85, u86, u87, u88, u89, u90, u91, u92, u93, u94, u95, u96, u97, u98, u99, u100, u101, u102], defers := [] }) rfl (by kernel_rfl) (by kernel_rfl) (by kernel_rfl) (fun _ _ _ h => h) (yi_load 9 _ (.pointer (some ⟨C, 0, none⟩)) rfl rfl rfl (fun w hw => by have q := cell_of hw.2.2 (i := 0) rfl; go_simp)) hS rfl ?_
          refine wpAnyH_ready (rs := [1]) (by kernel_rfl) (by simp) ?_
          refine AllReadyH.cons rfl (fun K hK => ?_) AllReadyH.nil
          rw [if_pos (by rfl)]
          go_simp
          refine Calls.mono (read_any _ B d2 0 hS.2.1) ?_
          rintro e w7 ⟨ao7, d7, rfl, t7, b7⟩
          have hs7 : (convert 27 9 (.slice ao7 d2.a0.length d7)).run Try.prog w7 = .ok (.string (strOfNums d2.a0)) w7 := str_bytes (c := d7) t7.bytes (fun h => (t7.none h).1)
          clear t7
          refine hK.out ({ tmps := #[.slice (some ⟨b, off, none⟩) m cap, undef, u2, .pointer (some ⟨B, 0, none⟩), .pointer (some ⟨C, 0, none⟩), .int .i64 z2, .int .i64 ↑i, .pointer (some ⟨g, 0, none⟩), u8, .bool true, .bool false, .slice (some ⟨b, off, none⟩) m cap, .int .i64 ↑m, .bool false, .pointer (some ⟨B, 0, none⟩), u15, u16, u17, u18, u19, u20, u21, u22, u23, u24, u25, u26, u27, u28, u29, u30, u31, u32, u33, u34, u35, u36, u37, u38, u39, u40, u41, u42, u43, u44, u45, u46, u47, u48, u49, u50, u51, u52, u53, u54, u55, u56, u57, u58, u59, u60, u61, u62, u63, u64, u65, u66, u67, u68, u69, u70, u71, u72, u73, u74, u75, .pointer (some ⟨B, 0, none⟩), .slice ao7 d2.a0.length d7, u78, .pointer (some ⟨C, 0, none⟩), .string (strOfNums d2.a0), u81, u82, u83, u84, u85, u86, u87, u88, u89, u90, u91, u92, u93, u94, u95, u96, u97, u98, u99, u100, u101, u102], defers := [] }) _ (⟨hS.1.upB b7, hS.2.1.below b7, (b7.block C (lt_of_block hS.2.2)).trans hS.2.2⟩) (fun hS => ?_)
          clear hK K
          refine wpAnyH_ready (rs := [2]) (by kernel_rfl) (by simp) ?_
          refine AllReadyH.cons rfl (fun K hK => ?_) AllReadyH.nil
          rw [if_pos (by rfl)]
          go_simp
          refine hK.out ({ tmps := #[.slice (some ⟨b, off, none⟩) m cap, undef, u2, .pointer (some ⟨B, 0, none⟩), .pointer (some ⟨C, 0, none⟩), .int .i64 z2, .int .i64 ↑i, .pointer (some ⟨g, 0, none⟩), u8, .bool true, .bool false, .slice (some ⟨b, off, none⟩) m cap, .int .i64 ↑m, .bool false, .pointer (some ⟨B, 0, none⟩), u15, u16, u17, u18, u19, u20, u21, u22, u23, u24, u25, u26, u27, u28, u29, u30, u31, u32, u33, u34, u35, u36, u37, u38, u39, u40, u41, u42, u43, u44, u45, u46, u47, u48, u49, u50, u51, u52, u53, u54, u55, u56, u57, u58, u59, u60, u61, u62, u63, u64, u65, u66, u67, u68, u69, u70, u71, u72, u73, u74, u75, .pointer (some ⟨B, 0, none⟩), .slice ao7 d2.a0.length d7, .string (strOfNums d2.a0), .pointer (some ⟨C, 0, none⟩), .string (strOfNums d2.a0), u81, u82, u83, u84, u85, u86, u87, u88, u89, u90, u91, u92, u93, u94, u95, u96, u97, u98, u99, u100, u101, u102], defers := [] }) _ (hS) (fun hS => ?_)
          clear hK K
          refine takeA (i := 5) (v := .bool false) ({ tmps := #[.slice (some ⟨b, off, none⟩) m cap, undef, u2, .pointer (some ⟨B, 0, none⟩), .pointer (some ⟨C, 0, none⟩), .int .i64 z2, .int .i64 ↑i, .pointer (some ⟨g, 0, none⟩), u8, .bool true, .bool false, .slice (some ⟨b, off, none⟩) m cap, .int .i64 ↑m, .bool false, .pointer (some ⟨B, 0, none⟩), u15, u16, u17, u18, u19, u20, u21, u22, u23, u24, u25, u26, u27, u28, u29, u30, u31, u32, u33, u34, u35, u36, u37, u38, u39, u40, u41, u42, u43, u44, u45, u46, u47, u48, u49, u50, u51, u52, u53, u54, u55, u56, u57, u58, u59, u60, u61, u62, u63, u64, u65, u66, u67, u68, u69, u70, u71, u72, u73, u74, u75, .pointer (some ⟨B, 0, none⟩), .slice ao7 d2.a0.length d7, .string (strOfNums d2.a0), .pointer (some ⟨C, 0, none⟩), .string (strOfNums d2.a0), .bool false, u82, u83, u84, u85, u86, u87, u88, u89, u90, u91, u92, u93, u94, u95, u96, u97, u98, u99, u100, u101, u102], defers := [] }) rfl (by kernel_rfl) (by kernel_rfl) (by kernel_rfl) (fun _ _ _ h => h) (.inl ⟨rfl, fun _ _ => by go_simp⟩) hS rfl ?_
          refine takeA (i := 6) (v := .bool false) ({ tmps := #[.slice (some ⟨b, off, none⟩) m cap, undef, u2, .pointer (some ⟨B, 0, none⟩), .pointer (some ⟨C, 0, none⟩), .int .i64 z2, .int .i64 ↑i, .pointer (some ⟨g, 0, none⟩), u8, .bool true, .bool false, .slice (some ⟨b, off, none⟩) m cap, .int .i64 ↑m, .bool false, .pointer (some ⟨B, 0, none⟩), u15, u16, u17, u18, u19, u20, u21, u22, u23, u24, u25, u26, u27, u28, u29, u30, u31, u32, u33, u34, u35, u36, u37, u38, u39, u40, u41, u42, u43, u44, u45, u46, u47, u48, u49, u50, u51, u52, u53, u54, u55, u56, u57, u58, u59, u60, u61, u62, u63, u64, u65, u66, u67, u68, u69, u70, u71, u72, u73, u74, u75, .pointer (some ⟨B, 0, none⟩), .slice ao7 d2.a0.length d7, .string (strOfNums d2.a0), .pointer (some ⟨C, 0, none⟩), .string (strOfNums d2.a0), .bool false, .bool false, u83, u84, u85, u86, u87, u88, u89, u90, u91, u92, u93, u94, u95, u96, u97, u98, u99, u100, u101, u102], defers := [] }) rfl (by kernel_rfl) (by kernel_rfl) (by kernel_rfl) (fun _ _ _ h => h) (.inl ⟨rfl, fun _ _ => rfl⟩) hS rfl ?_
          refine takeA (i := 7) (v := .pointer (some ⟨B, 0, none⟩)) ({ tmps := #[.slice (some ⟨b, off, none⟩) m cap, undef, u2, .pointer (some ⟨B, 0, none⟩), .pointer (some ⟨C, 0, none⟩), .int .i64 z2, .int .i64 ↑i, .pointer (some ⟨g, 0, none⟩), u8, .bool true, .bool false, .slice (some ⟨b, off, none⟩) m cap, .int .i64 ↑m, .bool false, .pointer (some ⟨B, 0, none⟩), u15, u16, u17, u18, u19, u20, u21, u22, u23, u24, u25, u26, u27, u28, u29, u30, u31, u32, u33, u34, u35, u36, u37, u38, u39, u40, u41, u42, u43, u44, u45, u46, u47, u48, u49, u50, u51, u52, u53, u54, u55, u56, u57, u58, u59, u60, u61, u62, u63, u64, u65, u66, u67, u68, u69, u70, u71, u72, u73, u74, u75, .pointer (some ⟨B, 0, none⟩), .slice ao7 d2.a0.length d7, .string (strOfNums d2.a0), .pointer (some ⟨C, 0, none⟩), .string (strOfNums d2.a0), .bool false, .bool false, .pointer (some ⟨B, 0, none⟩), u84, u85, u86, u87, u88, u89, u90, u91, u92, u93, u94, u95, u96, u97, u98, u99, u100, u101, u102], defers := [] }) rfl (by kernel_rfl) (by kernel_rfl) (by kernel_rfl) (fun _ _ _ h => h) (.inl ⟨rfl, fun _ _ => rfl⟩) hS rfl ?_
          refine takeA (i := 10) (v := .pointer (some ⟨C, 1, none⟩)) ({ tmps := #[.slice (some ⟨b, off, none⟩) m cap, undef, u2, .pointer (some ⟨B, 0, none⟩), .pointer (some ⟨C, 0, none⟩), .int .i64 z2, .int .i64 ↑i, .pointer (some ⟨g, 0, none⟩), u8, .bool true, .bool false, .slice (some ⟨b, off, none⟩) m cap, .int .i64 ↑m, .bool false, .pointer (some ⟨B, 0, none⟩), u15, u16, u17, u18, u19, u20, u21, u22, u23, u24, u25, u26, u27, u28, u29, u30, u31, u32, u33, u34, u35, u36, u37, u38, u39, u40, u41, u42, u43, u44, u45, u46, u47, u48, u49, u50, u51, u52, u53, u54, u55, u56, u57, u58, u59, u60, u61, u62, u63, u64, u65, u66, u67, u68, u69, u70, u71, u72, u73, u74, u75, .pointer (some ⟨B, 0, none⟩), .slice ao7 d2.a0.length d7, .string (strOfNums d2.a0), .pointer (some ⟨C, 0, none⟩), .string (strOfNums d2.a0), .bool false, .bool false, .pointer (some ⟨B, 0, none⟩), u84, u85, .pointer (some ⟨C, 1, none⟩), u87, u88, u89, u90, u91, u92, u93, u94, u95, u96, u97, u98, u99, u100, u101, u102], defers := [] }) rfl (by kernel_rfl) (by kernel_rfl) (by kernel_rfl) (fun _ _ _ h => h) (.inl ⟨rfl, fun _ _ => by go_simp⟩) hS rfl ?_
          refine takeA (i := 11) (v := .string (strOfNums d2.a1)) ({ tmps := #[.slice (some ⟨b, off, none⟩) m cap, undef, u2, .pointer (some ⟨B, 0, none⟩), .pointer (some ⟨C, 0, none⟩), .int .i64 z2, .int .i64 ↑i, .pointer (some ⟨g, 0, none⟩), u8, .bool true, .bool false, .slice (some ⟨b, off, none⟩) m cap, .int .i64 ↑m, .bool false, .pointer (some ⟨B, 0, none⟩), u15, u16, u17, u18, u19, u20, u21, u22, u23, u24, u25, u26, u27, u28, u29, u30, u31, u32, u33, u34, u35, u36, u37, u38, u39, u40, u41, u42, u43, u44, u45, u46, u47, u48, u49, u50, u51, u52, u53, u54, u55, u56, u57, u58, u59, u60, u61, u62, u63, u64, u65, u66, u67, u68, u69, u70, u71, u72, u73, u74, u75, .pointer (some ⟨B, 0, none⟩), .slice ao7 d2.a0.length d7, .string (strOfNums d2.a0), .pointer (some ⟨C, 0, none⟩), .string (strOfNums d2.a0), .bool false, .bool false, .pointer (some ⟨B, 0, none⟩), u84, u85, .pointer (some ⟨C, 1, none⟩), .string (strOfNums d2.a1), u88, u89, u90, u91, u92, u93, u94, u95, u96, u97, u98, u99, u100, u101, u102], defers := [] }) rfl (by kernel_rfl) (by kernel_rfl) (by kernel_rfl) (fun _ _ _ h => h) (yi_load 9 _ (.pointer (some ⟨C, 1, none⟩)) rfl rfl rfl (fun w hw => by have q := cell_of hw.2.2 (i := 1) rfl; go_simp)) hS rfl ?_
          refine wpAnyH_ready (rs := [8]) (by kernel_rfl) (by simp) ?_
          refine AllReadyH.cons rfl (fun K hK => ?_) AllReadyH.nil
          rw [if_pos (by rfl)]
          go_simp
          refine Calls.mono (read_any _ B d2 1 hS.2.1) ?_
          rintro e w8 ⟨ao8, d8, rfl, t8, b8⟩
          have hs8 : (convert 27 9 (.slice ao8 d2.a1.length d8)).run Try.prog w8 = .ok (.string (strOfNums d2.a1)) w8 := str_bytes (c := d8) t8.bytes (fun h => (t8.none h).1)
          clear t8
          refine hK.out ({ tmps := #[.slice (some ⟨b, off, none⟩) m cap, undef, u2, .pointer (some ⟨B, 0, none⟩), .pointer (some ⟨C, 0, none⟩), .int .i64 z2, .int .i64 ↑i, .pointer (some ⟨g, 0, none⟩), u8, .bool true, .bool false, .slice (some ⟨b, off, none⟩) m cap, .int .i64 ↑m, .bool false, .pointer (some ⟨B, 0, none⟩), u15, u16, u17, u18, u19, u20, u21, u22, u23, u24, u25, u26, u27, u28, u29, u30, u31, u32, u33, u34, u35, u36, u37, u38, u39, u40, u41, u42, u43, u44, u45, u46, u47, u48, u49, u50, u51, u52, u53, u54, u55, u56, u57, u58, u59, u60, u61, u62, u63, u64, u65, u66, u67, u68, u69, u70, u71, u72, u73, u74, u75, .pointer (some ⟨B, 0, none⟩), .slice ao7 d2.a0.length d7, .string (strOfNums d2.a0), .pointer (some ⟨C, 0, none⟩), .string (strOfNums d2.a0), .bool false, .bool false, .pointer (some ⟨B, 0, none⟩), .slice ao8 d2.a1.length d8, u85, .pointer (some ⟨C, 1, none⟩), .string (strOfNums d2.a1), u88, u89, u90, u91, u92, u93, u94, u95, u96, u97, u98, u99, u100, u101, u102], defers := [] }) _ (⟨hS.1.upB b8, hS.2.1.below b8, (b8.block C (lt_of_block hS.2.2)).trans hS.2.2⟩) (fun hS => ?_)
          clear hK K
          refine wpAnyH_ready (rs := [9]) (by kernel_rfl) (by simp) ?_
          refine AllReadyH.cons rfl (fun K hK => ?_) AllReadyH.nil
          rw [if_pos (by rfl)]
          go_simp
          refine hK.out ({ tmps := #[.slice (some ⟨b, off, none⟩) m cap, undef, u2, .pointer (some ⟨B, 0, none⟩), .pointer (some ⟨C, 0, none⟩), .int .i64 z2, .int .i64 ↑i, .pointer (some ⟨g, 0, none⟩), u8, .bool true, .bool false, .slice (some ⟨b, off, none⟩) m cap, .int .i64 ↑m, .bool false, .pointer (some ⟨B, 0, none⟩), u15, u16, u17, u18, u19, u20, u21, u22, u23, u24, u25, u26, u27, u28, u29, u30, u31, u32, u33, u34, u35, u36, u37, u38, u39, u40, u41, u42, u43, u44, u45, u46, u47, u48, u49, u50, u51, u52, u53, u54, u55, u56, u57, u58, u59, u60, u61, u62, u63, u64, u65, u66, u67, u68, u69, u70, u71, u72, u73, u74, u75, .pointer (some ⟨B, 0, none⟩), .slice ao7 d2.a0.length d7, .string (strOfNums d2.a0), .pointer (some ⟨C, 0, none⟩), .string (strOfNums d2.a0), .bool false, .bool false, .pointer (some ⟨B, 0, none⟩), .slice ao8 d2.a1.length d8, .string (strOfNums d2.a1), .pointer (some ⟨C, 1, none⟩), .string (strOfNums d2.a1), u88, u89, u90, u91, u92, u93, u94, u95, u96, u97, u98, u99, u100, u101, u102], defers := [] }) _ (hS) (fun hS => ?_)
          clear hK K
          refine takeA (i := 12) (v := .bool false) ({ tmps := #[.slice (some ⟨b, off, none⟩) m cap, undef, u2, .pointer (some ⟨B, 0, none⟩), .pointer (some ⟨C, 0, none⟩), .int .i64 z2, .int .i64 ↑i, .pointer (some ⟨g, 0, none⟩), u8, .bool true, .bool false, .slice (some ⟨b, off, none⟩) m cap, .int .i64 ↑m, .bool false, .pointer (some ⟨B, 0, none⟩), u15, u16, u17, u18, u19, u20, u21, u22, u23, u24, u25, u26, u27, u28, u29, u30, u31, u32, u33, u34, u35, u36, u37, u38, u39, u40, u41, u42, u43, u44, u45, u46, u47, u48, u49, u50, u51, u52, u53, u54, u55, u56, u57, u58, u59, u60, u61, u62, u63, u64, u65, u66, u67, u68, u69, u70, u71, u72, u73, u74, u75, .pointer (some ⟨B, 0, none⟩), .slice ao7 d2.a0.length d7, .string (strOfNums d2.a0), .pointer (some ⟨C, 0, none⟩), .string (strOfNums d2.a0), .bool false, .bool false, .pointer (some ⟨B, 0, none⟩), .slice ao8 d2.a1.length d8, .string (strOfNums d2.a1), .pointer (some ⟨C, 1, none⟩), .string (strOfNums d2.a1), .bool false, u89, u90, u91, u92, u93, u94, u95, u96, u97, u98, u99, u100, u101, u102], defers := [] }) rfl (by kernel_rfl) (by kernel_rfl) (by kernel_rfl) (fun _ _ _ h => h) (.inl ⟨rfl, fun _ _ => by go_simp⟩) hS rfl ?_
          refine takeA (i := 13) (v := .bool false) ({ tmps := #[.slice (some ⟨b, off, none⟩) m cap, undef, u2, .pointer (some ⟨B, 0, none⟩), .pointer (some ⟨C, 0, none⟩), .int .i64 z2, .int .i64 ↑i, .pointer (some ⟨g, 0, none⟩), u8, .bool true, .bool false, .slice (some ⟨b, off, none⟩) m cap, .int .i64 ↑m, .bool false, .pointer (some ⟨B, 0, none⟩), u15, u16, u17, u18, u19, u20, u21, u22, u23, u24, u25, u26, u27, u28, u29, u30, u31, u32, u33, u34, u35, u36, u37, u38, u39, u40, u41, u42, u43, u44, u45, u46, u47, u48, u49, u50, u51, u52, u53, u54, u55, u56, u57, u58, u59, u60, u61, u62, u63, u64, u65, u66, u67, u68, u69, u70, u71, u72, u73, u74, u75, .pointer (some ⟨B, 0, none⟩), .slice ao7 d2.a0.length d7, .string (strOfNums d2.a0), .pointer (some ⟨C, 0, none⟩), .string (strOfNums d2.a0), .bool false, .bool false, .pointer (some ⟨B, 0, none⟩), .slice ao8 d2.a1.length d8, .string (strOfNums d2.a1), .pointer (some ⟨C, 1, none⟩), .string (strOfNums d2.a1), .bool false, .bool false, u90, u91, u92, u93, u94, u95, u96, u97, u98, u99, u100, u101, u102], defers := [] }) rfl (by kernel_rfl) (by kernel_rfl) (by kernel_rfl) (fun _ _ _ h => h) (.inl ⟨rfl, fun _ _ => rfl⟩) hS rfl ?_
          refine takeA (i := 14) (v := .bool false) ({ tmps := #[.slice (some ⟨b, off, none⟩) m cap, undef, u2, .pointer (some ⟨B, 0, none⟩), .pointer (some ⟨C, 0, none⟩), .int .i64 z2, .int .i64 ↑i, .pointer (some ⟨g, 0, none⟩), u8, .bool true, .bool false, .slice (some ⟨b, off, none⟩) m cap, .int .i64 ↑m, .bool false, .pointer (some ⟨B, 0, none⟩), u15, u16, u17, u18, u19, u20, u21, u22, u23, u24, u25, u26, u27, u28, u29, u30, u31, u32, u33, u34, u35, u36, u37, u38, u39, u40, u41, u42, u43, u44, u45, u46, u47, u48, u49, u50, u51, u52, u53, u54, u55, u56, u57, u58, u59, u60, u61, u62, u63, u64, u65, u66, u67, u68, u69, u70, u71, u72, u73, u74, u75, .pointer (some ⟨B, 0, none⟩), .slice ao7 d2.a0.length d7, .string (strOfNums d2.a0), .pointer (some ⟨C, 0, none⟩), .string (strOfNums d2.a0), .bool false, .bool false, .pointer (some ⟨B, 0, none⟩), .slice ao8 d2.a1.length d8, .string (strOfNums d2.a1), .pointer (some ⟨C, 1, none⟩), .string (strOfNums d2.a1), .bool false, .bool false, .bool false, u91, u92, u93, u94, u95, u96, u97, u98, u99, u100, u101, u102], defers := [] }) rfl (by kernel_rfl) (by kernel_rfl) (by kernel_rfl) (fun _ _ _ h => h) (.inl ⟨rfl, fun _ _ => rfl⟩) hS rfl ?_
          refine takeA (i := 15) (v := .pointer (some ⟨B, 0, none⟩)) ({ tmps := #[.slice (some ⟨b, off, none⟩) m cap, undef, u2, .pointer (some ⟨B, 0, none⟩), .pointer (some ⟨C, 0, none⟩), .int .i64 z2, .int .i64 ↑i, .pointer (some ⟨g, 0, none⟩), u8, .bool true, .bool false, .slice (some ⟨b, off, none⟩) m cap, .int .i64 ↑m, .bool false, .pointer (some ⟨B, 0, none⟩), u15, u16, u17, u18, u19, u20, u21, u22, u23, u24, u25, u26, u27, u28, u29, u30, u31, u32, u33, u34, u35, u36, u37, u38, u39, u40, u41, u42, u43, u44, u45, u46, u47, u48, u49, u50, u51, u52, u53, u54, u55, u56, u57, u58, u59, u60, u61, u62, u63, u64, u65, u66, u67, u68, u69, u70, u71, u72, u73, u74, u75, .pointer (some ⟨B, 0, none⟩), .slice ao7 d2.a0.length d7, .string (strOfNums d2.a0), .pointer (some ⟨C, 0, none⟩), .string (strOfNums d2.a0), .bool false, .bool false, .pointer (some ⟨B, 0, none⟩), .slice ao8 d2.a1.length d8, .string (strOfNums d2.a1), .pointer (some ⟨C, 1, none⟩), .string (strOfNums d2.a1), .bool false, .bool false, .bool false, .pointer (some ⟨B, 0, none⟩), u92, u93, u94, u95, u96, u97, u98, u99, u100, u101, u102], defers := [] }) rfl (by kernel_rfl) (by kernel_rfl) (by kernel_rfl) (fun _ _ _ h => h) (.inl ⟨rfl, fun _ _ => rfl⟩) hS rfl ?_
          refine wpAnyH_ready (rs := [16]) (by kernel_rfl) (by simp) ?_
          refine AllReadyH.cons rfl (fun K hK => ?_) AllReadyH.nil
          rw [if_pos (by rfl)]
          go_simp
          refine Calls.mono (read_any _ B d2 2 hS.2.1) ?_
          rintro e w9 ⟨ao9, d9, rfl, t9, b9⟩
          clear t9
          refine hK.out ({ tmps := #[.slice (some ⟨b, off, none⟩) m cap, undef, u2, .pointer (some ⟨B, 0, none⟩), .pointer (some ⟨C, 0, none⟩), .int .i64 z2, .int .i64 ↑i, .pointer (some ⟨g, 0, none⟩), u8, .bool true, .bool false, .slice (some ⟨b, off, none⟩) m cap, .int .i64 ↑m, .bool false, .pointer (some ⟨B, 0, none⟩), u15, u16, u17, u18, u19, u20, u21, u22, u23, u24, u25, u26, u27, u28, u29, u30, u31, u32, u33, u34, u35, u36, u37, u38, u39, u40, u41, u42, u43, u44, u45, u46, u47, u48, u49, u50, u51, u52, u53, u54, u55, u56, u57, u58, u59, u60, u61, u62, u63, u64, u65, u66, u67, u68, u69, u70, u71, u72, u73, u74, u75, .pointer (some ⟨B, 0, none⟩), .slice ao7 d2.a0.length d7, .string (strOfNums d2.a0), .pointer (some ⟨C, 0, none⟩), .string (strOfNums d2.a0), .bool false, .bool false, .pointer (some ⟨B, 0, none⟩), .slice ao8 d2.a1.length d8, .string (strOfNums d2.a1), .pointer (some ⟨C, 1, none⟩), .string (strOfNums d2.a1), .bool false, .bool false, .bool false, .pointer (some ⟨B, 0, none⟩), .slice ao9 0 d9, u93, u94, u95, u96, u97, u98, u99, u100, u101, u102], defers := [] }) _ (⟨hS.1.upB b9, hS.2.1.below b9, (b9.block C (lt_of_block hS.2.2)).trans hS.2.2⟩) (fun hS => ?_)
          clear hK K
          refine takeA (i := 17) (v := .int .i64 0) ({ tmps := #[.slice (some ⟨b, off, none⟩) m cap, undef, u2, .pointer (some ⟨B, 0, none⟩), .pointer (some ⟨C, 0, none⟩), .int .i64 z2, .int .i64 ↑i, .pointer (some ⟨g, 0, none⟩), u8, .bool true, .bool false, .slice (some ⟨b, off, none⟩) m cap, .int .i64 ↑m, .bool false, .pointer (some ⟨B, 0, none⟩), u15, u16, u17, u18, u19, u20, u21, u22, u23, u24, u25, u26, u27, u28, u29, u30, u31, u32, u33, u34, u35, u36, u37, u38, u39, u40, u41, u42, u43, u44, u45, u46, u47, u48, u49, u50, u51, u52, u53, u54, u55, u56, u57, u58, u59, u60, u61, u62, u63, u64, u65, u66, u67, u68, u69, u70, u71, u72, u73, u74, u75, .pointer (some ⟨B, 0, none⟩), .slice ao7 d2.a0.length d7, .string (strOfNums d2.a0), .pointer (some ⟨C, 0, none⟩), .string (strOfNums d2.a0), .bool false, .bool false, .pointer (some ⟨B, 0, none⟩), .slice ao8 d2.a1.length d8, .string (strOfNums d2.a1), .pointer (some ⟨C, 1, none⟩), .string (strOfNums d2.a1), .bool false, .bool false, .bool false, .pointer (some ⟨B, 0, none⟩), .slice ao9 0 d9, .int .i64 0, u94, u95, u96, u97, u98, u99, u100, u101, u102], defers := [] }) rfl (by kernel_rfl) (by kernel_rfl) (by kernel_rfl) (fun _ _ _ h => h) (.inl ⟨rfl, fun _ _ => by go_simp⟩) hS rfl ?_
          refine takeA (i := 18) (v := .bool false) ({ tmps := #[.slice (some ⟨b, off, none⟩) m cap, undef, u2, .pointer (some ⟨B, 0, none⟩), .pointer (some ⟨C, 0, none⟩), .int .i64 z2, .int .i64 ↑i, .pointer (some ⟨g, 0, none⟩), u8, .bool true, .bool false, .slice (some ⟨b, off, none⟩) m cap, .int .i64 ↑m, .bool false, .pointer (some ⟨B, 0, none⟩), u15, u16, u17, u18, u19, u20, u21, u22, u23, u24, u25, u26, u27, u28, u29, u30, u31, u32, u33, u34, u35, u36, u37, u38, u39, u40, u41, u42, u43, u44, u45, u46, u47, u48, u49, u50, u51, u52, u53, u54, u55, u56, u57, u58, u59, u60, u61, u62, u63, u64, u65, u66, u67, u68, u69, u70, u71, u72, u73, u74, u75, .pointer (some ⟨B, 0, none⟩), .slice ao7 d2.a0.length d7, .string (strOfNums d2.a0), .pointer (some ⟨C, 0, none⟩), .string (strOfNums d2.a0), .bool false, .bool false, .pointer (some ⟨B, 0, none⟩), .slice ao8 d2.a1.length d8, .string (strOfNums d2.a1), .pointer (some ⟨C, 1, none⟩), .string (strOfNums d2.a1), .bool false, .bool false, .bool false, .pointer (some ⟨B, 0, none⟩), .slice ao9 0 d9, .int .i64 0, .bool false, u95, u96, u97, u98, u99, u100, u101, u102], defers := [] }) rfl (by kernel_rfl) (by kernel_rfl) (by kernel_rfl) (fun _ _ _ h => h) (.inl ⟨rfl, fun _ _ => by go_simp⟩) hS rfl ?_
          refine takeA (i := 19) (v := .bool false) ({ tmps := #[.slice (some ⟨b, off, none⟩) m cap, undef, u2, .pointer (some ⟨B, 0, none⟩), .pointer (some ⟨C, 0, none⟩), .int .i64 z2, .int .i64 ↑i, .pointer (some ⟨g, 0, none⟩), u8, .bool true, .bool false, .slice (some ⟨b, off, none⟩) m cap, .int .i64 ↑m, .bool false, .pointer (some ⟨B, 0, none⟩), u15, u16, u17, u18, u19, u20, u21, u22, u23, u24, u25, u26, u27, u28, u29, u30, u31, u32, u33, u34, u35, u36, u37, u38, u39, u40, u41, u42, u43, u44, u45, u46, u47, u48, u49, u50, u51, u52, u53, u54, u55, u56, u57, u58, u59, u60, u61, u62, u63, u64, u65, u66, u67, u68, u69, u70, u71, u72, u73, u74, u75, .pointer (some ⟨B, 0, none⟩), .slice ao7 d2.a0.length d7, .string (strOfNums d2.a0), .pointer (some ⟨C, 0, none⟩), .string (strOfNums d2.a0), .bool false, .bool false, .pointer (some ⟨B, 0, none⟩), .slice ao8 d2.a1.length d8, .string (strOfNums d2.a1), .pointer (some ⟨C, 1, none⟩), .string (strOfNums d2.a1), .bool false, .bool false, .bool false, .pointer (some ⟨B, 0, none⟩), .slice ao9 0 d9, .int .i64 0, .bool false, .bool false, u96, u97, u98, u99, u100, u101, u102], defers := [] }) rfl (by kernel_rfl) (by kernel_rfl) (by kernel_rfl) (fun _ _ _ h => h) (.inl ⟨rfl, fun _ _ => rfl⟩) hS rfl ?_
          refine takeA (i := 20) (v := .bool false) ({ tmps := #[.slice (some ⟨b, off, none⟩) m cap, undef, u2, .pointer (some ⟨B, 0, none⟩), .pointer (some ⟨C, 0, none⟩), .int .i64 z2, .int .i64 ↑i, .pointer (some ⟨g, 0, none⟩), u8, .bool true, .bool false, .slice (some ⟨b, off, none⟩) m cap, .int .i64 ↑m, .bool false, .pointer (some ⟨B, 0, none⟩), u15, u16, u17, u18, u19, u20, u21, u22, u23, u24, u25, u26, u27, u28, u29, u30, u31, u32, u33, u34, u35, u36, u37, u38, u39, u40, u41, u42, u43, u44, u45, u46, u47, u48, u49, u50, u51, u52, u53, u54, u55, u56, u57, u58, u59, u60, u61, u62, u63, u64, u65, u66, u67, u68, u69, u70, u71, u72, u73, u74, u75, .pointer (some ⟨B, 0, none⟩), .slice ao7 d2.a0.length d7, .string (strOfNums d2.a0), .pointer (some ⟨C, 0, none⟩), .string (strOfNums d2.a0), .bool false, .bool false, .pointer (some ⟨B, 0, none⟩), .slice ao8 d2.a1.length d8, .string (strOfNums d2.a1), .pointer (some ⟨C, 1, none⟩), .string (strOfNums d2.a1), .bool false, .bool false, .bool false, .pointer (some ⟨B, 0, none⟩), .slice ao9 0 d9, .int .i64 0, .bool false, .bool false, .bool false, u97, u98, u99, u100, u101, u102], defers := [] }) rfl (by kernel_rfl) (by kernel_rfl) (by kernel_rfl) (fun _ _ _ h => h) (.inl ⟨rfl, fun _ _ => rfl⟩) hS rfl ?_
          refine takeA (i := 21) (v := .pointer (some ⟨B, 0, none⟩)) ({ tmps := #[.slice (some ⟨b, off, none⟩) m cap, undef, u2, .pointer (some ⟨B, 0, none⟩), .pointer (some ⟨C, 0, none⟩), .int .i64 z2, .int .i64 ↑i, .pointer (some ⟨g, 0, none⟩), u8, .bool true, .bool false, .slice (some ⟨b, off, none⟩) m cap, .int .i64 ↑m, .bool false, .pointer (some ⟨B, 0, none⟩), u15, u16, u17, u18, u19, u20, u21, u22, u23, u24, u25, u26, u27, u28, u29, u30, u31, u32, u33, u34, u35, u36, u37, u38, u39, u40, u41, u42, u43, u44, u45, u46, u47, u48, u49, u50, u51, u52, u53, u54, u55, u56, u57, u58, u59, u60, u61, u62, u63, u64, u65, u66, u67, u68, u69, u70, u71, u72, u73, u74, u75, .pointer (some ⟨B, 0, none⟩), .slice ao7 d2.a0.length d7, .string (strOfNums d2.a0), .pointer (some ⟨C, 0, none⟩), .string (strOfNums d2.a0), .bool false, .bool false, .pointer (some ⟨B, 0, none⟩), .slice ao8 d2.a1.length d8, .string (strOfNums d2.a1), .pointer (some ⟨C, 1, none⟩), .string (strOfNums d2.a1), .bool false, .bool false, .bool false, .pointer (some ⟨B, 0, none⟩), .slice ao9 0 d9, .int .i64 0, .bool false, .bool false, .bool false, .pointer (some ⟨B, 0, none⟩), u98, u99, u100, u101, u102], defers := [] }) rfl (by kernel_rfl) (by kernel_rfl) (by kernel_rfl) (fun _ _ _ h => h) (.inl ⟨rfl, fun _ _ => rfl⟩) hS rfl ?_
          refine takeA (i := 23) (v := .int .i64 z2) ({ tmps := #[.slice (some ⟨b, off, none⟩) m cap, undef, u2, .pointer (some ⟨B, 0, none⟩), .pointer (some ⟨C, 0, none⟩), .int .i64 z2, .int .i64 ↑i, .pointer (some ⟨g, 0, none⟩), u8, .bool true, .bool false, .slice (some ⟨b, off, none⟩) m cap, .int .i64 ↑m, .bool false, .pointer (some ⟨B, 0, none⟩), u15, u16, u17, u18, u19, u20, u21, u22, u23, u24, u25, u26, u27, u28, u29, u30, u31, u32, u33, u34, u35, u36, u37, u38, u39, u40, u41, u42, u43, u44, u45, u46, u47, u48, u49, u50, u51, u52, u53, u54, u55, u56, u57, u58, u59, u60, u61, u62, u63, u64, u65, u66, u67, u68, u69, u70, u71, u72, u73, u74, u75, .pointer (some ⟨B, 0, none⟩), .slice ao7 d2.a0.length d7, .string (strOfNums d2.a0), .pointer (some ⟨C, 0, none⟩), .string (strOfNums d2.a0), .bool false, .bool false, .pointer (some ⟨B, 0, none⟩), .slice ao8 d2.a1.length d8, .string (strOfNums d2.a1), .pointer (some ⟨C, 1, none⟩), .string (strOfNums d2.a1), .bool false, .bool false, .bool false, .pointer (some ⟨B, 0, none⟩), .slice ao9 0 d9, .int .i64 0, .bool false, .bool false, .bool false, .pointer (some ⟨B, 0, none⟩), u98, .int .i64 z2, u100, u101, u102], defers := [] }) rfl (by kernel_rfl) (by kernel_rfl) (by kernel_rfl) (fun _ _ _ h => h) (.inl ⟨rfl, fun _ _ => rfl⟩) hS rfl ?_
          refine takeA (i := 24) (v := .bool (decide (0 ≤ z2))) ({ tmps := #[.slice (some ⟨b, off, none⟩) m cap, undef, u2, .pointer (some ⟨B, 0, none⟩), .pointer (some ⟨C, 0, none⟩), .int .i64 z2, .int .i64 ↑i, .pointer (some ⟨g, 0, none⟩), u8, .bool true, .bool false, .slice (some ⟨b, off, none⟩) m cap, .int .i64 ↑m, .bool false, .pointer (some ⟨B, 0, none⟩), u15, u16, u17, u18, u19, u20, u21, u22, u23, u24, u25, u26, u27, u28, u29, u30, u31, u32, u33, u34, u35, u36, u37, u38, u39, u40, u41, u42, u43, u44, u45, u46, u47, u48, u49, u50, u51, u52, u53, u54, u55, u56, u57, u58, u59, u60, u61, u62, u63, u64, u65, u66, u67, u68, u69, u70, u71, u72, u73, u74, u75, .pointer (some ⟨B, 0, none⟩), .slice ao7 d2.a0.length d7, .string (strOfNums d2.a0), .pointer (some ⟨C, 0, none⟩), .string (strOfNums d2.a0), .bool false, .bool false, .pointer (some ⟨B, 0, none⟩), .slice ao8 d2.a1.length d8, .string (strOfNums d2.a1), .pointer (some ⟨C, 1, none⟩), .string (strOfNums d2.a1), .bool false, .bool false, .bool false, .pointer (some ⟨B, 0, none⟩), .slice ao9 0 d9, .int .i64 0, .bool false, .bool false, .bool false, .pointer (some ⟨B, 0, none⟩), u98, .int .i64 z2, .bool (decide (0 ≤ z2)), u101, u102], defers := [] }) rfl (by kernel_rfl) (by kernel_rfl) (by kernel_rfl) (fun _ _ _ h => h) (.inl ⟨rfl, fun _ _ => by go_simp⟩) hS rfl ?_
          refine wpAnyH_ready (rs := [22]) (by kernel_rfl) (by simp) ?_
          refine AllReadyH.cons rfl (fun K hK => ?_) AllReadyH.nil
          rw [if_pos (by rfl)]
          go_simp
          refine Calls.mono (armed_any _ B d2 hS.2.1) ?_
          rintro e w10 ⟨rfl, rfl⟩
          rw [← HZD.out]
          refine hK.out ({ tmps := #[.slice (some ⟨b, off, none⟩) m cap, undef, u2, .pointer (some ⟨B, 0, none⟩), .pointer (some ⟨C, 0, none⟩), .int .i64 z2, .int .i64 ↑i, .pointer (some ⟨g, 0, none⟩), u8, .bool true, .bool false, .slice (some ⟨b, off, none⟩) m cap, .int .i64 ↑m, .bool false, .pointer (some ⟨B, 0, none⟩), u15, u16, u17, u18, u19, u20, u21, u22, u23, u24, u25, u26, u27, u28, u29, u30, u31, u32, u33, u34, u35, u36, u37, u38, u39, u40, u41, u42, u43, u44, u45, u46, u47, u48, u49, u50, u51, u52, u53, u54, u55, u56, u57, u58, u59, u60, u61, u62, u63, u64, u65, u66, u67, u68, u69, u70, u71, u72, u73, u74, u75, .pointer (some ⟨B, 0, none⟩), .slice ao7 d2.a0.length d7, .string (strOfNums d2.a0), .pointer (some ⟨C, 0, none⟩), .string (strOfNums d2.a0), .bool false, .bool false, .pointer (some ⟨B, 0, none⟩), .slice ao8 d2.a1.length d8, .string (strOfNums d2.a1), .pointer (some ⟨C, 1, none⟩), .string (strOfNums d2.a1), .bool false, .bool false, .bool false, .pointer (some ⟨B, 0, none⟩), .slice ao9 0 d9, .int .i64 0, .bool false, .bool false, .bool false, .pointer (some ⟨B, 0, none⟩), .bool (decide (0 ≤ z2)), .int .i64 z2, .bool (decide (0 ≤ z2)), u101, u102], defers := [] }) _ (hS) (fun hS => ?_)
          clear hK K
          refine takeA (i := 25) (v := .bool false) ({ tmps := #[.slice (some ⟨b, off, none⟩) m cap, undef, u2, .pointer (some ⟨B, 0, none⟩), .pointer (some ⟨C, 0, none⟩), .int .i64 z2, .int .i64 ↑i, .pointer (some ⟨g, 0, none⟩), u8, .bool true, .bool false, .slice (some ⟨b, off, none⟩) m cap, .int .i64 ↑m, .bool false, .pointer (some ⟨B, 0, none⟩), u15, u16, u17, u18, u19, u20, u21, u22, u23, u24, u25, u26, u27, u28, u29, u30, u31, u32, u33, u34, u35, u36, u37, u38, u39, u40, u41, u42, u43, u44, u45, u46, u47, u48, u49, u50, u51, u52, u53, u54, u55, u56, u57, u58, u59, u60, u61, u62, u63, u64, u65, u66, u67, u68, u69, u70, u71, u72, u73, u74, u75, .pointer (some ⟨B, 0, none⟩), .slice ao7 d2.a0.length d7, .string (strOfNums d2.a0), .pointer (some ⟨C, 0, none⟩), .string (strOfNums d2.a0), .bool false, .bool false, .pointer (some ⟨B, 0, none⟩), .slice ao8 d2.a1.length d8, .string (strOfNums d2.a1), .pointer (some ⟨C, 1, none⟩), .string (strOfNums d2.a1), .bool false, .bool false, .bool false, .pointer (some ⟨B, 0, none⟩), .slice ao9 0 d9, .int .i64 0, .bool false, .bool false, .bool false, .pointer (some ⟨B, 0, none⟩), .bool (decide (0 ≤ z2)), .int .i64 z2, .bool (decide (0 ≤ z2)), .bool false, u102], defers := [] }) rfl (by kernel_rfl) (by kernel_rfl) (by kernel_rfl) (fun _ _ _ h => h) (.inl ⟨rfl, fun _ _ => by go_simp⟩) hS rfl ?_
          refine takeA (i := 26) (v := .bool false) ({ tmps := #[.slice (some ⟨b, off, none⟩) m cap, undef, u2, .pointer (some ⟨B, 0, none⟩), .pointer (some ⟨C, 0, none⟩), .int .i64 z2, .int .i64 ↑i, .pointer (some ⟨g, 0, none⟩), u8, .bool true, .bool false, .slice (some ⟨b, off, none⟩) m cap, .int .i64 ↑m, .bool false, .pointer (some ⟨B, 0, none⟩), u15, u16, u17, u18, u19, u20, u21, u22, u23, u24, u25, u26, u27, u28, u29, u30, u31, u32, u33, u34, u35, u36, u37, u38, u39, u40, u41, u42, u43, u44, u45, u46, u47, u48, u49, u50, u51, u52, u53, u54, u55, u56, u57, u58, u59, u60, u61, u62, u63, u64, u65, u66, u67, u68, u69, u70, u71, u72, u73, u74, u75, .pointer (some ⟨B, 0, none⟩), .slice ao7 d2.a0.length d7, .string (strOfNums d2.a0), .pointer (some ⟨C, 0, none⟩), .string (strOfNums d2.a0), .bool false, .bool false, .pointer (some ⟨B, 0, none⟩), .slice ao8 d2.a1.length d8, .string (strOfNums d2.a1), .pointer (some ⟨C, 1, none⟩), .string (strOfNums d2.a1), .bool false, .bool false, .bool false, .pointer (some ⟨B, 0, none⟩), .slice ao9 0 d9, .int .i64 0, .bool false, .bool false, .bool false, .pointer (some ⟨B, 0, none⟩), .bool (decide (0 ≤ z2)), .int .i64 z2, .bool (decide (0 ≤ z2)), .bool false, .bool false], defers := [] }) rfl (by kernel_rfl) (by kernel_rfl) (by kernel_rfl) (fun _ _ _ h => h) (.inl ⟨rfl, fun _ _ => rfl⟩) hS rfl ?_
          refine wpAnyH_done (by kernel_rfl) ?_ _
          clear hs7 hs8
          have I7 : Hid (Inv w w9 B C d2 z2) := Lib.hid ⟨hS.2.1, hS.2.2, hS.1, I2d.out.hB, I2d.out.hC, I2d.out.ne, I2d.out.zd, I2d.out.zn, I2d.out.zr⟩
          clear hS
          go_wp2_with fail
          go_round
          case rel => exact ⟨i + 1, d2, z2, by omega, by go_num, rfl, I7⟩
          case measure => simp [intOf]; omega
      · have hm3 : decide (300 < (sm : Int)) = true := by rw [decide_eq_true_eq]; omega
        have kf := IW.out.k
        clear IW HG
        go_wp2_with fail
        go_ret
        exact ⟨rfl, kf.below (Nat.le_refl _) (fun _ h => h.elim)⟩
    · obtain rfl : i = m := by omega
      have kf := HI.out.k
      clear HI
      go_wp2_with fail
      go_ret
      exact ⟨rfl, kf.below (Nat.le_refl _) (fun _ h => h.elim)⟩

theorem walk (v : Value) (l : List St) (w : World) (hr : RowU w 4 St.cells v l) (hok : ∀ x ∈ l, x.ok w) : Calls Try.prog 3 #[v] w fun e w' => e = .returned (.bool true) ∧ Below w.heap.size w w' := by
  obtain ⟨a, cap, rfl, h1, h2, h3, h4⟩ := hr
  by_cases hl : l.length ≤ 40
  · exact core l a cap w ⟨a, cap, rfl, h1, h2, h3, h4⟩ hok hl
  · clear hok h1 h2 h3 h4
    generalize l.length = m at *
    have hm0 : decide (40 < (m : Int)) = true := by rw [decide_eq_true_eq]; omega
    clear hl
    go_enter Try.func3, Try.ntmps3
    go_wp2_with fail
    refine (known_any w).mono ?_
    rintro e w1 ⟨rfl, k1⟩
    have K1 := Lib.hid k1
    clear k1
    go_wp2_with fail
    go_ret
    exact ⟨rfl, K1.out.below (Nat.le_refl _) (fun _ h => h.elim)⟩


theorem lifted (os : Os) (started : os.Started) (H : Type) (enc : TypeId × Value → H) :
    ReturnsInHanded {} Try.checked os 3 .any (Rows.diskPlaysSpec.pre6 enc Try.prog Try.f3 Rows.diskPlaysRow.domain false) (Rows.diskPlaysSpec.post enc Try.prog Try.f3 false true false false) := by
  refine returnsInHanded_of_change (C := Try.checked) own started (by kernel_rfl) Try.func3
    (ChangeSpec.witness6 (enc := enc) (C := Try.checked) false ⟨#[], #[.slice none 0 0], []⟩ 8 (by kernel_rfl) (by kernel_rfl) (by kernel_rfl) (by kernel_rfl)) ?_
  intro W base args ds gs before hval0 hW hcnd _
  have hval : ∀ (j : Nat) t v, Try.f3.params[j]? = some t → args[j]? = some v → Value.okWide Try.prog W .any base t v := hval0
  have hW' := hW
  obtain ⟨p, q, hA0, hV, rfl, hfz, hnd⟩ := hW
  have hA : DataW.TrodAll enc Try.prog W 0 (fun _ => true) true Try.f3.params.toList args.toList ds p := hA0
  rw [Try.params3] at hA hval
  obtain ⟨v0, vs0, d0, ds0, p0, q0, hargs, rfl, rfl, h0, r0⟩ := trodAll_cons hA
  obtain ⟨rfl, rfl, rfl⟩ := trodAll_nil r0
  obtain rfl : args = #[v0] := by cases args; simp_all
  obtain ⟨rfl, rfl⟩ := trodVars_none hV
  have k0 := h0
  have lt0 : ∀ x ∈ p0, x.block < W.heap.size := by obtain ⟨m, hm⟩ := k0; exact DataW.trod_lt m _ _ _ hm
  obtain ⟨ax0, ln0, cx0, rfl⟩ := okWide_slice Try.underlying22 (hval 0 22 v0 rfl rfl)
  obtain ⟨fuel0, hf0⟩ := h0
  obtain ⟨l0, hr0, ok0⟩ := open_steps (show DataW.trod enc Try.prog W 0 (fun _ => true) true fuel0 22 [.slice ax0 ln0 cx0] = _ from by simpa [Value.cells] using hf0)
  clear hA0 hval0
  refine (walk (.slice ax0 ln0 cx0) l0 W hr0 ok0).mono fun e W' ⟨he, bel⟩ => ?_
  subst he
  exact ⟨_, rfl, _, _, _, [], _, [], hW', trodAll_mk1 (shut_bool Try.underlying4 _), (trodAll_cons_mk (Below.trod laidOut (by kernel_rfl) (of_decide_eq_true (by kernel_rfl)) k0 bel lt0) trodAll_mk0), rfl, bel.frame _, fun h => by cases h⟩

theorem over : Rows.diskPlaysRow.holds Try.pinned (OpenSpec.ofChange Rows.diskPlaysSpec) :=
  OpenClaim.holds_of_wide 3 Try.f3 rfl rfl rfl rfl rfl rfl rfl ⟨rfl, rfl, rfl, rfl, rfl⟩ rfl rfl rfl rfl rfl (by kernel_rfl) Try.func3 (by kernel_rfl)
    (of_decide_eq_true (by kernel_rfl)) (by unfold Func.isWrapper; first | (rw [if_pos (by decide +kernel)]; kernel_rfl) | (rw [if_neg (by decide +kernel)]; exact ⟨rfl, rfl⟩))
    (fun os started H enc _ => lifted os started H enc)

theorem proved : Rows.DiskPlaysSaid := over
#print axioms proved
end Go.Proofs.Yteognfhlpmpckaa.diskPlays
