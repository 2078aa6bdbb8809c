/- The bag: Send, At, Drop, Double. -/
import Derived.Test.YtmkeckablkccnaaDoorNc6
namespace Go.Proofs.YtmkeckablkccnaaDoor
open Go.RowKit
set_option maxRecDepth 100000

def Ad (m : Mg) (l : List Mg) (r : Int) (l' : List Mg) : Prop := (400 ≤ l.length ∧ r = 60 ∧ l' = l) ∨ (l.length < 400 ∧ r = 0 ∧ l' = l ++ [m])
theorem add47 (w : World) (B : Nat) (g : Option Nat) (l : List Mg) (m : Mg) (h : Bag w B g l) (hm : Mnil m) :
    Calls Tryd.prog 47 #[.pointer (some ⟨B, 0, none⟩), .agg m.cells.toArray] w fun e w' => ∃ r g' l', e = .returned (.int .i64 r) ∧ Bag w' B g' l' ∧ Gone w B g w' g' ∧ Ad m l r l' := by
  rcases Nat.lt_or_ge l.length 400 with hl | hl
  · refine (add47_room w B g l m h hm hl).mono ?_
    rintro e w' ⟨rfl, g', h1, h2⟩
    exact ⟨0, g', _, rfl, h1, h2, .inr ⟨hl, rfl, rfl⟩⟩
  · refine (add47_full w B g l m h hl).mono ?_
    rintro e w' ⟨rfl, h1, h2⟩
    exact ⟨60, g, l, rfl, h1, Gone.below h2, .inl ⟨hl, rfl, rfl⟩⟩

def Snd (m : Mg) (l : List Mg) (r : Int) (l' : List Mg) : Prop := (isM m Mc.nil = false ∧ r = 30 ∧ l' = l) ∨ (isM m Mc.nil = true ∧ Ad m l r l')
theorem mcok_nil : McOk Mc.nil := ⟨⟨(fun x hx => by cases hx), (fun x hx => by cases hx)⟩, (fun x hx => by cases hx)⟩

set_option maxHeartbeats 4000000 in
theorem send16 (w : World) (B : Nat) (g : Option Nat) (l : List Mg) (m : Mg) (h : Bag w B g l) (hm : Mnil m) (ht : Tab w) :
    Calls Tryd.prog 16 #[.pointer (some ⟨B, 0, none⟩), .agg m.cells.toArray] w fun e w' => ∃ r g' l', e = .returned (.int .i64 r) ∧ Bag w' B g' l' ∧ Gone w B g w' g' ∧ Snd m l r l' := by
  have hb : Below w.heap.size w (w.alloc (.cells m.cells.toArray 37)) := (Below.refl _ _).alloc (Nat.le_refl _) _
  have bx : (w.alloc (.cells m.cells.toArray 37)).heap[w.heap.size]? = some (.cells m.cells.toArray 37 (0, 0)) := heap_alloc_new _ _
  obtain ⟨W, hW⟩ : ∃ W, W = w.alloc (.cells m.cells.toArray 37) := ⟨_, rfl⟩
  rw [← hW] at hb bx
  have HB := Lib.hid hb
  have HBX := Lib.hid bx
  have HBG := Lib.hid (h.below hb)
  have HW := Lib.hid hW
  have HM := Lib.hid hm
  have CI := Lib.hid (is_all W m Mc.nil (nil_at W m hm.vt hm.vs hm.sm hm.dt) mcok_nil (Tab.on ht hb))
  have CA := Lib.hid (fun (X : World) (h : Bag X B g l) => add47 X B g l m h hm)
  obtain ⟨gx, hgx⟩ : ∃ gx, gx = w.heap.size := ⟨_, rfl⟩
  rw [← hgx] at HBX
  have HGX := Lib.hid hgx
  have eA : (#[.int .u8 m.k, .int .u8 m.f, .int .u8 m.t, .int .u8 m.e, .int .u32 m.vw, .int .u32 m.sq, .int .u8 m.rq.c, .int .u32 m.rq.t, .int .u8 m.rq.k, .int .u8 m.rq.y, .int .u16 m.rq.v, .int .u64 m.ro, .int .u8 m.ct, .int .u8 m.pg, .int .u32 m.rs, .int .u8 m.vt.f, .int .u8 m.vt.e, .int .u32 m.vt.vw, .int .u32 m.vt.lo, .slice m.vt.ms.a m.vt.ms.n m.vt.ms.c, .slice m.vt.p.a m.vt.p.n m.vt.p.c, .slice m.vt.q.a m.vt.q.n m.vt.q.c, .slice m.vs.a m.vs.n m.vs.c, .slice m.sm.a m.sm.n m.sm.c, .slice m.dt.a m.dt.n m.dt.c] : Array Value) = m.cells.toArray := rfl
  have EA := Lib.hid eA
  clear hb bx h hW hm ht hgx eA
  obtain ⟨b, hbv⟩ : ∃ b, b = isM m Mc.nil := ⟨_, rfl⟩
  rw [← hbv] at CI
  have HBV := Lib.hid hbv
  clear hbv
  simp only [Mg.cells] at HW ⊢
  go_enter Tryd.func16, Tryd.ntmps16
  go_upto_region 1 with fail
  rw [← HW.out, ← HGX.out, EA.out]
  clear HW EA
  refine wp_region_lit ?_
  refine wpList_load_row rfl 37 (.tmp 3) rfl gx rfl 37 _ (0, 0) _ HBX.out Tryd.underlying37 rfl size37 ?_
  go_wp2_with fail
  refine Calls.mono CI.out ?_
  rintro e w1 ⟨rfl, hb⟩
  have HB1 := Lib.hid hb
  have HBX1 := Lib.hid (show w1.heap[gx]? = some (.cells m.cells.toArray 37 (0, 0)) by rw [hb.block gx (lt_of_block HBX.out)]; exact HBX.out)
  have HBG1 := Lib.hid (HBG.out.below hb)
  clear hb HBX HBG CI
  cases b with
  | false =>
    go_wp2_with fail
    go_ret
    exact ⟨30, g, l, rfl, HBG1.out, (Gone.below HB.out).trans (Gone.below HB1.out), .inl ⟨HBV.out.symm, rfl, rfl⟩⟩
  | true =>
    go_wp2_with (first | (refine wpList_load_row rfl 37 (.tmp 3) rfl gx rfl 37 _ (0, 0) _ HBX1.out Tryd.underlying37 rfl size37 ?_; refine Hid.out ?_) | go_in)
    refine Lib.hid ?_
    clear HBX1
    go_wp2_with fail
    refine Calls.mono (CA.out w1 HBG1.out) ?_
    rintro e w2 ⟨r, g', l', rfl, h1, h2, h3⟩
    have H1 := Lib.hid h1
    have H2 := Lib.hid h2
    have H3 := Lib.hid h3
    clear h1 h2 h3 CA
    go_wp2_with fail
    go_ret
    exact ⟨r, g', l', rfl, H1.out, ((Gone.below HB.out).trans (Gone.below HB1.out)).trans H2.out, .inr ⟨HBV.out.symm, H3.out⟩⟩

/-- a place in the bag -/
theorem Bg.at {w : World} {B : Nat} {g : Option Nat} {l : List Mg} {ao : Option Addr} {cap j : Nat} {m : Mg} (h : Bg w B g l ao cap) (hj : l[j]? = some m) : ∃ b, ao = some ⟨b, 0, none⟩ ∧ g = some b ∧ w.rangeAt b (j * 25) m.cells ∧ ∃ cur, w.heap[b]? = some (.cells cur 37 (0, 0)) ∧ l.length ≤ cap ∧ cap ≤ maxLen ∧ cur.size = cap * 25 ∧ cur.toList.take (l.length * 25) = l.flatMap Mg.cells := by
  have hr := row_of_own (enc := Mg.cells) (fun _ _ => rfl) h.own rfl (by have := h.len; omega)
  have hlt : j < l.length := (List.getElem?_eq_some_iff.1 hj).1
  rcases h.own.2 with ⟨e, e0⟩ | ⟨b, cap', cur, e, _, hb, r1, r2, r3, r4⟩
  · omega
  · injection e with e1 e2 e3
    subst e1 e3
    refine ⟨b, rfl, h.hg, ?_, cur, hb, r1, r2, r3, r4⟩
    obtain ⟨ao2, c2, e, _, _, _, hc⟩ := hr
    injection e with e1 e2 e3
    subst e1
    obtain ⟨b', off, e, hcc⟩ := hc j m hj
    injection e with e
    injection e with e1 e2
    subst e1 e2
    intro i u hu
    have := hcc i u hu
    rw [Nat.zero_add] at this
    exact this

set_option maxHeartbeats 4000000 in
theorem drop_no (w : World) (B : Nat) (g : Option Nat) (l : List Mg) (i : Int) (h : Bag w B g l) (hi : inB i l.length = false) :
    Calls Tryd.prog 19 #[.pointer (some ⟨B, 0, none⟩), .int .i64 i] w fun e w' => e = .returned (.int .i64 61) ∧ w' = w := by
  have C := has54 w B g l i h
  rw [hi] at C
  have HC := Lib.hid C
  clear C h hi
  go_enter Tryd.func19, Tryd.ntmps19
  go_wp2_with fail
  refine Calls.mono HC.out ?_
  rintro e w1 ⟨rfl, rfl⟩
  go_wp2_with fail
  go_ret
  exact ⟨rfl, rfl⟩
set_option maxHeartbeats 4000000 in
theorem drop_yes (w : World) (B : Nat) (g : Option Nat) (l : List Mg) (i : Nat) (h : Bag w B g l) (hi : i < l.length) :
    Calls Tryd.prog 19 #[.pointer (some ⟨B, 0, none⟩), .int .i64 i] w fun e w' => e = .returned (.int .i64 0) ∧ Bag w' B g (l.eraseIdx i) ∧ Gone w B g w' g := by
  have C := has54 w B g l i h
  rw [show inB i l.length = true by simp [inB]; omega] at C
  obtain ⟨ao, cap, h⟩ := h
  obtain ⟨b, rfl, hg, hr0, cur, c1, c2, c3, c4, c5⟩ := h.at (j := i) (List.getElem?_eq_getElem hi)
  have q := h.cell
  have D := del55 w l b cap i (i + 1) l.length (l.length - 1) cur c1 rfl c2 c3 c4 c5 hi rfl (by omega)
  have HL := Lib.hid h.len
  have HC := Lib.hid C
  have HD := Lib.hid D
  have HH := Lib.hid h
  have HG := Lib.hid hg
  have HI := Lib.hid hi
  have hwr : IntKind.i64.wrap ((i : Int) + 1) = (i : Int) + 1 := by have := h.len; rw [IntKind.wrap_i64]; omega
  clear hr0 C D h hg c1 c2 c3 c4 c5 hi
  generalize hn : l.length = n at *
  have HN := Lib.hid hn
  clear hn
  go_enter Tryd.func19, Tryd.ntmps19
  go_wp2_with fail
  refine Calls.mono HC.out ?_
  rintro e w1 ⟨rfl, rfl⟩
  go_wp2_with fail
  refine Calls.mono HD.out ?_
  rintro e w2 ⟨rfl, ho, hk⟩
  have hne : b ≠ B := fun e => HH.out.ne (by rw [HG.out, e])
  have hbx : w2.heap[B]? = some (.cells #[.slice (some ⟨b, 0, none⟩) n cap] 96 (0, 0)) := by rw [hk.block B (lt_of_block HH.out.box) (fun e => hne e.symm), HH.out.box, HN.out]
  have q2 : w2.cell? ⟨B, 0, none⟩ = some (.slice (some ⟨b, 0, none⟩) n cap) := by rw [cell_of_row _ _ _ _ _ _ hbx]; rfl
  have z2 : w2.frozen? ⟨B, 0, none⟩ = false := frozen_of_row _ _ _ _ _ hbx
  have HBX := Lib.hid hbx
  have HO := Lib.hid ho
  have HK := Lib.hid hk
  have HNE := Lib.hid hne
  clear hbx ho hk hne HC HD q
  go_wp2_with fail
  go_ret
  have hle : (l.eraseIdx i).length = n - 1 := by rw [List.length_eraseIdx_of_lt (by rw [HN.out]; exact HI.out), HN.out]
  have hkB : Kept (fun k => k = B) w2 (w2.setCell ⟨B, 0, none⟩ (.slice (some ⟨b, 0, none⟩) (n - 1) cap)) := (Kept.refl _ w2).setCell _ _ (fun _ => rfl)
  refine ⟨rfl, ⟨some ⟨b, 0, none⟩, cap, ⟨?_, ?_, HG.out, HH.out.ne, fun x hx => HH.out.nil x (List.mem_of_mem_eraseIdx hx), by rw [hle]; have := HL.out; omega⟩⟩, ?_, .inl rfl⟩
  · rw [heap_setCell_same _ _ _ _ _ _ HBX.out, hle]; rfl
  · rw [hle]
    exact own_kept' HO.out hkB (fun x e hx => HNE.out (by simp [Value.ownBlock] at e; omega))
  · exact (HK.out.mono (fun k _ e => .inr (by rw [HG.out, e]))).trans hkB (fun i _ e => .inl e)

set_option maxHeartbeats 4000000 in
theorem double_no (w : World) (B : Nat) (g : Option Nat) (l : List Mg) (i : Int) (h : Bag w B g l) (hi : inB i l.length = false) :
    Calls Tryd.prog 21 #[.pointer (some ⟨B, 0, none⟩), .int .i64 i] w fun e w' => e = .returned (.int .i64 61) ∧ w' = w := by
  have C := has54 w B g l i h
  rw [hi] at C
  have HC := Lib.hid C
  clear C h hi
  go_enter Tryd.func21, Tryd.ntmps21
  go_wp2_with fail
  refine Calls.mono HC.out ?_
  rintro e w1 ⟨rfl, rfl⟩
  go_wp2_with fail
  go_ret
  exact ⟨rfl, rfl⟩
set_option maxHeartbeats 4000000 in
theorem double_yes (w : World) (B : Nat) (g : Option Nat) (l : List Mg) (i : Nat) (m : Mg) (h : Bag w B g l) (hi : l[i]? = some m) :
    Calls Tryd.prog 21 #[.pointer (some ⟨B, 0, none⟩), .int .i64 i] w fun e w' => ∃ r g' l', e = .returned (.int .i64 r) ∧ Bag w' B g' l' ∧ Gone w B g w' g' ∧ Ad m l r l' := by
  have hlt : i < l.length := (List.getElem?_eq_some_iff.1 hi).1
  have C := has54 w B g l i h
  rw [show inB i l.length = true by simp [inB]; omega] at C
  have hb := h
  obtain ⟨ao, cap, h⟩ := h
  obtain ⟨b, rfl, hg, hr, cur, c1, c2, c3, c4, c5⟩ := h.at hi
  have q := h.cell
  have HA := Lib.hid (add47 w B g l m hb (h.nil m (List.mem_of_getElem? hi)))
  have HR := Lib.hid hr
  have HC := Lib.hid C
  have SZ := Lib.hid (show (Tryd.prog.info? 37).map (·.size) = some m.cells.length from size37)
  clear C h hg c1 c2 c3 c4 c5 hi hr hb
  generalize l.length = n at *
  go_enter Tryd.func21, Tryd.ntmps21
  go_wp2_with fail
  refine Calls.mono HC.out ?_
  rintro e w1 ⟨rfl, rfl⟩
  go_wp2_with (first | (refine wpList_load_mid rfl 37 (.tmp 15) rfl b (i * 25) (by first | rfl | simp) m.cells _ HR.out Tryd.underlying37 rfl SZ.out ?_; refine Hid.out ?_) | go_in)
  refine Lib.hid ?_
  go_wp2_with fail
  refine Calls.mono HA.out ?_
  rintro e w2 ⟨r, g', l', rfl, h1, h2, h3⟩
  have H1 := Lib.hid h1
  have H2 := Lib.hid h2
  have H3 := Lib.hid h3
  clear h1 h2 h3 HA
  go_wp2_with fail
  go_ret
  exact ⟨r, g', l', rfl, H1.out, H2.out, H3.out⟩
end Go.Proofs.YtmkeckablkccnaaDoor
