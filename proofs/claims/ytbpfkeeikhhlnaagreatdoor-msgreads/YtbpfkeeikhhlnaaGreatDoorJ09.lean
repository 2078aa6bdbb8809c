/- Votes are read, one behind the other. The bytes of a page are read. A part of a message is read. Requests, votes within a message are read. Whatever part is read; what is read is in range. -/
import Derived.Test.YtbpfkeeikhhlnaaGreatDoorJ08
import Derived.Test.YtbpfkeeikhhlnaaGreatDoorJ07
import Derived.Deep.RegionHeld3
namespace Go.Proofs.YtbpfkeeikhhlnaaGreatDoor
open Go.RowKit
set_option maxRecDepth 100000

def toVp (x : Vt × Vc) : Vp := ⟨x.1.f, x.1.e, x.1.vw, x.1.lo, x.2⟩
theorem flat_next {α : Type} {enc : α → List Value} {k : Nat} (henc : ∀ x, (enc x).length = k) {w1 : World} {g j : Nat} {xs : List α} (x : α) (hl : xs.length = j) (hr : w1.rangeAt g 0 (xs.flatMap enc)) (ht : w1.there g (j * k) k) : (w1.setCells g (j * k) (enc x)).rangeAt g 0 ((xs ++ [x]).flatMap enc) := by
  have hfl := flatV_len enc k henc xs
  rw [hl] at hfl
  have ha := World.rangeAt_setCells_apart hr g (j * k) (enc x) (.inr (.inl (by rw [hfl]; omega)))
  have hb := World.rangeAt_setCells_same w1 g (j * k) (enc x) (by rw [henc]; exact ht)
  intro i v hi
  simp only [List.flatMap_append, List.flatMap_cons, List.flatMap_nil, List.append_nil] at hi
  by_cases hlt : i < (xs.flatMap enc).length
  · rw [List.getElem?_append_left hlt] at hi
    exact ha i v hi
  · rw [List.getElem?_append_right (by omega), hfl] at hi
    have := hb _ v hi
    rw [hfl] at hlt
    rw [show 0 + i = j * k + (i - j * k) from by omega]
    exact this
theorem row_of_range {α : Type} {enc : α → List Value} {k : Nat} (henc : ∀ x, (enc x).length = k) {wr : World} {g n : Nat} {xs : List α} (hl : xs.length = n) (hr : wr.rangeAt g 0 (xs.flatMap enc)) (hn : n ≤ 1000) : Row wr k enc (.slice (some ⟨g, 0, none⟩) n n) xs := by
  refine ⟨some ⟨g, 0, none⟩, n, by rw [hl], (fun e => by cases e), by rw [hl]; exact Nat.le_refl _, by rw [hl]; omega, fun j x hj => ⟨g, 0, rfl, fun i u hu => ?_⟩⟩
  have key : ∀ (xs : List α) (j i : Nat) (x : α) (u : Value), xs[j]? = some x → (enc x)[i]? = some u → (xs.flatMap enc)[j * k + i]? = some u := by
    intro xs
    induction xs with
    | nil => intro j i x u hx; simp at hx
    | cons y r ih =>
      intro j i x u hx hu
      have hy := henc y
      cases j with
      | zero =>
        simp at hx
        subst hx
        have hi : i < (enc y).length := by
          rcases Nat.lt_or_ge i (enc y).length with h | h
          · exact h
          · rw [List.getElem?_eq_none h] at hu; cases hu
        rw [List.flatMap_cons, Nat.zero_mul, Nat.zero_add, List.getElem?_append_left hi]; exact hu
      | succ j =>
        rw [List.flatMap_cons, List.getElem?_append_right (by rw [hy, Nat.succ_mul]; omega), hy]
        have := ih j i x u (by simpa using hx) hu
        rw [show (j + 1) * k + i - k = j * k + i from by rw [Nat.succ_mul]; omega]
        exact this
  have := hr (j * k + i) u (key _ j i x u hj hu)
  simpa [Nat.add_assoc] using this
/-- votes in a row, behind j of n -/
structure RowW (s : Sr) (V wr : World) (S R g n j : Nat) (vl : List (Vt × Vc)) : Prop where
  th : wr.there g 0 (n * 7)
  len : vl.length = j
  ra : wr.rangeAt g 0 (vl.flatMap vcell)
  each : ∀ x ∈ vl, VtAt wr x.1 x.2 ∧ NewV (g + 1) x.1
  pure : vl.map toVp = (pN pVt s j).1
  sat : Sat wr S R (pN pVt s j).2
  kept : Kept (TG S R g) V wr
theorem RowW.next {s : Sr} {V wr w1 : World} {S R g n j : Nat} {vl : List (Vt × Vc)} (h : RowW s V wr S R g n j vl) {v : Vt} (hw : v.f = (pVt (pN pVt s j).2).1.f ∧ v.e = (pVt (pN pVt s j).2).1.e ∧ v.vw = (pVt (pN pVt s j).2).1.vw ∧ v.lo = (pVt (pN pVt s j).2).1.lo) (hva : VtAt w1 v (pVt (pN pVt s j).2).1.c) (hvn : NewV wr.heap.size v)
    (hs : Sat w1 S R (pVt (pN pVt s j).2).2) (hk : Kept (SR S R) wr w1) (hgS : S < g) (hgR : R < g) (hlt : g < wr.heap.size) (hj : j < n) : w1.there g (j * 7) 7 ∧ RowW s V (w1.setCells g (j * 7) v.cells) S R g n (j + 1) (vl ++ [(v, (pVt (pN pVt s j).2).1.c)]) := by
  have hnT : ¬ SR S R g := fun e => by rcases e with e | e; omega; omega
  have ht1 := there_kept h.th hk hnT hlt
  have htj := there_part (o := j * 7) (k := 7) ht1 (by omega)
  have hkg : Kept (fun k => k = g) w1 (w1.setCells g (j * 7) v.cells) := kept_setCells
  have hT : ∀ b, SR S R b → b < g + 1 := fun b e => by rcases e with e | e; omega; omega
  refine ⟨htj, World.there_setCells ht1 _ _ _, by simp [h.len], ?_, ?_, ?_, hs.kept hkg (by omega) (fun i hi e => by omega), (h.kept.trans hk (fun i _ e => .inl e)).trans hkg (fun i _ e => .inr e)⟩
  · exact flat_next (enc := vcell) (k := 7) (fun x => rfl) (v, (pVt (pN pVt s j).2).1.c) h.len (range_kept h.ra hk hnT) htj
  · intro x hx
    rw [List.mem_append, List.mem_singleton] at hx
    rcases hx with hx | rfl
    · obtain ⟨e1, e2⟩ := h.each x hx
      exact ⟨(e1.new hk e2 hT).new hkg e2 (fun b e => by omega), e2⟩
    · have hv1 : NewV (g + 1) v := ⟨fun ad e => by have := hvn.1 ad e; omega, fun ad e => by have := hvn.2.1 ad e; omega, fun ad e => by have := hvn.2.2 ad e; omega⟩
      exact ⟨hva.new hkg hv1 (fun b e => by omega), hv1⟩
  · rw [List.map_append, h.pure]
    simp only [pN, List.map_cons, List.map_nil, toVp]
    obtain ⟨h1, h2, h3, h4⟩ := hw
    rw [h1, h2, h3, h4]

theorem info32v : (Tryz.prog.info? 32).map (fun i => (i.zero, i.size, i.bytes)) = some (some (.agg #[.int .u8 0, .int .u8 0, .int .u32 0, .int .u32 0, .slice none 0 0, .slice none 0 0, .slice none 0 0]), 7, 88) := by kernel_rfl
/-- votes that were made since -/
def NewS (H : Nat) (v : Sl) (vl : List (Vt × Vc)) : Prop := (∀ ad, v.a = some ad → H ≤ ad.block) ∧ ∀ x ∈ vl, NewV H x.1
set_option maxHeartbeats 4000000 in
theorem listVt (w : World) (S R : Nat) (s : Sr) (h : Sat w S R s) (n most : Nat) (hn : n ≤ 255) (hm : most ≤ 255) :
    Calls Tryz.prog 88 #[.pointer (some ⟨S, 0, none⟩), .int .i64 n, .int .i64 most, .func (.func 87) #[.pointer (some ⟨S, 0, none⟩)] #[]] w fun e w' => ∃ (v : Sl) (vl : List (Vt × Vc)), e = .returned (.slice v.a v.n v.c) ∧ VsAt w' v vl ∧ vl.map toVp = (pL pVt n most s).1 ∧ NewS w.heap.size v vl ∧ Sat w' S R (pL pVt n most s).2 ∧ Kept (SR S R) w w' := by
  have q1 := h.cell1
  have z1 := h.free1
  have H := Lib.hid h
  unfold pL
  by_cases hf : s.f = 0
  · rw [if_pos hf]
    rw [hf] at q1
    by_cases hk : n ≤ most
    · rw [if_pos hk]
      obtain ⟨i0, hinfo⟩ := info_parts info32v
      obtain ⟨hi, hz0, hz1, hz2⟩ := hinfo
      have hmk : (Instr.makeSlice 33 (.int .i64 (n : Int)) (.int .i64 (n : Int))).run Tryz.prog w = .ok (.slice (some ⟨w.heap.size, 0, none⟩) n n) (w.alloc (.cells (madeCells (.agg #[.int .u8 0, .int .u8 0, .int .u32 0, .int .u32 0, .slice none 0 0, .slice none 0 0, .slice none 0 0] : Value).cells (n * 7)) 32)) := by
        have := run_makeSlice (P := Tryz.prog) w 33 32 i0 _ Tryz.underlying33 hi hz0 .i64 .i64 n n (by omega) (by omega) (by rw [hz1]; simp; omega) (by rw [hz2]; omega) (by omega)
        rw [hz1] at this
        simpa using this
      obtain ⟨V, hV⟩ : ∃ V, V = w.alloc (.cells (madeCells (.agg #[.int .u8 0, .int .u8 0, .int .u32 0, .int .u32 0, .slice none 0 0, .slice none 0 0, .slice none 0 0] : Value).cells (n * 7)) 32) := ⟨_, rfl⟩
      rw [← hV] at hmk
      have hbl : Below w.heap.size w V := by rw [hV]; exact (Below.refl _ _).alloc (Nat.le_refl _) _
      have hbx : V.heap[w.heap.size]? = some (.cells (madeCells (.agg #[.int .u8 0, .int .u8 0, .int .u32 0, .int .u32 0, .slice none 0 0, .slice none 0 0, .slice none 0 0] : Value).cells (n * 7)) 32 (0, 0)) := by rw [hV]; exact heap_alloc_new _ _
      have HJ0 : Hid (RowW s V V S R w.heap.size n 0 []) := Lib.hid ⟨there_row hbx (made_size _ _), rfl, (fun j v hj => by simp at hj), (fun x hx => by cases hx), rfl, h.on hbl, Kept.refl _ _⟩
      have HBL := Lib.hid hbl
      have HLT := Lib.hid (lt_of_block hbx)
      have HGS := Lib.hid (show S < w.heap.size from h.lt.1)
      have HGR := Lib.hid (show R < w.heap.size from h.lt.2)
      obtain ⟨g, hg⟩ : ∃ g, g = w.heap.size := ⟨_, rfl⟩
      have HG := Lib.hid (show w.heap.size ≤ g by omega)
      rw [← hg] at hmk HJ0 HLT HGS HGR
      clear h hf hV hbl hbx hi hz0 hz1 hz2 hg
      go_enter Tryz.func88, Tryz.ntmps88
      go_wp2_with fail
      go_loopw [33] (fun vi wr => ∃ j : Nat, j ≤ n ∧ vi = .int .i64 j ∧ ∃ vl, Hid (RowW s V wr S R g n j vl)) (fun i _ => n - (intOf i).toNat)
      case atStart => exact ⟨0, Nat.zero_le _, rfl, [], HJ0⟩
      case round =>
        obtain ⟨j, hj, rfl, vl, HJ⟩ := hrel
        clear HJ0
        by_cases hlt : j < n
        · go_wp2_with fail
          refine Calls.mono (vote_any wr S R _ HJ.out.sat) ?_
          rintro e w1 ⟨x, rfl, hw, hva, hvn, h1, h2⟩
          obtain ⟨ht, hj1⟩ := HJ.out.next hw hva hvn h1 h2 HGS.out HGR.out (Nat.lt_of_lt_of_le HLT.out HJ.out.kept.size) hlt
          have HTH := Lib.hid ht
          have HJ1 := Lib.hid hj1
          clear h1 h2 ht hj1 HJ hw hva hvn
          generalize (pVt (pN pVt s j).2).1.c = xc at *
          go_wp2_with (first | (refine wpList_store_mid rfl 32 (.tmp 40) (.tmp 39) rfl g (j * 7) x.cells.toArray (by first | rfl | simp) rfl HTH.out size32' (all_oneCell_toArray (Vt.one x)) ?_; refine Hid.out ?_) | go_in)
          refine Lib.hid ?_
          generalize w1.setCells g (j * 7) x.cells = w9 at *
          clear HTH
          go_wp2_with fail
          go_round
          case rel => exact ⟨j + 1, by omega, by go_num, _, HJ1⟩
          case measure => simp [intOf]; omega
        · obtain rfl : j = n := by omega
          go_wp2_with fail
          go_ret
          refine ⟨⟨some ⟨g, 0, none⟩, j, j⟩, vl, rfl, ⟨row_of_range (enc := vcell) (k := 7) (fun x => rfl) HJ.out.len HJ.out.ra (show j ≤ 1000 by omega), fun x hx => (HJ.out.each x hx).1⟩, HJ.out.pure, ⟨(fun ad e => by injection e with e; subst e; exact HG.out), fun x hx => ?_⟩, HJ.out.sat, ?_⟩
          · obtain ⟨n1, n2, n3⟩ := (HJ.out.each x hx).2
            have hg := HG.out
            exact ⟨fun ad e => by have := n1 ad e; omega, fun ad e => by have := n2 ad e; omega, fun ad e => by have := n3 ad e; omega⟩
          · exact ((Kept.ofBelow (S := TG S R g) HBL.out).trans HJ.out.kept (fun _ _ h => h)).new2 HG.out
    · rw [if_neg hk]
      simp only
      clear h hf
      go_enter Tryz.func88, Tryz.ntmps88
      go_wp2_with fail
      go_ret
      exact ⟨⟨none, 0, 0⟩, [], rfl, ⟨Row.nil _ _ _, fun x hx => by cases hx⟩, rfl, ⟨(fun ad e => by cases e), fun x hx => by cases hx⟩, H.out.fault 30, Kept.sf ((Kept.refl _ _).setCell _ _ (fun _ => rfl))⟩
  · rw [if_neg hf]
    have hf2 : (s.f == 0) = false := by simp [hf]
    simp only
    clear h hf
    by_cases hk : n ≤ most
    · go_enter Tryz.func88, Tryz.ntmps88
      go_wp2_with fail
      go_ret
      exact ⟨⟨none, 0, 0⟩, [], rfl, ⟨Row.nil _ _ _, fun x hx => by cases hx⟩, rfl, ⟨(fun ad e => by cases e), fun x hx => by cases hx⟩, H.out, Kept.refl _ _⟩
    · go_enter Tryz.func88, Tryz.ntmps88
      go_wp2_with fail
      go_ret
      exact ⟨⟨none, 0, 0⟩, [], rfl, ⟨Row.nil _ _ _, fun x hx => by cases hx⟩, rfl, ⟨(fun ad e => by cases e), fun x hx => by cases hx⟩, H.out, Kept.refl _ _⟩
/-- bytes with their number ahead, 64 at most -/
def pDt (s : Sr) : List Int × Sr :=
  if s.f = 0 then
    (if 2 ≤ s.l.length then
      (if 64 < rd16 s.l then ([], ⟨s.l, 21⟩) else if 2 + (rd16 s.l).toNat ≤ s.l.length then ((s.l.drop 2).take (rd16 s.l).toNat, ⟨s.l.drop (2 + (rd16 s.l).toNat), 0⟩) else ([], ⟨s.l, 20⟩))
    else ([], ⟨s.l, 20⟩))
  else ([], s)
theorem Sat.drewN {w : World} {S R : Nat} {s : Sr} (h : Sat w S R s) (n : Nat) : Sat (w.drewN n) S R s := ⟨h.src, h.rd.drewN n, h.ord, h.len⟩
theorem dt_nil (w : World) : DtAt w ⟨none, 0, 0⟩ [] := ⟨rfl, fun i hi => by simp at hi, fun _ => rfl, Nat.le_refl _, by simp, fun x hx => by cases hx⟩

set_option maxHeartbeats 1600000 in
/-- the function within: it hands on what the reader tells -/
theorem in78 (w : World) (S R cb : Nat) (s : Sr) (h : Sat w S R s) (hc : w.cell? ⟨cb, 0, none⟩ = some (.pointer (some ⟨S, 0, none⟩))) {Q : Value → Int → World → Prop} (C : Calls Tryz.prog 92 #[.pointer (some ⟨R, 0, none⟩), .int .i64 64] w fun e w' => ∃ (v : Sl) (f : Int), e = .returned (.tuple #[.slice v.a v.n v.c, .int .i64 f]) ∧ Q v.val f w') :
    Calls Tryz.prog 91 #[.pointer (some ⟨cb, 0, none⟩)] w fun e w' => ∃ (v : Sl) (f : Int), e = .returned (.tuple #[.slice v.a v.n v.c, .int .i64 f]) ∧ Q v.val f w' := by
  have q0 := h.cell0
  have C := Lib.hid C
  clear h
  go_enter Tryz.func91, Tryz.ntmps91
  go_wp2_with fail
  refine Calls.mono C.out ?_
  rintro e w1 ⟨v, f, rfl, hq⟩
  have HQ := Lib.hid hq
  clear hq
  go_wp2_with fail
  exact bodyPost_ret (v := .tuple #[.slice v.a v.n v.c, .int .i64 f]) (by simp [results, Tryz.results91, go_sem]) rfl ⟨v, f, rfl, HQ.out⟩

/-- what the reader's call tells and leaves -/
def Dq (w : World) (S R : Nat) (s : Sr) (v : Value) (f : Int) (w' : World) : Prop :=
  ∃ u : Sl, v = u.val ∧ ((f ≠ 0 ∧ u = ⟨none, 0, 0⟩ ∧ (pDt s).1 = [] ∧ (pDt s).2 = ⟨s.l, f⟩ ∧ Sat w' S R s) ∨ (f = 0 ∧ DtAt w' u (pDt s).1 ∧ (∀ ad, u.a = some ad → w.heap.size ≤ ad.block) ∧ Sat w' S R (pDt s).2)) ∧ Kept (SR S R) w w'

theorem in79 (w : World) (S R : Nat) (s : Sr) (h : Sat w S R s) (hf : s.f = 0) :
    Calls Tryz.prog 92 #[.pointer (some ⟨R, 0, none⟩), .int .i64 64] w fun e w' => ∃ (v : Sl) (f : Int), e = .returned (.tuple #[.slice v.a v.n v.c, .int .i64 f]) ∧ Dq w S R s v.val f w' := by
  have hlen : s.l.length ≤ 1000000 := Nat.le_trans h.len (by decide)
  by_cases h2 : 2 ≤ s.l.length
  · have hr := rd16_range h.rd.toRd h2
    obtain ⟨k, hk⟩ := Int.eq_ofNat_of_zero_le hr.1
    by_cases hl : 64 < rd16 s.l
    · refine (rb_long w R s.l 64 h.rd.toRd h2 hlen k hk (by omega)).mono ?_
      rintro e w' ⟨rfl, n, rfl⟩
      exact ⟨⟨none, 0, 0⟩, 21, rfl, ⟨none, 0, 0⟩, rfl, .inl ⟨by decide, rfl, by simp [pDt, hf, h2, hl], by simp [pDt, hf, h2, hl], h.drewN n⟩, (Kept.refl _ w).drewN n⟩
    · have hkt : (rd16 s.l).toNat = k := by omega
      by_cases hc : 2 + k ≤ s.l.length
      · refine (rb_b w R s.l 64 h.rd h2 hlen k hk (by omega) hc).mono ?_
        rintro e w' ⟨ao, c, rfl, hnew, hrb, hkp⟩
        have e1 : (pDt s).1 = (s.l.drop 2).take k := by simp [pDt, hf, h2, hl, hkt, hc]
        have e2 : (pDt s).2 = ⟨s.l.drop (2 + k), 0⟩ := by simp [pDt, hf, h2, hl, hkt, hc]
        have hl2 : ((s.l.drop 2).take k).length = k := by rw [List.length_take, List.length_drop]; omega
        refine ⟨⟨ao, k, c⟩, 0, rfl, ⟨ao, k, c⟩, rfl, .inr ⟨rfl, ?_, ?_, ?_⟩, hkp.sr⟩
        · rw [e1]
          have hn1 := hnew.1
          refine ⟨hl2.symm, ?_, ?_, ?_, by omega, ?_⟩
          · exact own_bytes hn1
          · intro e; exact (hnew.none e).2
          · show ((s.l.drop 2).take k).length ≤ c
            rcases hn1.2 with ⟨hv, h0⟩ | ⟨g, c3, cur, hv, _, _, h1, _⟩
            · injection hv with _ _ hv; omega
            · injection hv with _ _ hv; omega
          · intro x hx
            obtain ⟨i, hi, rfl⟩ := List.getElem_of_mem (List.mem_of_mem_drop (List.mem_of_mem_take hx))
            have := h.rd.byte i hi
            rwa [List.getD_eq_getElem?_getD, List.getElem?_eq_getElem hi] at this
        · intro ad e
          exact hnew.2 ad e
        · rw [e2]
          have := h.read hrb hkp (by simp)
          rw [hf] at this
          exact this
      · refine (rb_cut w R s.l 64 h.rd.toRd h2 hlen k hk (by omega) (by omega)).mono ?_
        rintro e w' ⟨rfl, n, rfl⟩
        exact ⟨⟨none, 0, 0⟩, 20, rfl, ⟨none, 0, 0⟩, rfl, .inl ⟨by decide, rfl, by simp [pDt, hf, h2, hl, hkt, hc], by simp [pDt, hf, h2, hl, hkt, hc], h.drewN n⟩, (Kept.refl _ w).drewN n⟩
  · refine (rb_short w R s.l 64 h.rd.toRd (by omega)).mono ?_
    rintro e w' ⟨rfl, rfl⟩
    exact ⟨⟨none, 0, 0⟩, 20, rfl, ⟨none, 0, 0⟩, rfl, .inl ⟨by decide, rfl, by simp [pDt, hf, h2], by simp [pDt, hf, h2], h⟩, Kept.refl _ _⟩

set_option maxHeartbeats 1600000 in
theorem data_any (w : World) (S R cb : Nat) (s : Sr) (h : Sat w S R s) (hc : w.cell? ⟨cb, 0, none⟩ = some (.pointer (some ⟨S, 0, none⟩))) :
    Calls Tryz.prog 90 #[.pointer (some ⟨S, 0, none⟩), .func (.func 91) #[] #[.pointer (some ⟨cb, 0, none⟩)]] w fun e w' => ∃ v : Sl, e = .returned (.slice v.a v.n v.c) ∧ DtAt w' v (pDt s).1 ∧ (∀ ad, v.a = some ad → w.heap.size ≤ ad.block) ∧ Sat w' S R (pDt s).2 ∧ Kept (SR S R) w w' := by
  have q1 := h.cell1
  have H := Lib.hid h
  by_cases hf : s.f = 0
  · rw [hf] at q1
    have C := Lib.hid (in78 w S R cb s h hc (in79 w S R s h hf))
    clear h hf hc
    go_enter Tryz.func90, Tryz.ntmps90
    go_wp2_with fail
    refine Calls.mono C.out ?_
    rintro e w1 ⟨v, f, rfl, u, huv, hcase, hk⟩
    have huv2 : v = u := by
      obtain ⟨a1, n1, c1⟩ := v
      obtain ⟨a2, n2, c2⟩ := u
      injection huv with e1 e2 e3
      subst e1 e2 e3
      rfl
    subst huv2
    have HK := Lib.hid hk
    rcases hcase with ⟨hf, rfl, e1, e2, hs⟩ | ⟨rfl, hd, hnw, hs⟩
    · have hf2 : (f == 0) = false := by simp [hf]
      have p1 := hs.cell1
      have z1 := hs.free1
      have HS := Lib.hid hs
      have E1 := Lib.hid e1
      have E2 := Lib.hid e2
      clear hs e1 e2 hk hf huv
      go_wp2_with fail
      go_ret
      refine ⟨⟨none, 0, 0⟩, rfl, by rw [E1.out]; exact dt_nil _, (fun ad e => by cases e), by rw [E2.out]; exact HS.out.fault f, ?_⟩
      exact HK.out.trans (Kept.sf ((Kept.refl _ _).setCell _ _ (fun _ => rfl))) (fun _ _ h => h)
    · have HS := Lib.hid hs
      have HD := Lib.hid hd
      have HN := Lib.hid hnw
      clear hs hd hnw hk huv
      go_wp2_with fail
      go_ret
      exact ⟨v, rfl, HD.out, HN.out, HS.out, HK.out⟩
  · have hf2 : (s.f == 0) = false := by simp [hf]
    have e1 : pDt s = ([], s) := by simp [pDt, hf]
    rw [e1]
    clear h hf hc
    go_enter Tryz.func90, Tryz.ntmps90
    go_wp2_with fail
    go_ret
    exact ⟨⟨none, 0, 0⟩, rfl, dt_nil _, (fun ad e => by cases e), H.out, Kept.refl _ _⟩
/-- a message as it is read: its words, what its lists hold -/
structure Mq where
  w : Wd
  vt : Vp
  vs : List Vp
  sm : List Int
  dt : List Int
/-- a part is read -/
def pPart (p : Int) (x : Mq) (s : Sr) : Mq × Sr :=
  if p = 0 then ({ x with w := { x.w with vw := (p32 s).1 } }, (p32 s).2)
  else if p = 1 then ({ x with w := { x.w with sq := (p32 s).1 } }, (p32 s).2)
  else if p = 2 then ({ x with w := { x.w with rq := (pRq s).1 } }, (pRq s).2)
  else if p = 3 then ({ x with w := { x.w with ro := (p64 s).1 } }, (p64 s).2)
  else if p = 4 then ({ x with w := { x.w with ct := (p8 s).1 } }, (p8 s).2)
  else if p = 5 then ({ x with w := { x.w with pg := (p8 s).1 } }, (p8 s).2)
  else if p = 6 then ({ x with w := { x.w with rs := (p32 s).1 } }, (p32 s).2)
  else if p = 7 then ({ x with vt := (pVt s).1 }, (pVt s).2)
  else if p = 8 then ({ x with vs := (pL pVt (p8 s).1.toNat 4 (p8 s).2).1 }, (pL pVt (p8 s).1.toNat 4 (p8 s).2).2)
  else if p = 9 then ({ x with sm := (pL p64 8 8 s).1 }, (pL p64 8 8 s).2)
  else ({ x with dt := (pDt s).1 }, (pDt s).2)

def NewM (H : Nat) (m : Mg) (c : Mc) : Prop := NewV H m.vt ∧ NewS H m.vs c.vs ∧ (∀ ad, m.sm.a = some ad → H ≤ ad.block) ∧ ∀ ad, m.dt.a = some ad → H ≤ ad.block
theorem dt_new {T : Nat → Prop} {w w' : World} {H : Nat} {v : Sl} {l : List Int} (h : DtAt w v l) (hk : Kept T w w') (hv : ∀ ad, v.a = some ad → H ≤ ad.block) (hT : ∀ b, T b → b < H) : DtAt w' v l := by
  obtain ⟨h1, h2, h3, h4, h5, h6⟩ := h
  exact ⟨h1, bytes_kept h2 hk (fun ad e _ hb => by have := hv ad e; have := hT _ hb; omega), h3, h4, h5, h6⟩
theorem vs_new {T : Nat → Prop} {w w' : World} {H : Nat} {v : Sl} {l : List (Vt × Vc)} (h : VsAt w v l) (hk : Kept T w w') (hv : NewS H v l) (hT : ∀ b, T b → b < H) : VsAt w' v l :=
  ⟨row_new h.1 hk hv.1 hT, fun x hx => (h.2 x hx).new hk (hv.2 x hx) hT⟩
theorem MgAt.new {T : Nat → Prop} {w w' : World} {H : Nat} {m : Mg} {c : Mc} (h : MgAt w m c) (hk : Kept T w w') (hv : NewM H m c) (hT : ∀ b, T b → b < H) : MgAt w' m c :=
  ⟨h.vt.new hk hv.1 hT, vs_new h.vs hk hv.2.1 hT, row_new h.sm hk hv.2.2.1 hT, dt_new h.dt hk hv.2.2.2 hT⟩

/-- a message that is being read lies at M -/
structure MqAt (w : World) (M : Nat) (m : Mg) (c : Mc) (x : Mq) : Prop where
  box : w.heap[M]? = some (.cells m.cells.toArray 37 (0, 0))
  dat : MgAt w m c
  new : NewM (M + 1) m c
  wd : m.toWd = x.w
  vt : toVp (m.vt, c.vt) = x.vt
  vs : c.vs.map toVp = x.vs
  sm : c.sm = x.sm
  dt : c.dt = x.dt
def SRM (S R M : Nat) : Nat → Prop := fun k => SR S R k ∨ k = M
theorem MqAt.call {w w1 : World} {S R M : Nat} {m : Mg} {c : Mc} {x : Mq} (h : MqAt w M m c x) (hk : Kept (SR S R) w w1) (hS : S < M) (hR : R < M) : MqAt w1 M m c x := by
  have hT : ∀ b, SR S R b → b < M + 1 := fun b e => by rcases e with e | e; omega; omega
  exact ⟨by rw [hk.block M (lt_of_block h.box) (fun e => by rcases e with e | e; omega; omega)]; exact h.box, h.dat.new hk h.new hT, h.new, h.wd, h.vt, h.vs, h.sm, h.dt⟩
theorem MqAt.below {w w1 : World} {M : Nat} {m : Mg} {c : Mc} {x : Mq} (h : MqAt w M m c x) (hb : Below w.heap.size w w1) : MqAt w1 M m c x :=
  ⟨(hb.block _ (lt_of_block h.box)).trans h.box, h.dat.below hb, h.new, h.wd, h.vt, h.vs, h.sm, h.dt⟩
/-- some cells of it are written -/
theorem MqAt.put {w : World} {M o : Nat} {m m' : Mg} {c c' : Mc} {x x' : Mq} {vs : List Value} (h : MqAt w M m c x) (hd : MgAt w m' c') (hn : NewM (M + 1) m' c') (ho : over m.cells.toArray o vs = m'.cells.toArray) (h1 : m'.toWd = x'.w) (h2 : toVp (m'.vt, c'.vt) = x'.vt) (h3 : c'.vs.map toVp = x'.vs) (h4 : c'.sm = x'.sm) (h5 : c'.dt = x'.dt) :
    MqAt (w.setCells M o vs) M m' c' x' :=
  ⟨by rw [setCells_block _ 37 _ _ _ _ h.box, ho], hd.new (T := fun k => k = M) kept_setCells hn (fun b e => by omega), hn, h1, h2, h3, h4, h5⟩
theorem Sat.put {w : World} {S R M o : Nat} {s : Sr} {vs : List Value} (h : Sat w S R s) (hS : S < M) (hR : R < M) : Sat (w.setCells M o vs) S R s := h.kept (T := fun k => k = M) kept_setCells (by omega) (fun k hk e => by omega)
theorem one_put (w : World) (M o : Nat) (v : Value) : w.setCell ⟨M, o, none⟩ v = w.setCells M o [v] := rfl
theorem MqAt.cell {w : World} {M : Nat} {m : Mg} {c : Mc} {x : Mq} (h : MqAt w M m c x) (i : Nat) : w.cell? ⟨M, i, none⟩ = m.cells[i]? := cell_box h.box i
theorem MqAt.free {w : World} {M : Nat} {m : Mg} {c : Mc} {x : Mq} (h : MqAt w M m c x) (i : Nat) : w.frozen? ⟨M, i, none⟩ = false := frozen_of_row _ _ _ _ _ h.box
theorem Kept.put {S R M o : Nat} {w W w1 : World} {vs : List Value} (hb : Below w.heap.size w W) (hk : Kept (SR S R) W w1) : Kept (SRM S R M) w (w1.setCells M o vs) :=
  ((Kept.ofBelow (S := SRM S R M) hb).trans hk (fun _ _ e => .inl e)).trans kept_setCells (fun _ _ e => .inr e)

set_option maxHeartbeats 4000000 in
theorem read0 (w : World) (S R M : Nat) (s : Sr) (m : Mg) (c : Mc) (x : Mq) (h : Sat w S R s) (hm : MqAt w M m c x) (hS : S < M) (hR : R < M) :
    Calls Tryz.prog 60 #[.pointer (some ⟨S, 0, none⟩), .pointer (some ⟨M, 0, none⟩), .int .u8 0] w fun e w' => e = .returned (.tuple #[]) ∧ ∃ m' c', MqAt w' M m' c' (pPart 0 x s).1 ∧ Sat w' S R (pPart 0 x s).2 ∧ Kept (SRM S R M) w w' := by
  obtain ⟨W, hW⟩ : ∃ W, W = w.alloc (.cells #[.pointer (some ⟨S, 0, none⟩)] 90) := ⟨_, rfl⟩
  have hbl := bl1 hW
  have q : W.cell? ⟨w.heap.size, 0, none⟩ = some (.pointer (some ⟨S, 0, none⟩)) := by rw [hW, cell_of_row _ _ _ _ _ _ (heap_alloc_new _ _)]; rfl
  have HS := Lib.hid (h.on hbl)
  have HM := Lib.hid (hm.below hbl)
  have HBL := Lib.hid hbl
  have HLS := Lib.hid hS
  have HLR := Lib.hid hR
  have HLM := Lib.hid (lt_of_block hm.box)
  have HW := Lib.hid hW
  have hmf : ∀ (fn : Fn) (first cap : Array Value) (w : World), (Instr.makeFunc fn first cap).run Tryz.prog w = .ok (.func fn first cap) w := fun _ _ _ _ => rfl
  have HP : Hid (pPart 0 x s = ({ x with w := { x.w with vw := (p32 s).1 } }, (p32 s).2)) := Lib.hid rfl
  have C := s32 W S R s HS.out
  have CH := Lib.hid C
  clear h hm hbl hW hS hR C
  go_enter Tryz.func60, Tryz.ntmps60
  go_upto_region 1 with fail
  rw [← HW.out]
  clear HW
  go_wp2_with fail
  refine Calls.mono CH.out ?_
  rintro e w1 ⟨rfl, h, k⟩
  have hm1 := HM.out.call k HLS.out HLR.out
  have hc := hm1.cell 4
  have hz := hm1.free 4
  simp only [Mg.cells] at hc
  have HM1 := Lib.hid hm1
  have HS1 := Lib.hid h
  have HK := Lib.hid k
  clear h k hm1 HM HS CH
  go_wp2_with fail
  go_end0
  refine ⟨rfl, ?_⟩
  rw [HP.out, one_put]
  refine ⟨{ m with vw := (p32 s).1 }, c, HM1.out.put ⟨HM1.out.dat.vt, HM1.out.dat.vs, HM1.out.dat.sm, HM1.out.dat.dt⟩ HM1.out.new (by simp [over, Mg.cells]) (by rw [← HM1.out.wd]) HM1.out.vt HM1.out.vs HM1.out.sm HM1.out.dt, HS1.out.put HLS.out HLR.out, Kept.put HBL.out HK.out⟩

set_option maxHeartbeats 4000000 in
theorem read1 (w : World) (S R M : Nat) (s : Sr) (m : Mg) (c : Mc) (x : Mq) (h : Sat w S R s) (hm : MqAt w M m c x) (hS : S < M) (hR : R < M) :
    Calls Tryz.prog 60 #[.pointer (some ⟨S, 0, none⟩), .pointer (some ⟨M, 0, none⟩), .int .u8 1] w fun e w' => e = .returned (.tuple #[]) ∧ ∃ m' c', MqAt w' M m' c' (pPart 1 x s).1 ∧ Sat w' S R (pPart 1 x s).2 ∧ Kept (SRM S R M) w w' := by
  obtain ⟨W, hW⟩ : ∃ W, W = w.alloc (.cells #[.pointer (some ⟨S, 0, none⟩)] 90) := ⟨_, rfl⟩
  have hbl := bl1 hW
  have q : W.cell? ⟨w.heap.size, 0, none⟩ = some (.pointer (some ⟨S, 0, none⟩)) := by rw [hW, cell_of_row _ _ _ _ _ _ (heap_alloc_new _ _)]; rfl
  have HS := Lib.hid (h.on hbl)
  have HM := Lib.hid (hm.below hbl)
  have HBL := Lib.hid hbl
  have HLS := Lib.hid hS
  have HLR := Lib.hid hR
  have HLM := Lib.hid (lt_of_block hm.box)
  have HW := Lib.hid hW
  have hmf : ∀ (fn : Fn) (first cap : Array Value) (w : World), (Instr.makeFunc fn first cap).run Tryz.prog w = .ok (.func fn first cap) w := fun _ _ _ _ => rfl
  have HP : Hid (pPart 1 x s = ({ x with w := { x.w with sq := (p32 s).1 } }, (p32 s).2)) := Lib.hid rfl
  have C := s32 W S R s HS.out
  have CH := Lib.hid C
  clear h hm hbl hW hS hR C
  go_enter Tryz.func60, Tryz.ntmps60
  go_upto_region 1 with fail
  rw [← HW.out]
  clear HW
  go_wp2_with fail
  refine Calls.mono CH.out ?_
  rintro e w1 ⟨rfl, h, k⟩
  have hm1 := HM.out.call k HLS.out HLR.out
  have hc := hm1.cell 5
  have hz := hm1.free 5
  simp only [Mg.cells] at hc
  have HM1 := Lib.hid hm1
  have HS1 := Lib.hid h
  have HK := Lib.hid k
  clear h k hm1 HM HS CH
  go_wp2_with fail
  go_end0
  refine ⟨rfl, ?_⟩
  rw [HP.out, one_put]
  refine ⟨{ m with sq := (p32 s).1 }, c, HM1.out.put ⟨HM1.out.dat.vt, HM1.out.dat.vs, HM1.out.dat.sm, HM1.out.dat.dt⟩ HM1.out.new (by simp [over, Mg.cells]) (by rw [← HM1.out.wd]) HM1.out.vt HM1.out.vs HM1.out.sm HM1.out.dt, HS1.out.put HLS.out HLR.out, Kept.put HBL.out HK.out⟩

set_option maxHeartbeats 4000000 in
theorem read3 (w : World) (S R M : Nat) (s : Sr) (m : Mg) (c : Mc) (x : Mq) (h : Sat w S R s) (hm : MqAt w M m c x) (hS : S < M) (hR : R < M) :
    Calls Tryz.prog 60 #[.pointer (some ⟨S, 0, none⟩), .pointer (some ⟨M, 0, none⟩), .int .u8 3] w fun e w' => e = .returned (.tuple #[]) ∧ ∃ m' c', MqAt w' M m' c' (pPart 3 x s).1 ∧ Sat w' S R (pPart 3 x s).2 ∧ Kept (SRM S R M) w w' := by
  obtain ⟨W, hW⟩ : ∃ W, W = w.alloc (.cells #[.pointer (some ⟨S, 0, none⟩)] 90) := ⟨_, rfl⟩
  have hbl := bl1 hW
  have q : W.cell? ⟨w.heap.size, 0, none⟩ = some (.pointer (some ⟨S, 0, none⟩)) := by rw [hW, cell_of_row _ _ _ _ _ _ (heap_alloc_new _ _)]; rfl
  have HS := Lib.hid (h.on hbl)
  have HM := Lib.hid (hm.below hbl)
  have HBL := Lib.hid hbl
  have HLS := Lib.hid hS
  have HLR := Lib.hid hR
  have HLM := Lib.hid (lt_of_block hm.box)
  have HW := Lib.hid hW
  have hmf : ∀ (fn : Fn) (first cap : Array Value) (w : World), (Instr.makeFunc fn first cap).run Tryz.prog w = .ok (.func fn first cap) w := fun _ _ _ _ => rfl
  have HP : Hid (pPart 3 x s = ({ x with w := { x.w with ro := (p64 s).1 } }, (p64 s).2)) := Lib.hid rfl
  have C := s64 W S R s HS.out
  have CH := Lib.hid C
  clear h hm hbl hW hS hR C
  go_enter Tryz.func60, Tryz.ntmps60
  go_upto_region 1 with fail
  rw [← HW.out]
  clear HW
  go_wp2_with fail
  refine Calls.mono CH.out ?_
  rintro e w1 ⟨rfl, h, k⟩
  have hm1 := HM.out.call k HLS.out HLR.out
  have hc := hm1.cell 11
  have hz := hm1.free 11
  simp only [Mg.cells] at hc
  have HM1 := Lib.hid hm1
  have HS1 := Lib.hid h
  have HK := Lib.hid k
  clear h k hm1 HM HS CH
  go_wp2_with fail
  go_end0
  refine ⟨rfl, ?_⟩
  rw [HP.out, one_put]
  refine ⟨{ m with ro := (p64 s).1 }, c, HM1.out.put ⟨HM1.out.dat.vt, HM1.out.dat.vs, HM1.out.dat.sm, HM1.out.dat.dt⟩ HM1.out.new (by simp [over, Mg.cells]) (by rw [← HM1.out.wd]) HM1.out.vt HM1.out.vs HM1.out.sm HM1.out.dt, HS1.out.put HLS.out HLR.out, Kept.put HBL.out HK.out⟩

set_option maxHeartbeats 4000000 in
theorem read4p (w : World) (S R M : Nat) (s : Sr) (m : Mg) (c : Mc) (x : Mq) (h : Sat w S R s) (hm : MqAt w M m c x) (hS : S < M) (hR : R < M) :
    Calls Tryz.prog 60 #[.pointer (some ⟨S, 0, none⟩), .pointer (some ⟨M, 0, none⟩), .int .u8 4] w fun e w' => e = .returned (.tuple #[]) ∧ ∃ m' c', MqAt w' M m' c' (pPart 4 x s).1 ∧ Sat w' S R (pPart 4 x s).2 ∧ Kept (SRM S R M) w w' := by
  obtain ⟨W, hW⟩ : ∃ W, W = w.alloc (.cells #[.pointer (some ⟨S, 0, none⟩)] 90) := ⟨_, rfl⟩
  have hbl := bl1 hW
  have q : W.cell? ⟨w.heap.size, 0, none⟩ = some (.pointer (some ⟨S, 0, none⟩)) := by rw [hW, cell_of_row _ _ _ _ _ _ (heap_alloc_new _ _)]; rfl
  have HS := Lib.hid (h.on hbl)
  have HM := Lib.hid (hm.below hbl)
  have HBL := Lib.hid hbl
  have HLS := Lib.hid hS
  have HLR := Lib.hid hR
  have HLM := Lib.hid (lt_of_block hm.box)
  have HW := Lib.hid hW
  have hmf : ∀ (fn : Fn) (first cap : Array Value) (w : World), (Instr.makeFunc fn first cap).run Tryz.prog w = .ok (.func fn first cap) w := fun _ _ _ _ => rfl
  have HP : Hid (pPart 4 x s = ({ x with w := { x.w with ct := (p8 s).1 } }, (p8 s).2)) := Lib.hid rfl
  have C := s8 W S R s HS.out
  have CH := Lib.hid C
  clear h hm hbl hW hS hR C
  go_enter Tryz.func60, Tryz.ntmps60
  go_upto_region 1 with fail
  rw [← HW.out]
  clear HW
  go_wp2_with fail
  refine Calls.mono CH.out ?_
  rintro e w1 ⟨rfl, h, k⟩
  have hm1 := HM.out.call k HLS.out HLR.out
  have hc := hm1.cell 12
  have hz := hm1.free 12
  simp only [Mg.cells] at hc
  have HM1 := Lib.hid hm1
  have HS1 := Lib.hid h
  have HK := Lib.hid k
  clear h k hm1 HM HS CH
  go_wp2_with fail
  go_end0
  refine ⟨rfl, ?_⟩
  rw [HP.out, one_put]
  refine ⟨{ m with ct := (p8 s).1 }, c, HM1.out.put ⟨HM1.out.dat.vt, HM1.out.dat.vs, HM1.out.dat.sm, HM1.out.dat.dt⟩ HM1.out.new (by simp [over, Mg.cells]) (by rw [← HM1.out.wd]) HM1.out.vt HM1.out.vs HM1.out.sm HM1.out.dt, HS1.out.put HLS.out HLR.out, Kept.put HBL.out HK.out⟩

set_option maxHeartbeats 4000000 in
theorem read5 (w : World) (S R M : Nat) (s : Sr) (m : Mg) (c : Mc) (x : Mq) (h : Sat w S R s) (hm : MqAt w M m c x) (hS : S < M) (hR : R < M) :
    Calls Tryz.prog 60 #[.pointer (some ⟨S, 0, none⟩), .pointer (some ⟨M, 0, none⟩), .int .u8 5] w fun e w' => e = .returned (.tuple #[]) ∧ ∃ m' c', MqAt w' M m' c' (pPart 5 x s).1 ∧ Sat w' S R (pPart 5 x s).2 ∧ Kept (SRM S R M) w w' := by
  obtain ⟨W, hW⟩ : ∃ W, W = w.alloc (.cells #[.pointer (some ⟨S, 0, none⟩)] 90) := ⟨_, rfl⟩
  have hbl := bl1 hW
  have q : W.cell? ⟨w.heap.size, 0, none⟩ = some (.pointer (some ⟨S, 0, none⟩)) := by rw [hW, cell_of_row _ _ _ _ _ _ (heap_alloc_new _ _)]; rfl
  have HS := Lib.hid (h.on hbl)
  have HM := Lib.hid (hm.below hbl)
  have HBL := Lib.hid hbl
  have HLS := Lib.hid hS
  have HLR := Lib.hid hR
  have HLM := Lib.hid (lt_of_block hm.box)
  have HW := Lib.hid hW
  have hmf : ∀ (fn : Fn) (first cap : Array Value) (w : World), (Instr.makeFunc fn first cap).run Tryz.prog w = .ok (.func fn first cap) w := fun _ _ _ _ => rfl
  have HP : Hid (pPart 5 x s = ({ x with w := { x.w with pg := (p8 s).1 } }, (p8 s).2)) := Lib.hid rfl
  have C := s8 W S R s HS.out
  have CH := Lib.hid C
  clear h hm hbl hW hS hR C
  go_enter Tryz.func60, Tryz.ntmps60
  go_upto_region 1 with fail
  rw [← HW.out]
  clear HW
  go_wp2_with fail
  refine Calls.mono CH.out ?_
  rintro e w1 ⟨rfl, h, k⟩
  have hm1 := HM.out.call k HLS.out HLR.out
  have hc := hm1.cell 13
  have hz := hm1.free 13
  simp only [Mg.cells] at hc
  have HM1 := Lib.hid hm1
  have HS1 := Lib.hid h
  have HK := Lib.hid k
  clear h k hm1 HM HS CH
  go_wp2_with fail
  go_end0
  refine ⟨rfl, ?_⟩
  rw [HP.out, one_put]
  refine ⟨{ m with pg := (p8 s).1 }, c, HM1.out.put ⟨HM1.out.dat.vt, HM1.out.dat.vs, HM1.out.dat.sm, HM1.out.dat.dt⟩ HM1.out.new (by simp [over, Mg.cells]) (by rw [← HM1.out.wd]) HM1.out.vt HM1.out.vs HM1.out.sm HM1.out.dt, HS1.out.put HLS.out HLR.out, Kept.put HBL.out HK.out⟩

set_option maxHeartbeats 4000000 in
theorem read6 (w : World) (S R M : Nat) (s : Sr) (m : Mg) (c : Mc) (x : Mq) (h : Sat w S R s) (hm : MqAt w M m c x) (hS : S < M) (hR : R < M) :
    Calls Tryz.prog 60 #[.pointer (some ⟨S, 0, none⟩), .pointer (some ⟨M, 0, none⟩), .int .u8 6] w fun e w' => e = .returned (.tuple #[]) ∧ ∃ m' c', MqAt w' M m' c' (pPart 6 x s).1 ∧ Sat w' S R (pPart 6 x s).2 ∧ Kept (SRM S R M) w w' := by
  obtain ⟨W, hW⟩ : ∃ W, W = w.alloc (.cells #[.pointer (some ⟨S, 0, none⟩)] 90) := ⟨_, rfl⟩
  have hbl := bl1 hW
  have q : W.cell? ⟨w.heap.size, 0, none⟩ = some (.pointer (some ⟨S, 0, none⟩)) := by rw [hW, cell_of_row _ _ _ _ _ _ (heap_alloc_new _ _)]; rfl
  have HS := Lib.hid (h.on hbl)
  have HM := Lib.hid (hm.below hbl)
  have HBL := Lib.hid hbl
  have HLS := Lib.hid hS
  have HLR := Lib.hid hR
  have HLM := Lib.hid (lt_of_block hm.box)
  have HW := Lib.hid hW
  have hmf : ∀ (fn : Fn) (first cap : Array Value) (w : World), (Instr.makeFunc fn first cap).run Tryz.prog w = .ok (.func fn first cap) w := fun _ _ _ _ => rfl
  have HP : Hid (pPart 6 x s = ({ x with w := { x.w with rs := (p32 s).1 } }, (p32 s).2)) := Lib.hid rfl
  have C := s32 W S R s HS.out
  have CH := Lib.hid C
  clear h hm hbl hW hS hR C
  go_enter Tryz.func60, Tryz.ntmps60
  go_upto_region 1 with fail
  rw [← HW.out]
  clear HW
  go_wp2_with fail
  refine Calls.mono CH.out ?_
  rintro e w1 ⟨rfl, h, k⟩
  have hm1 := HM.out.call k HLS.out HLR.out
  have hc := hm1.cell 14
  have hz := hm1.free 14
  simp only [Mg.cells] at hc
  have HM1 := Lib.hid hm1
  have HS1 := Lib.hid h
  have HK := Lib.hid k
  clear h k hm1 HM HS CH
  go_wp2_with fail
  go_end0
  refine ⟨rfl, ?_⟩
  rw [HP.out, one_put]
  refine ⟨{ m with rs := (p32 s).1 }, c, HM1.out.put ⟨HM1.out.dat.vt, HM1.out.dat.vs, HM1.out.dat.sm, HM1.out.dat.dt⟩ HM1.out.new (by simp [over, Mg.cells]) (by rw [← HM1.out.wd]) HM1.out.vt HM1.out.vs HM1.out.sm HM1.out.dt, HS1.out.put HLS.out HLR.out, Kept.put HBL.out HK.out⟩

set_option maxHeartbeats 4000000 in
theorem read9 (w : World) (S R M : Nat) (s : Sr) (m : Mg) (c : Mc) (x : Mq) (h : Sat w S R s) (hm : MqAt w M m c x) (hS : S < M) (hR : R < M) :
    Calls Tryz.prog 60 #[.pointer (some ⟨S, 0, none⟩), .pointer (some ⟨M, 0, none⟩), .int .u8 9] w fun e w' => e = .returned (.tuple #[]) ∧ ∃ m' c', MqAt w' M m' c' (pPart 9 x s).1 ∧ Sat w' S R (pPart 9 x s).2 ∧ Kept (SRM S R M) w w' := by
  obtain ⟨W, hW⟩ : ∃ W, W = w.alloc (.cells #[.pointer (some ⟨S, 0, none⟩)] 90) := ⟨_, rfl⟩
  have hbl := bl1 hW
  have q : W.cell? ⟨w.heap.size, 0, none⟩ = some (.pointer (some ⟨S, 0, none⟩)) := by rw [hW, cell_of_row _ _ _ _ _ _ (heap_alloc_new _ _)]; rfl
  have HS := Lib.hid (h.on hbl)
  have HM := Lib.hid (hm.below hbl)
  have HBL := Lib.hid hbl
  have HLS := Lib.hid hS
  have HLR := Lib.hid hR
  have HLM := Lib.hid (lt_of_block hm.box)
  have HW := Lib.hid hW
  have hmf : ∀ (fn : Fn) (first cap : Array Value) (w : World), (Instr.makeFunc fn first cap).run Tryz.prog w = .ok (.func fn first cap) w := fun _ _ _ _ => rfl
  have HP : Hid (pPart 9 x s = ({ x with sm := (pL p64 8 8 s).1 }, (pL p64 8 8 s).2)) := Lib.hid rfl
  have C := listU64 W S R s HS.out 8 8 (by omega) (by omega)
  rw [show ((8 : Nat) : Int) = 8 from rfl] at C
  have CH := Lib.hid C
  clear h hm hbl hW hS hR C
  go_enter Tryz.func60, Tryz.ntmps60
  go_upto_region 1 with fail
  rw [← HW.out]
  clear HW
  go_wp2_with fail
  refine Calls.mono CH.out ?_
  rintro e w1 ⟨v, rfl, hrow, hnew, h, k⟩
  have hm1 := HM.out.call k HLS.out HLR.out
  have hc := hm1.cell 23
  have hz := hm1.free 23
  simp only [Mg.cells] at hc
  have HM1 := Lib.hid hm1
  have HS1 := Lib.hid h
  have HK := Lib.hid k
  have HRW := Lib.hid hrow
  have HNW := Lib.hid (show ∀ ad, v.a = some ad → M + 1 ≤ ad.block from fun ad e => by have := hnew ad e; have := HLM.out; have := HBL.out.size; omega)
  obtain ⟨va, vn, vc⟩ := v
  simp only at HRW HNW ⊢
  clear h k hm1 hrow hnew HM HS CH
  go_wp2_with fail
  go_end0
  refine ⟨rfl, ?_⟩
  rw [HP.out, one_put]
  refine ⟨{ m with sm := ⟨va, vn, vc⟩ }, { c with sm := (pL p64 8 8 s).1 }, HM1.out.put ⟨HM1.out.dat.vt, HM1.out.dat.vs, HRW.out, HM1.out.dat.dt⟩ ⟨HM1.out.new.1, HM1.out.new.2.1, HNW.out, HM1.out.new.2.2.2⟩ (by simp [over, Mg.cells]) HM1.out.wd HM1.out.vt HM1.out.vs rfl HM1.out.dt, HS1.out.put HLS.out HLR.out, Kept.put HBL.out HK.out⟩

set_option maxHeartbeats 4000000 in
theorem read10 (w : World) (S R M : Nat) (s : Sr) (m : Mg) (c : Mc) (x : Mq) (h : Sat w S R s) (hm : MqAt w M m c x) (hS : S < M) (hR : R < M) :
    Calls Tryz.prog 60 #[.pointer (some ⟨S, 0, none⟩), .pointer (some ⟨M, 0, none⟩), .int .u8 10] w fun e w' => e = .returned (.tuple #[]) ∧ ∃ m' c', MqAt w' M m' c' (pPart 10 x s).1 ∧ Sat w' S R (pPart 10 x s).2 ∧ Kept (SRM S R M) w w' := by
  obtain ⟨W, hW⟩ : ∃ W, W = w.alloc (.cells #[.pointer (some ⟨S, 0, none⟩)] 90) := ⟨_, rfl⟩
  have hbl := bl1 hW
  have q : W.cell? ⟨w.heap.size, 0, none⟩ = some (.pointer (some ⟨S, 0, none⟩)) := by rw [hW, cell_of_row _ _ _ _ _ _ (heap_alloc_new _ _)]; rfl
  have HS := Lib.hid (h.on hbl)
  have HM := Lib.hid (hm.below hbl)
  have HBL := Lib.hid hbl
  have HLS := Lib.hid hS
  have HLR := Lib.hid hR
  have HLM := Lib.hid (lt_of_block hm.box)
  have HW := Lib.hid hW
  have hmf : ∀ (fn : Fn) (first cap : Array Value) (w : World), (Instr.makeFunc fn first cap).run Tryz.prog w = .ok (.func fn first cap) w := fun _ _ _ _ => rfl
  have HP : Hid (pPart 10 x s = ({ x with dt := (pDt s).1 }, (pDt s).2)) := Lib.hid rfl
  have C := data_any W S R w.heap.size s HS.out q
  have CH := Lib.hid C
  clear h hm hbl hW hS hR C
  go_enter Tryz.func60, Tryz.ntmps60
  go_upto_region 1 with fail
  rw [← HW.out]
  clear HW
  go_wp2_with fail
  refine Calls.mono CH.out ?_
  rintro e w1 ⟨v, rfl, hrow, hnew, h, k⟩
  have hm1 := HM.out.call k HLS.out HLR.out
  have hc := hm1.cell 24
  have hz := hm1.free 24
  simp only [Mg.cells] at hc
  have HM1 := Lib.hid hm1
  have HS1 := Lib.hid h
  have HK := Lib.hid k
  have HRW := Lib.hid hrow
  have HNW := Lib.hid (show ∀ ad, v.a = some ad → M + 1 ≤ ad.block from fun ad e => by have := hnew ad e; have := HLM.out; have := HBL.out.size; omega)
  obtain ⟨va, vn, vc⟩ := v
  simp only at HRW HNW ⊢
  clear h k hm1 hrow hnew HM HS CH
  go_wp2_with fail
  go_end0
  refine ⟨rfl, ?_⟩
  rw [HP.out, one_put]
  refine ⟨{ m with dt := ⟨va, vn, vc⟩ }, { c with dt := (pDt s).1 }, HM1.out.put ⟨HM1.out.dat.vt, HM1.out.dat.vs, HM1.out.dat.sm, HRW.out⟩ ⟨HM1.out.new.1, HM1.out.new.2.1, HM1.out.new.2.2.1, HNW.out⟩ (by simp [over, Mg.cells]) HM1.out.wd HM1.out.vt HM1.out.vs HM1.out.sm rfl, HS1.out.put HLS.out HLR.out, Kept.put HBL.out HK.out⟩
theorem Rq.one (r : Rq) : ∀ u ∈ r.cells, u.oneCell' = true := by
  intro u hu
  simp [Rq.cells] at hu
  (repeat' (rcases hu with rfl | hu))
  all_goals first | rfl | (subst hu; rfl)
theorem MqAt.there {w : World} {M : Nat} {m : Mg} {c : Mc} {x : Mq} (h : MqAt w M m c x) (o k : Nat) (ho : o + k ≤ 25) : w.there M o k := there_part (there_row (n := 25) h.box rfl) ho

set_option maxHeartbeats 4000000 in
theorem read2 (w : World) (S R M : Nat) (s : Sr) (m : Mg) (c : Mc) (x : Mq) (h : Sat w S R s) (hm : MqAt w M m c x) (hS : S < M) (hR : R < M) :
    Calls Tryz.prog 60 #[.pointer (some ⟨S, 0, none⟩), .pointer (some ⟨M, 0, none⟩), .int .u8 2] w fun e w' => e = .returned (.tuple #[]) ∧ ∃ m' c', MqAt w' M m' c' (pPart 2 x s).1 ∧ Sat w' S R (pPart 2 x s).2 ∧ Kept (SRM S R M) w w' := by
  obtain ⟨W, hW⟩ : ∃ W, W = w.alloc (.cells #[.pointer (some ⟨S, 0, none⟩)] 90) := ⟨_, rfl⟩
  have hbl := bl1 hW
  have q : W.cell? ⟨w.heap.size, 0, none⟩ = some (.pointer (some ⟨S, 0, none⟩)) := by rw [hW, cell_of_row _ _ _ _ _ _ (heap_alloc_new _ _)]; rfl
  have HS := Lib.hid (h.on hbl)
  have HM := Lib.hid (hm.below hbl)
  have HBL := Lib.hid hbl
  have HLS := Lib.hid hS
  have HLR := Lib.hid hR
  have HLM := Lib.hid (lt_of_block hm.box)
  have HW := Lib.hid hW
  have hmf : ∀ (fn : Fn) (first cap : Array Value) (w : World), (Instr.makeFunc fn first cap).run Tryz.prog w = .ok (.func fn first cap) w := fun _ _ _ _ => rfl
  have HP : Hid (pPart 2 x s = ({ x with w := { x.w with rq := (pRq s).1 } }, (pRq s).2)) := Lib.hid rfl
  have C := req_any W S R s HS.out
  have CH := Lib.hid C
  clear h hm hbl hW hS hR C
  go_enter Tryz.func60, Tryz.ntmps60
  go_upto_region 1 with fail
  rw [← HW.out]
  clear HW
  go_wp2_with fail
  refine Calls.mono CH.out ?_
  rintro e w1 ⟨rfl, h, k⟩
  have hm1 := HM.out.call k HLS.out HLR.out
  have hc := hm1.cell 6
  have hz := hm1.free 6
  simp only [Mg.cells] at hc
  have HM1 := Lib.hid hm1
  have HS1 := Lib.hid h
  have HK := Lib.hid k
  clear h k hm1 HM HS CH
  have HTH := Lib.hid (HM1.out.there 6 5 (by omega))
  go_wp2_with (first | (refine wpList_store_mid rfl 27 (.tmp 27) (.tmp 25) rfl M 6 (pRq s).1.cells.toArray rfl rfl HTH.out size27 (all_oneCell_toArray (Rq.one _)) ?_; refine Hid.out ?_) | go_in)
  refine Lib.hid ?_
  have HW9 := Lib.hid (show w1.setCells M 6 (pRq s).1.cells = w1.setCells M 6 (pRq s).1.cells from rfl)
  obtain ⟨w9, hw9⟩ : ∃ w9, w9 = w1.setCells M 6 (pRq s).1.cells := ⟨_, rfl⟩
  rw [← hw9]
  have HE := Lib.hid hw9
  clear hw9 HW9 HTH
  go_wp2_with fail
  go_end0
  refine ⟨rfl, ?_⟩
  rw [HP.out, HE.out]
  refine ⟨{ m with rq := (pRq s).1 }, c, HM1.out.put ⟨HM1.out.dat.vt, HM1.out.dat.vs, HM1.out.dat.sm, HM1.out.dat.dt⟩ HM1.out.new (by simp [over, Mg.cells, Rq.cells]) (by rw [← HM1.out.wd]) HM1.out.vt HM1.out.vs HM1.out.sm HM1.out.dt, HS1.out.put HLS.out HLR.out, Kept.put HBL.out HK.out⟩

set_option maxHeartbeats 4000000 in
theorem read7 (w : World) (S R M : Nat) (s : Sr) (m : Mg) (c : Mc) (x : Mq) (h : Sat w S R s) (hm : MqAt w M m c x) (hS : S < M) (hR : R < M) :
    Calls Tryz.prog 60 #[.pointer (some ⟨S, 0, none⟩), .pointer (some ⟨M, 0, none⟩), .int .u8 7] w fun e w' => e = .returned (.tuple #[]) ∧ ∃ m' c', MqAt w' M m' c' (pPart 7 x s).1 ∧ Sat w' S R (pPart 7 x s).2 ∧ Kept (SRM S R M) w w' := by
  obtain ⟨W, hW⟩ : ∃ W, W = w.alloc (.cells #[.pointer (some ⟨S, 0, none⟩)] 90) := ⟨_, rfl⟩
  have hbl := bl1 hW
  have q : W.cell? ⟨w.heap.size, 0, none⟩ = some (.pointer (some ⟨S, 0, none⟩)) := by rw [hW, cell_of_row _ _ _ _ _ _ (heap_alloc_new _ _)]; rfl
  have HS := Lib.hid (h.on hbl)
  have HM := Lib.hid (hm.below hbl)
  have HBL := Lib.hid hbl
  have HLS := Lib.hid hS
  have HLR := Lib.hid hR
  have HLM := Lib.hid (lt_of_block hm.box)
  have HW := Lib.hid hW
  have hmf : ∀ (fn : Fn) (first cap : Array Value) (w : World), (Instr.makeFunc fn first cap).run Tryz.prog w = .ok (.func fn first cap) w := fun _ _ _ _ => rfl
  have HP : Hid (pPart 7 x s = ({ x with vt := (pVt s).1 }, (pVt s).2)) := Lib.hid rfl
  have C := vote_any W S R s HS.out
  have CH := Lib.hid C
  clear h hm hbl hW hS hR C
  go_enter Tryz.func60, Tryz.ntmps60
  go_upto_region 1 with fail
  rw [← HW.out]
  clear HW
  go_wp2_with fail
  refine Calls.mono CH.out ?_
  rintro e w1 ⟨v, rfl, hvw, hva, hvn, h, k⟩
  have hm1 := HM.out.call k HLS.out HLR.out
  have hc := hm1.cell 15
  have hz := hm1.free 15
  simp only [Mg.cells] at hc
  have HM1 := Lib.hid hm1
  have HS1 := Lib.hid h
  have HK := Lib.hid k
  have HVW := Lib.hid hvw
  have HVA := Lib.hid hva
  have HVN := Lib.hid (show NewV (M + 1) v from ⟨fun ad e => by have := hvn.1 ad e; have := HLM.out; have := HBL.out.size; omega, fun ad e => by have := hvn.2.1 ad e; have := HLM.out; have := HBL.out.size; omega, fun ad e => by have := hvn.2.2 ad e; have := HLM.out; have := HBL.out.size; omega⟩)
  clear h k hm1 hvw hva hvn HM HS CH
  have HTH := Lib.hid (HM1.out.there 15 7 (by omega))
  go_wp2_with (first | (refine wpList_store_mid rfl 32 (.tmp 62) (.tmp 60) rfl M 15 v.cells.toArray rfl rfl HTH.out size32' (all_oneCell_toArray (Vt.one v)) ?_; refine Hid.out ?_) | go_in)
  refine Lib.hid ?_
  have HW9 := Lib.hid (show w1.setCells M 15 v.cells = w1.setCells M 15 v.cells from rfl)
  obtain ⟨w9, hw9⟩ : ∃ w9, w9 = w1.setCells M 15 v.cells := ⟨_, rfl⟩
  rw [← hw9]
  have HE := Lib.hid hw9
  clear hw9 HW9 HTH
  go_wp2_with fail
  go_end0
  refine ⟨rfl, ?_⟩
  rw [HP.out, HE.out]
  refine ⟨{ m with vt := v }, { c with vt := (pVt s).1.c }, HM1.out.put ⟨HVA.out, HM1.out.dat.vs, HM1.out.dat.sm, HM1.out.dat.dt⟩ ⟨HVN.out, HM1.out.new.2.1, HM1.out.new.2.2.1, HM1.out.new.2.2.2⟩ (by simp [over, Mg.cells, Vt.cells]) HM1.out.wd (by simp only [toVp]; obtain ⟨e1, e2, e3, e4⟩ := HVW.out; rw [e1, e2, e3, e4]) HM1.out.vs HM1.out.sm HM1.out.dt, HS1.out.put HLS.out HLR.out, Kept.put HBL.out HK.out⟩

theorem ptr_load {w' : World} {g S : Nat} (h : w'.cell? ⟨g, 0, none⟩ = some (.pointer (some ⟨S, 0, none⟩))) : (Instr.loadAt 90 (.pointer (some ⟨g, 0, none⟩))).run Tryz.prog w' = .ok (.pointer (some ⟨S, 0, none⟩)) w' := by go_simp
theorem wp_st {ty : TypeId} {p v : Value} {w w1 : World} {o : Oper} {a : Act} {ox oy : Operand} {K : Act → World → Prop} {Q : Exit → Act → World → Prop} (h : (Instr.storeAt ty p v).run Tryz.prog w = .ok () w1) (hop : o.op = Op.store ty ox oy) (hx : a.eval ox = p) (hy : a.eval oy = v) (hd : o.dst = none) (hk : K a w1) : Oper.wp Tryz.prog o a w K Q := by
  have e : (execOp a.eval o).run Tryz.prog w = .ok .skip w1 := by
    unfold execOp
    simp [hop, hx, hy, h, Result.andThen]
  unfold Oper.wp
  rw [e, Oper.upon_skip, hd]
  exact hk
theorem cell_sr {w w' : World} {S R g : Nat} {v : Value} (k : Kept (SR S R) w w') (hS : g ≠ S) (hR : g ≠ R) (hc : w.cell? ⟨g, 0, none⟩ = some v) : w'.cell? ⟨g, 0, none⟩ = some v := by
  rw [← hc]
  exact World.cell?_of_block (k.block g (cell_block hc) (fun e => by rcases e with e | e; exact hS e; exact hR e))
theorem Sat.drew {w : World} {S R : Nat} {s : Sr} (h : Sat w S R s) : Sat w.drew S R s := h.on ((Below.refl _ _).drew)

set_option maxHeartbeats 8000000 in
theorem read8 (w : World) (S R M : Nat) (s : Sr) (m : Mg) (c : Mc) (x : Mq) (h : Sat w S R s) (hm : MqAt w M m c x) (hS : S < M) (hR : R < M) :
    Calls Tryz.prog 60 #[.pointer (some ⟨S, 0, none⟩), .pointer (some ⟨M, 0, none⟩), .int .u8 8] w fun e w' => e = .returned (.tuple #[]) ∧ ∃ m' c', MqAt w' M m' c' (pPart 8 x s).1 ∧ Sat w' S R (pPart 8 x s).2 ∧ Kept (SRM S R M) w w' := by
  obtain ⟨W, hW⟩ : ∃ W, W = w.alloc (.cells #[.pointer (some ⟨S, 0, none⟩)] 90) := ⟨_, rfl⟩
  have hbl := bl1 hW
  have q : W.cell? ⟨w.heap.size, 0, none⟩ = some (.pointer (some ⟨S, 0, none⟩)) := by rw [hW, cell_of_row _ _ _ _ _ _ (heap_alloc_new _ _)]; rfl
  have hsd := (h.on hbl).drew
  have HM := Lib.hid ((hm.below hbl).below ((Below.refl W.heap.size W).drew))
  have HBL := Lib.hid (hbl.drew)
  have HLS := Lib.hid hS
  have HLR := Lib.hid hR
  have HLM := Lib.hid (lt_of_block hm.box)
  have HW := Lib.hid hW
  have hmf : ∀ (fn : Fn) (first cap : Array Value) (w : World), (Instr.makeFunc fn first cap).run Tryz.prog w = .ok (.func fn first cap) w := fun _ _ _ _ => rfl
  obtain ⟨n, hn⟩ : ∃ n, n = p8 s := ⟨_, rfl⟩
  obtain ⟨z, hz⟩ : ∃ z, z = pL pVt n.1.toNat 4 n.2 := ⟨_, rfl⟩
  have HP : Hid (pPart 8 x s = ({ x with vs := z.1 }, z.2)) := Lib.hid (by rw [hz, hn]; rfl)
  have C1 := s8 W.drew S R s hsd
  have rn := p8_range hsd
  rw [← hn] at C1 rn
  have CH1 := Lib.hid C1
  have C2 := fun w1 (h1 : Sat w1 S R n.2) => listVt w1 S R n.2 h1 n.1.toNat 4 (by omega) (by omega)
  rw [← hz, show ((n.1.toNat : Nat) : Int) = n.1 from by omega, show ((4 : Nat) : Int) = 4 from rfl] at C2
  have CH2 := Lib.hid C2
  have HGS := Lib.hid (show w.heap.size ≠ S by have := h.lt; omega)
  have HGR := Lib.hid (show w.heap.size ≠ R by have := h.lt; omega)
  obtain ⟨gx, hgx⟩ : ∃ g, g = w.heap.size := ⟨_, rfl⟩
  rw [← hgx] at q HGS HGR
  have HGX := Lib.hid hgx
  have Q := Lib.hid q
  clear h hm hbl hW hS hR C1 C2 hsd hn hz hgx
  go_enter Tryz.func60, Tryz.ntmps60
  go_upto_region 1 with fail
  rw [← HW.out, ← HGX.out]
  clear HW
  go_wp2_with fail
  have hWd := (show W.drew.cell? ⟨gx, 0, none⟩ = some (.pointer (some ⟨S, 0, none⟩)) from Q.out)
  refine wp_region_held_drew (S := fun w' => w'.cell? ⟨gx, 0, none⟩ = some (.pointer (some ⟨S, 0, none⟩))) (by kernel_rfl) hWd (fun hS => ?_)
  clear hWd q
  refine tm 0 (.pointer (some ⟨M, 0, none⟩)) rfl hS ?_
  refine tk 1 (.pointer (some ⟨S, 0, none⟩)) rfl (yi_load 90 (.tmp 3) _ rfl rfl rfl (fun w' h => ptr_load h)) hS ?_
  refine tk 2 (.pointer (some ⟨S, 0, none⟩)) rfl (yi_load 90 (.tmp 3) _ rfl rfl rfl (fun w' h => ptr_load h)) hS ?_
  refine tk 5 (.pointer (some ⟨S, 0, none⟩)) rfl (yi_load 90 (.tmp 3) _ rfl rfl rfl (fun w' h => ptr_load h)) hS ?_
  refine tg 6 (.func (.func 87) #[.pointer (some ⟨S, 0, none⟩)] #[]) rfl hS ?_
  refine rdy1 3 rfl (fun K hK => ?_)
  rw [if_pos (by rfl)]
  go_simp
  refine Calls.mono (CH1.out) ?_
  rintro e w1 ⟨rfl, h1, hb⟩
  have k1 := hb
  refine hK.out _ w1 ((fun h hb => cell_sr hb HGS.out HGR.out h) hS hb) (fun hS => ?_)
  clear hK K hb
  have C3 := Lib.hid (CH2.out w1 h1)
  have K1 := Lib.hid k1
  clear h1 k1
  refine tk 4 (.int .i64 n.1) rfl (.inl ⟨rfl, fun w' _ => by go_simp; rw [IntKind.wrap_i64]; omega⟩) hS ?_
  refine rdy1 7 rfl (fun K hK => ?_)
  rw [if_pos (by rfl)]
  go_simp
  refine Calls.mono (C3.out) ?_
  rintro e w2 ⟨v, vl, rfl, hva, hvp, hvn, h2, hb⟩
  have k2 := hb
  refine hK.out _ w2 ((fun h hb => cell_sr hb HGS.out HGR.out h) hS hb) (fun hS => ?_)
  clear hK K hb
  refine tg 8 (.pointer (some ⟨M, 0, none⟩)) rfl hS ?_
  refine tg 9 (.pointer (some ⟨M, 22, none⟩)) rfl hS ?_
  have hm2 := (HM.out.call K1.out HLS.out HLR.out).call k2 HLS.out HLR.out
  have hrun : (Instr.storeAt 33 (.pointer (some ⟨M, 22, none⟩)) (.slice v.a v.n v.c)).run Tryz.prog w2 = .ok () (w2.setCell ⟨M, 22, none⟩ (.slice v.a v.n v.c)) := by
    have hc2 := hm2.cell 22
    have hz2 := hm2.free 22
    simp only [Mg.cells] at hc2
    clear hm2 hva hvp hvn h2 k2
    go_simp
  refine rdy1 10 rfl (fun K hK => ?_)
  rw [if_pos (by rfl)]
  refine wp_st hrun rfl rfl rfl rfl ?_
  have HM2 := Lib.hid hm2
  have HS2 := Lib.hid h2
  have K2 := Lib.hid k2
  have HVA := Lib.hid hva
  have HVP := Lib.hid hvp
  have HVN := Lib.hid hvn
  have HSS := Lib.hid hS
  refine hK.out _ (w2.setCell ⟨M, 22, none⟩ (.slice v.a v.n v.c)) ?_ (fun hS => ?_)
  · rw [World.cell?_of_block (w := w2) (heap_setCell_other _ _ _ _ (by simp only; have := HLM.out; have := HGX.out; omega))]
    exact HSS.out
  clear hK K hm2 h2 k2 hva hvp hvn hrun hS
  refine wpAnyH_done (by kernel_rfl) ?_ _
  go_wp2_with fail
  go_end0
  refine ⟨rfl, ?_⟩
  rw [HP.out, one_put]
  refine ⟨{ m with vs := v }, { c with vs := vl }, HM2.out.put ⟨HM2.out.dat.vt, HVA.out, HM2.out.dat.sm, HM2.out.dat.dt⟩ ⟨HM2.out.new.1, ?_, HM2.out.new.2.2.1, HM2.out.new.2.2.2⟩ (by simp [over, Mg.cells]) HM2.out.wd HM2.out.vt HVP.out HM2.out.sm HM2.out.dt, HS2.out.put HLS.out HLR.out, Kept.put HBL.out (K1.out.trans K2.out (fun _ _ h => h))⟩
  have hle : M + 1 ≤ w1.heap.size := by have := HLM.out; have := HBL.out.size; have := K1.out.size; omega
  exact ⟨fun ad e => Nat.le_trans hle (HVN.out.1 ad e), fun x hx => ⟨fun ad e => Nat.le_trans hle ((HVN.out.2 x hx).1 ad e), fun ad e => Nat.le_trans hle ((HVN.out.2 x hx).2.1 ad e), fun ad e => Nat.le_trans hle ((HVN.out.2 x hx).2.2 ad e)⟩⟩
theorem read_any (p : Int) (hp : 0 ≤ p ∧ p ≤ 10) (w : World) (S R M : Nat) (s : Sr) (m : Mg) (c : Mc) (x : Mq) (h : Sat w S R s) (hm : MqAt w M m c x) (hS : S < M) (hR : R < M) :
    Calls Tryz.prog 60 #[.pointer (some ⟨S, 0, none⟩), .pointer (some ⟨M, 0, none⟩), .int .u8 p] w fun e w' => e = .returned (.tuple #[]) ∧ ∃ m' c', MqAt w' M m' c' (pPart p x s).1 ∧ Sat w' S R (pPart p x s).2 ∧ Kept (SRM S R M) w w' := by
  have hc : p = 0 ∨ p = 1 ∨ p = 2 ∨ p = 3 ∨ p = 4 ∨ p = 5 ∨ p = 6 ∨ p = 7 ∨ p = 8 ∨ p = 9 ∨ p = 10 := by omega
  rcases hc with rfl | rfl | rfl | rfl | rfl | rfl | rfl | rfl | rfl | rfl | rfl
  · exact read0 w S R M s m c x h hm hS hR
  · exact read1 w S R M s m c x h hm hS hR
  · exact read2 w S R M s m c x h hm hS hR
  · exact read3 w S R M s m c x h hm hS hR
  · exact read4p w S R M s m c x h hm hS hR
  · exact read5 w S R M s m c x h hm hS hR
  · exact read6 w S R M s m c x h hm hS hR
  · exact read7 w S R M s m c x h hm hS hR
  · exact read8 w S R M s m c x h hm hS hR
  · exact read9 w S R M s m c x h hm hS hR
  · exact read10 w S R M s m c x h hm hS hR

def SrOk (s : Sr) : Prop := ∀ x ∈ s.l, isByte x
theorem SrOk.at {s : Sr} (h : SrOk s) (i : Nat) : isByte (s.l.getD i 0) := by
  rw [List.getD_eq_getElem?_getD]
  rcases Nat.lt_or_ge i s.l.length with hi | hi
  · rw [List.getElem?_eq_getElem hi]; exact h _ (List.getElem_mem hi)
  · rw [List.getElem?_eq_none hi]; exact ⟨by decide, by decide⟩
theorem gN_ok {s : Sr} (k : Nat) (num : List Int → Int) (h : SrOk s) : SrOk (gN k num s).2 := by
  unfold gN
  split
  · split
    · intro x hx; exact h x (List.mem_of_mem_drop hx)
    · exact h
  · exact h
theorem gN_in {s : Sr} (k : Nat) (num : List Int → Int) (lo hi : Int) (h0 : lo ≤ 0 ∧ 0 ≤ hi) (hn : lo ≤ num s.l ∧ num s.l ≤ hi) : lo ≤ (gN k num s).1 ∧ (gN k num s).1 ≤ hi := by
  unfold gN
  split
  · split
    · exact hn
    · exact h0
  · exact h0
theorem p8_in {s : Sr} (h : SrOk s) : 0 ≤ (p8 s).1 ∧ (p8 s).1 ≤ 255 := gN_in 1 _ 0 255 (by decide) (h.at 0)
theorem p16_in {s : Sr} (h : SrOk s) : 0 ≤ (p16 s).1 ∧ (p16 s).1 ≤ 65535 := gN_in 2 _ 0 65535 (by decide) (two_bytes (h.at 0) (h.at 1))
theorem p32_in {s : Sr} (h : SrOk s) : 0 ≤ (p32 s).1 ∧ (p32 s).1 ≤ 4294967295 := gN_in 4 _ 0 4294967295 (by decide) (by
  have a := two_bytes (h.at 0) (h.at 1)
  have b := two_bytes (h.at 2) (h.at 3)
  unfold rd32
  omega)
theorem pRq_ok {s : Sr} (h : SrOk s) : (pRq s).1.ok ∧ SrOk (pRq s).2 := by
  have h1 : SrOk (p8 s).2 := gN_ok 1 _ h
  have h2 : SrOk (p32 (p8 s).2).2 := gN_ok 4 _ h1
  have h3 : SrOk (p8 (p32 (p8 s).2).2).2 := gN_ok 1 _ h2
  have h4 : SrOk (p8 (p8 (p32 (p8 s).2).2).2).2 := gN_ok 1 _ h3
  have h5 : SrOk (p16 (p8 (p8 (p32 (p8 s).2).2).2).2).2 := gN_ok 2 _ h4
  refine ⟨?_, h5⟩
  have a := p8_in h
  have b := p32_in h1
  have c := p8_in h2
  have d := p8_in h3
  have e := p16_in h4
  unfold Rq.ok pRq
  simp only
  exact ⟨a, b, c, d, e⟩
theorem pMk_ok {s : Sr} (h : SrOk s) : SrOk (pMk s).2 := gN_ok 8 _ (gN_ok 4 _ h)
theorem pEn_ok {s : Sr} (h : SrOk s) : (pEn s).1.rq.ok ∧ SrOk (pEn s).2 := pRq_ok (gN_ok 4 _ (gN_ok 4 _ h))
theorem pN_ok {α : Type} {one : Sr → α × Sr} {P : α → Prop} (h1 : ∀ s, SrOk s → P (one s).1 ∧ SrOk (one s).2) (s : Sr) (h : SrOk s) (j : Nat) : (∀ x ∈ (pN one s j).1, P x) ∧ SrOk (pN one s j).2 := by
  induction j with
  | zero => exact ⟨fun x hx => (by cases hx), h⟩
  | succ j ih =>
    obtain ⟨a, b⟩ := h1 _ ih.2
    refine ⟨fun x hx => ?_, b⟩
    simp only [pN, List.mem_append, List.mem_singleton] at hx
    rcases hx with hx | rfl
    · exact ih.1 x hx
    · exact a
theorem pL_ok {α : Type} {one : Sr → α × Sr} {P : α → Prop} (h1 : ∀ s, SrOk s → P (one s).1 ∧ SrOk (one s).2) (n most : Nat) (s : Sr) (h : SrOk s) : (∀ x ∈ (pL one n most s).1, P x) ∧ SrOk (pL one n most s).2 := by
  unfold pL
  split
  · split
    · exact pN_ok h1 s h n
    · exact ⟨fun x hx => (by cases hx), h⟩
  · exact ⟨fun x hx => (by cases hx), h⟩
theorem pVt_ok {s : Sr} (h : SrOk s) : VcOk (pVt s).1.c ∧ SrOk (pVt s).2 := by
  have h4 : SrOk (p32 (p32 (p8 (p8 s).2).2).2).2 := gN_ok 4 _ (gN_ok 4 _ (gN_ok 1 _ (gN_ok 1 _ h)))
  have h5 : SrOk (p8 (p32 (p32 (p8 (p8 s).2).2).2).2).2 := gN_ok 1 _ h4
  have h6 := (pL_ok (one := pMk) (P := fun _ => True) (fun s hs => ⟨trivial, pMk_ok hs⟩) (p8 (p32 (p32 (p8 (p8 s).2).2).2).2).1.toNat 40 _ h5).2
  have h7 := gN_ok 1 (fun l => l.getD 0 0) h6
  have h8 := pL_ok (one := pEn) (P := fun x => x.rq.ok) (fun s hs => pEn_ok hs) (p8 (pL pMk (p8 (p32 (p32 (p8 (p8 s).2).2).2).2).1.toNat 40 (p8 (p32 (p32 (p8 (p8 s).2).2).2).2).2).2).1.toNat 40 _ h7
  have h9 := gN_ok 1 (fun l => l.getD 0 0) h8.2
  have h10 := pL_ok (one := pEn) (P := fun x => x.rq.ok) (fun s hs => pEn_ok hs) (p8 (pL pEn (p8 (pL pMk (p8 (p32 (p32 (p8 (p8 s).2).2).2).2).1.toNat 40 (p8 (p32 (p32 (p8 (p8 s).2).2).2).2).2).2).1.toNat 40 (p8 (pL pMk (p8 (p32 (p32 (p8 (p8 s).2).2).2).2).1.toNat 40 (p8 (p32 (p32 (p8 (p8 s).2).2).2).2).2).2).2).2).1.toNat 40 _ h9
  exact ⟨⟨h8.1, h10.1⟩, h10.2⟩
def MqOk (x : Mq) : Prop := VcOk x.vt.c ∧ ∀ v ∈ x.vs, VcOk v.c
theorem pDt_ok {s : Sr} (h : SrOk s) : SrOk (pDt s).2 := by
  unfold pDt
  split
  · split
    · split
      · exact h
      · split
        · intro x hx; exact h x (List.mem_of_mem_drop hx)
        · exact h
    · exact h
  · exact h
theorem pPart_ok {x : Mq} {s : Sr} (p : Int) (hx : MqOk x) (h : SrOk s) : MqOk (pPart p x s).1 ∧ SrOk (pPart p x s).2 := by
  unfold pPart
  split
  · exact ⟨hx, gN_ok 4 _ h⟩
  split
  · exact ⟨hx, gN_ok 4 _ h⟩
  split
  · exact ⟨hx, (pRq_ok h).2⟩
  split
  · exact ⟨hx, gN_ok 8 _ h⟩
  split
  · exact ⟨hx, gN_ok 1 _ h⟩
  split
  · exact ⟨hx, gN_ok 1 _ h⟩
  split
  · exact ⟨hx, gN_ok 4 _ h⟩
  split
  · exact ⟨⟨(pVt_ok h).1, hx.2⟩, (pVt_ok h).2⟩
  split
  · have := pL_ok (one := pVt) (P := fun v => VcOk v.c) (fun s hs => pVt_ok hs) (p8 s).1.toNat 4 (p8 s).2 (gN_ok 1 _ h)
    exact ⟨⟨hx.1, this.1⟩, this.2⟩
  split
  · exact ⟨hx, (pL_ok (one := p64) (P := fun _ => True) (fun s hs => ⟨trivial, gN_ok 8 _ hs⟩) 8 8 s h).2⟩
  · exact ⟨hx, pDt_ok h⟩
theorem MqAt.ok {w : World} {M : Nat} {m : Mg} {c : Mc} {x : Mq} (h : MqAt w M m c x) (hx : MqOk x) : McOk c := by
  refine ⟨?_, fun y hy => ?_⟩
  · have := hx.1
    rw [← h.vt] at this
    exact this
  · have : toVp y ∈ x.vs := by rw [← h.vs]; exact List.mem_map_of_mem hy
    exact hx.2 _ this
end Go.Proofs.YtbpfkeeikhhlnaaGreatDoor
