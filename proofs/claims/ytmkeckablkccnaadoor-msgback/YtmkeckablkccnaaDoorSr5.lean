/- Votes are read, one behind the other. -/
import Derived.Test.YtmkeckablkccnaaDoorSr4
namespace Go.Proofs.YtmkeckablkccnaaDoor
open Go.RowKit
set_option maxRecDepth 100000

def toVp (x : Vt × Vc) : Vp := ⟨x.1.f, x.1.e, x.1.vw, x.1.lo, x.2⟩
theorem flat_next {α : Type} {enc : α → List Value} {k : Nat} (henc : ∀ x, (enc x).length = k) {w1 : World} {g j : Nat} {xs : List α} (x : α) (hl : xs.length = j) (hr : w1.rangeAt g 0 (xs.flatMap enc)) (ht : w1.there g (j * k) k) : (w1.setCells g (j * k) (enc x)).rangeAt g 0 ((xs ++ [x]).flatMap enc) := by
  have hfl := flatV_len enc k henc xs
  rw [hl] at hfl
  have ha := World.rangeAt_setCells_apart hr g (j * k) (enc x) (.inr (.inl (by rw [hfl]; omega)))
  have hb := World.rangeAt_setCells_same w1 g (j * k) (enc x) (by rw [henc]; exact ht)
  intro i v hi
  simp only [List.flatMap_append, List.flatMap_cons, List.flatMap_nil, List.append_nil] at hi
  by_cases hlt : i < (xs.flatMap enc).length
  · rw [List.getElem?_append_left hlt] at hi
    exact ha i v hi
  · rw [List.getElem?_append_right (by omega), hfl] at hi
    have := hb _ v hi
    rw [hfl] at hlt
    rw [show 0 + i = j * k + (i - j * k) from by omega]
    exact this
theorem row_of_range {α : Type} {enc : α → List Value} {k : Nat} (henc : ∀ x, (enc x).length = k) {wr : World} {g n : Nat} {xs : List α} (hl : xs.length = n) (hr : wr.rangeAt g 0 (xs.flatMap enc)) (hn : n ≤ 1000) : Row wr k enc (.slice (some ⟨g, 0, none⟩) n n) xs := by
  refine ⟨some ⟨g, 0, none⟩, n, by rw [hl], (fun e => by cases e), by rw [hl]; exact Nat.le_refl _, by rw [hl]; omega, fun j x hj => ⟨g, 0, rfl, fun i u hu => ?_⟩⟩
  have key : ∀ (xs : List α) (j i : Nat) (x : α) (u : Value), xs[j]? = some x → (enc x)[i]? = some u → (xs.flatMap enc)[j * k + i]? = some u := by
    intro xs
    induction xs with
    | nil => intro j i x u hx; simp at hx
    | cons y r ih =>
      intro j i x u hx hu
      have hy := henc y
      cases j with
      | zero =>
        simp at hx
        subst hx
        have hi : i < (enc y).length := by
          rcases Nat.lt_or_ge i (enc y).length with h | h
          · exact h
          · rw [List.getElem?_eq_none h] at hu; cases hu
        rw [List.flatMap_cons, Nat.zero_mul, Nat.zero_add, List.getElem?_append_left hi]; exact hu
      | succ j =>
        rw [List.flatMap_cons, List.getElem?_append_right (by rw [hy, Nat.succ_mul]; omega), hy]
        have := ih j i x u (by simpa using hx) hu
        rw [show (j + 1) * k + i - k = j * k + i from by rw [Nat.succ_mul]; omega]
        exact this
  have := hr (j * k + i) u (key _ j i x u hj hu)
  simpa [Nat.add_assoc] using this
/-- votes in a row, behind j of n -/
structure RowW (s : Sr) (V wr : World) (S R g n j : Nat) (vl : List (Vt × Vc)) : Prop where
  th : wr.there g 0 (n * 7)
  len : vl.length = j
  ra : wr.rangeAt g 0 (vl.flatMap vcell)
  each : ∀ x ∈ vl, VtAt wr x.1 x.2 ∧ NewV (g + 1) x.1
  pure : vl.map toVp = (pN pVt s j).1
  sat : Sat wr S R (pN pVt s j).2
  kept : Kept (TG S R g) V wr
theorem RowW.next {s : Sr} {V wr w1 : World} {S R g n j : Nat} {vl : List (Vt × Vc)} (h : RowW s V wr S R g n j vl) {v : Vt} (hw : v.f = (pVt (pN pVt s j).2).1.f ∧ v.e = (pVt (pN pVt s j).2).1.e ∧ v.vw = (pVt (pN pVt s j).2).1.vw ∧ v.lo = (pVt (pN pVt s j).2).1.lo) (hva : VtAt w1 v (pVt (pN pVt s j).2).1.c) (hvn : NewV wr.heap.size v)
    (hs : Sat w1 S R (pVt (pN pVt s j).2).2) (hk : Kept (SR S R) wr w1) (hgS : S < g) (hgR : R < g) (hlt : g < wr.heap.size) (hj : j < n) : w1.there g (j * 7) 7 ∧ RowW s V (w1.setCells g (j * 7) v.cells) S R g n (j + 1) (vl ++ [(v, (pVt (pN pVt s j).2).1.c)]) := by
  have hnT : ¬ SR S R g := fun e => by rcases e with e | e; omega; omega
  have ht1 := there_kept h.th hk hnT hlt
  have htj := there_part (o := j * 7) (k := 7) ht1 (by omega)
  have hkg : Kept (fun k => k = g) w1 (w1.setCells g (j * 7) v.cells) := kept_setCells
  have hT : ∀ b, SR S R b → b < g + 1 := fun b e => by rcases e with e | e; omega; omega
  refine ⟨htj, World.there_setCells ht1 _ _ _, by simp [h.len], ?_, ?_, ?_, hs.kept hkg (by omega) (fun i hi e => by omega), (h.kept.trans hk (fun i _ e => .inl e)).trans hkg (fun i _ e => .inr e)⟩
  · exact flat_next (enc := vcell) (k := 7) (fun x => rfl) (v, (pVt (pN pVt s j).2).1.c) h.len (range_kept h.ra hk hnT) htj
  · intro x hx
    rw [List.mem_append, List.mem_singleton] at hx
    rcases hx with hx | rfl
    · obtain ⟨e1, e2⟩ := h.each x hx
      exact ⟨(e1.new hk e2 hT).new hkg e2 (fun b e => by omega), e2⟩
    · have hv1 : NewV (g + 1) v := ⟨fun ad e => by have := hvn.1 ad e; omega, fun ad e => by have := hvn.2.1 ad e; omega, fun ad e => by have := hvn.2.2 ad e; omega⟩
      exact ⟨hva.new hkg hv1 (fun b e => by omega), hv1⟩
  · rw [List.map_append, h.pure]
    simp only [pN, List.map_cons, List.map_nil, toVp]
    obtain ⟨h1, h2, h3, h4⟩ := hw
    rw [h1, h2, h3, h4]

theorem info32v : (Tryd.prog.info? 32).map (fun i => (i.zero, i.size, i.bytes)) = some (some (.agg #[.int .u8 0, .int .u8 0, .int .u32 0, .int .u32 0, .slice none 0 0, .slice none 0 0, .slice none 0 0]), 7, 88) := by kernel_rfl
/-- votes that were made since -/
def NewS (H : Nat) (v : Sl) (vl : List (Vt × Vc)) : Prop := (∀ ad, v.a = some ad → H ≤ ad.block) ∧ ∀ x ∈ vl, NewV H x.1
set_option maxHeartbeats 4000000 in
theorem listVt (w : World) (S R : Nat) (s : Sr) (h : Sat w S R s) (n most : Nat) (hn : n ≤ 255) (hm : most ≤ 255) :
    Calls Tryd.prog 71 #[.pointer (some ⟨S, 0, none⟩), .int .i64 n, .int .i64 most, .func (.func 70) #[.pointer (some ⟨S, 0, none⟩)] #[]] w fun e w' => ∃ (v : Sl) (vl : List (Vt × Vc)), e = .returned (.slice v.a v.n v.c) ∧ VsAt w' v vl ∧ vl.map toVp = (pL pVt n most s).1 ∧ NewS w.heap.size v vl ∧ Sat w' S R (pL pVt n most s).2 ∧ Kept (SR S R) w w' := by
  have q1 := h.cell1
  have z1 := h.free1
  have H := Lib.hid h
  unfold pL
  by_cases hf : s.f = 0
  · rw [if_pos hf]
    rw [hf] at q1
    by_cases hk : n ≤ most
    · rw [if_pos hk]
      obtain ⟨i0, hinfo⟩ := info_parts info32v
      obtain ⟨hi, hz0, hz1, hz2⟩ := hinfo
      have hmk : (Instr.makeSlice 33 (.int .i64 (n : Int)) (.int .i64 (n : Int))).run Tryd.prog w = .ok (.slice (some ⟨w.heap.size, 0, none⟩) n n) (w.alloc (.cells (madeCells (.agg #[.int .u8 0, .int .u8 0, .int .u32 0, .int .u32 0, .slice none 0 0, .slice none 0 0, .slice none 0 0] : Value).cells (n * 7)) 32)) := by
        have := run_makeSlice (P := Tryd.prog) w 33 32 i0 _ Tryd.underlying33 hi hz0 .i64 .i64 n n (by omega) (by omega) (by rw [hz1]; simp; omega) (by rw [hz2]; omega) (by omega)
        rw [hz1] at this
        simpa using this
      obtain ⟨V, hV⟩ : ∃ V, V = w.alloc (.cells (madeCells (.agg #[.int .u8 0, .int .u8 0, .int .u32 0, .int .u32 0, .slice none 0 0, .slice none 0 0, .slice none 0 0] : Value).cells (n * 7)) 32) := ⟨_, rfl⟩
      rw [← hV] at hmk
      have hbl : Below w.heap.size w V := by rw [hV]; exact (Below.refl _ _).alloc (Nat.le_refl _) _
      have hbx : V.heap[w.heap.size]? = some (.cells (madeCells (.agg #[.int .u8 0, .int .u8 0, .int .u32 0, .int .u32 0, .slice none 0 0, .slice none 0 0, .slice none 0 0] : Value).cells (n * 7)) 32 (0, 0)) := by rw [hV]; exact heap_alloc_new _ _
      have HJ0 : Hid (RowW s V V S R w.heap.size n 0 []) := Lib.hid ⟨there_row hbx (made_size _ _), rfl, (fun j v hj => by simp at hj), (fun x hx => by cases hx), rfl, h.on hbl, Kept.refl _ _⟩
      have HBL := Lib.hid hbl
      have HLT := Lib.hid (lt_of_block hbx)
      have HGS := Lib.hid (show S < w.heap.size from h.lt.1)
      have HGR := Lib.hid (show R < w.heap.size from h.lt.2)
      obtain ⟨g, hg⟩ : ∃ g, g = w.heap.size := ⟨_, rfl⟩
      have HG := Lib.hid (show w.heap.size ≤ g by omega)
      rw [← hg] at hmk HJ0 HLT HGS HGR
      clear h hf hV hbl hbx hi hz0 hz1 hz2 hg
      go_enter Tryd.func71, Tryd.ntmps71
      go_wp2_with fail
      go_loopw [33] (fun vi wr => ∃ j : Nat, j ≤ n ∧ vi = .int .i64 j ∧ ∃ vl, Hid (RowW s V wr S R g n j vl)) (fun i _ => n - (intOf i).toNat)
      case atStart => exact ⟨0, Nat.zero_le _, rfl, [], HJ0⟩
      case round =>
        obtain ⟨j, hj, rfl, vl, HJ⟩ := hrel
        clear HJ0
        by_cases hlt : j < n
        · go_wp2_with fail
          refine Calls.mono (vote_any wr S R _ HJ.out.sat) ?_
          rintro e w1 ⟨x, rfl, hw, hva, hvn, h1, h2⟩
          obtain ⟨ht, hj1⟩ := HJ.out.next hw hva hvn h1 h2 HGS.out HGR.out (Nat.lt_of_lt_of_le HLT.out HJ.out.kept.size) hlt
          have HTH := Lib.hid ht
          have HJ1 := Lib.hid hj1
          clear h1 h2 ht hj1 HJ hw hva hvn
          generalize (pVt (pN pVt s j).2).1.c = xc at *
          go_wp2_with (first | (refine wpList_store_mid rfl 32 (.tmp 40) (.tmp 39) rfl g (j * 7) x.cells.toArray (by first | rfl | simp) rfl HTH.out size32' (all_oneCell_toArray (Vt.one x)) ?_; refine Hid.out ?_) | go_in)
          refine Lib.hid ?_
          generalize w1.setCells g (j * 7) x.cells = w9 at *
          clear HTH
          go_wp2_with fail
          go_round
          case rel => exact ⟨j + 1, by omega, by go_num, _, HJ1⟩
          case measure => simp [intOf]; omega
        · obtain rfl : j = n := by omega
          go_wp2_with fail
          go_ret
          refine ⟨⟨some ⟨g, 0, none⟩, j, j⟩, vl, rfl, ⟨row_of_range (enc := vcell) (k := 7) (fun x => rfl) HJ.out.len HJ.out.ra (show j ≤ 1000 by omega), fun x hx => (HJ.out.each x hx).1⟩, HJ.out.pure, ⟨(fun ad e => by injection e with e; subst e; exact HG.out), fun x hx => ?_⟩, HJ.out.sat, ?_⟩
          · obtain ⟨n1, n2, n3⟩ := (HJ.out.each x hx).2
            have hg := HG.out
            exact ⟨fun ad e => by have := n1 ad e; omega, fun ad e => by have := n2 ad e; omega, fun ad e => by have := n3 ad e; omega⟩
          · exact ((Kept.ofBelow (S := TG S R g) HBL.out).trans HJ.out.kept (fun _ _ h => h)).new2 HG.out
    · rw [if_neg hk]
      simp only
      clear h hf
      go_enter Tryd.func71, Tryd.ntmps71
      go_wp2_with fail
      go_ret
      exact ⟨⟨none, 0, 0⟩, [], rfl, ⟨Row.nil _ _ _, fun x hx => by cases hx⟩, rfl, ⟨(fun ad e => by cases e), fun x hx => by cases hx⟩, H.out.fault 30, Kept.sf ((Kept.refl _ _).setCell _ _ (fun _ => rfl))⟩
  · rw [if_neg hf]
    have hf2 : (s.f == 0) = false := by simp [hf]
    simp only
    clear h hf
    by_cases hk : n ≤ most
    · go_enter Tryd.func71, Tryd.ntmps71
      go_wp2_with fail
      go_ret
      exact ⟨⟨none, 0, 0⟩, [], rfl, ⟨Row.nil _ _ _, fun x hx => by cases hx⟩, rfl, ⟨(fun ad e => by cases e), fun x hx => by cases hx⟩, H.out, Kept.refl _ _⟩
    · go_enter Tryd.func71, Tryd.ntmps71
      go_wp2_with fail
      go_ret
      exact ⟨⟨none, 0, 0⟩, [], rfl, ⟨Row.nil _ _ _, fun x hx => by cases hx⟩, rfl, ⟨(fun ad e => by cases e), fun x hx => by cases hx⟩, H.out, Kept.refl _ _⟩
end Go.Proofs.YtmkeckablkccnaaDoor
