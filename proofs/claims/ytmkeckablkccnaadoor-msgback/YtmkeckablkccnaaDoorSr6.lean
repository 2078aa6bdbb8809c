/- The bytes of a page are read. -/
import Derived.Test.YtmkeckablkccnaaDoorSr5
namespace Go.Proofs.YtmkeckablkccnaaDoor
open Go.RowKit
set_option maxRecDepth 100000

/-- bytes with their number ahead, 64 at most -/
def pDt (s : Sr) : List Int × Sr :=
  if s.f = 0 then
    (if 2 ≤ s.l.length then
      (if 64 < rd16 s.l then ([], ⟨s.l, 21⟩) else if 2 + (rd16 s.l).toNat ≤ s.l.length then ((s.l.drop 2).take (rd16 s.l).toNat, ⟨s.l.drop (2 + (rd16 s.l).toNat), 0⟩) else ([], ⟨s.l, 20⟩))
    else ([], ⟨s.l, 20⟩))
  else ([], s)
theorem Sat.drewN {w : World} {S R : Nat} {s : Sr} (h : Sat w S R s) (n : Nat) : Sat (w.drewN n) S R s := ⟨h.src, h.rd.drewN n, h.ord, h.len⟩
theorem dt_nil (w : World) : DtAt w ⟨none, 0, 0⟩ [] := ⟨rfl, fun i hi => by simp at hi, fun _ => rfl, Nat.le_refl _, by simp, fun x hx => by cases hx⟩

set_option maxHeartbeats 1600000 in
/-- the function within: it hands on what the reader tells -/
theorem in78 (w : World) (S R cb : Nat) (s : Sr) (h : Sat w S R s) (hc : w.cell? ⟨cb, 0, none⟩ = some (.pointer (some ⟨S, 0, none⟩))) {Q : Value → Int → World → Prop} (C : Calls Tryd.prog 75 #[.pointer (some ⟨R, 0, none⟩), .int .i64 64] w fun e w' => ∃ (v : Sl) (f : Int), e = .returned (.tuple #[.slice v.a v.n v.c, .int .i64 f]) ∧ Q v.val f w') :
    Calls Tryd.prog 74 #[.pointer (some ⟨cb, 0, none⟩)] w fun e w' => ∃ (v : Sl) (f : Int), e = .returned (.tuple #[.slice v.a v.n v.c, .int .i64 f]) ∧ Q v.val f w' := by
  have q0 := h.cell0
  have C := Lib.hid C
  clear h
  go_enter Tryd.func74, Tryd.ntmps74
  go_wp2_with fail
  refine Calls.mono C.out ?_
  rintro e w1 ⟨v, f, rfl, hq⟩
  have HQ := Lib.hid hq
  clear hq
  go_wp2_with fail
  exact bodyPost_ret (v := .tuple #[.slice v.a v.n v.c, .int .i64 f]) (by simp [results, Tryd.results78, go_sem]) rfl ⟨v, f, rfl, HQ.out⟩

/-- what the reader's call tells and leaves -/
def Dq (w : World) (S R : Nat) (s : Sr) (v : Value) (f : Int) (w' : World) : Prop :=
  ∃ u : Sl, v = u.val ∧ ((f ≠ 0 ∧ u = ⟨none, 0, 0⟩ ∧ (pDt s).1 = [] ∧ (pDt s).2 = ⟨s.l, f⟩ ∧ Sat w' S R s) ∨ (f = 0 ∧ DtAt w' u (pDt s).1 ∧ (∀ ad, u.a = some ad → w.heap.size ≤ ad.block) ∧ Sat w' S R (pDt s).2)) ∧ Kept (SR S R) w w'

theorem in79 (w : World) (S R : Nat) (s : Sr) (h : Sat w S R s) (hf : s.f = 0) :
    Calls Tryd.prog 75 #[.pointer (some ⟨R, 0, none⟩), .int .i64 64] w fun e w' => ∃ (v : Sl) (f : Int), e = .returned (.tuple #[.slice v.a v.n v.c, .int .i64 f]) ∧ Dq w S R s v.val f w' := by
  have hlen : s.l.length ≤ 1000000 := Nat.le_trans h.len (by decide)
  by_cases h2 : 2 ≤ s.l.length
  · have hr := rd16_range h.rd.toRd h2
    obtain ⟨k, hk⟩ := Int.eq_ofNat_of_zero_le hr.1
    by_cases hl : 64 < rd16 s.l
    · refine (rb_long w R s.l 64 h.rd.toRd h2 hlen k hk (by omega)).mono ?_
      rintro e w' ⟨rfl, n, rfl⟩
      exact ⟨⟨none, 0, 0⟩, 21, rfl, ⟨none, 0, 0⟩, rfl, .inl ⟨by decide, rfl, by simp [pDt, hf, h2, hl], by simp [pDt, hf, h2, hl], h.drewN n⟩, (Kept.refl _ w).drewN n⟩
    · have hkt : (rd16 s.l).toNat = k := by omega
      by_cases hc : 2 + k ≤ s.l.length
      · refine (rb_b w R s.l 64 h.rd h2 hlen k hk (by omega) hc).mono ?_
        rintro e w' ⟨ao, c, rfl, hnew, hrb, hkp⟩
        have e1 : (pDt s).1 = (s.l.drop 2).take k := by simp [pDt, hf, h2, hl, hkt, hc]
        have e2 : (pDt s).2 = ⟨s.l.drop (2 + k), 0⟩ := by simp [pDt, hf, h2, hl, hkt, hc]
        have hl2 : ((s.l.drop 2).take k).length = k := by rw [List.length_take, List.length_drop]; omega
        refine ⟨⟨ao, k, c⟩, 0, rfl, ⟨ao, k, c⟩, rfl, .inr ⟨rfl, ?_, ?_, ?_⟩, hkp.sr⟩
        · rw [e1]
          have hn1 := hnew.1
          refine ⟨hl2.symm, ?_, ?_, ?_, by omega, ?_⟩
          · exact own_bytes hn1
          · intro e; exact (hnew.none e).2
          · show ((s.l.drop 2).take k).length ≤ c
            rcases hn1.2 with ⟨hv, h0⟩ | ⟨g, c3, cur, hv, _, _, h1, _⟩
            · injection hv with _ _ hv; omega
            · injection hv with _ _ hv; omega
          · intro x hx
            obtain ⟨i, hi, rfl⟩ := List.getElem_of_mem (List.mem_of_mem_drop (List.mem_of_mem_take hx))
            have := h.rd.byte i hi
            rwa [List.getD_eq_getElem?_getD, List.getElem?_eq_getElem hi] at this
        · intro ad e
          exact hnew.2 ad e
        · rw [e2]
          have := h.read hrb hkp (by simp)
          rw [hf] at this
          exact this
      · refine (rb_cut w R s.l 64 h.rd.toRd h2 hlen k hk (by omega) (by omega)).mono ?_
        rintro e w' ⟨rfl, n, rfl⟩
        exact ⟨⟨none, 0, 0⟩, 20, rfl, ⟨none, 0, 0⟩, rfl, .inl ⟨by decide, rfl, by simp [pDt, hf, h2, hl, hkt, hc], by simp [pDt, hf, h2, hl, hkt, hc], h.drewN n⟩, (Kept.refl _ w).drewN n⟩
  · refine (rb_short w R s.l 64 h.rd.toRd (by omega)).mono ?_
    rintro e w' ⟨rfl, rfl⟩
    exact ⟨⟨none, 0, 0⟩, 20, rfl, ⟨none, 0, 0⟩, rfl, .inl ⟨by decide, rfl, by simp [pDt, hf, h2], by simp [pDt, hf, h2], h⟩, Kept.refl _ _⟩

set_option maxHeartbeats 1600000 in
theorem data_any (w : World) (S R cb : Nat) (s : Sr) (h : Sat w S R s) (hc : w.cell? ⟨cb, 0, none⟩ = some (.pointer (some ⟨S, 0, none⟩))) :
    Calls Tryd.prog 73 #[.pointer (some ⟨S, 0, none⟩), .func (.func 74) #[] #[.pointer (some ⟨cb, 0, none⟩)]] w fun e w' => ∃ v : Sl, e = .returned (.slice v.a v.n v.c) ∧ DtAt w' v (pDt s).1 ∧ (∀ ad, v.a = some ad → w.heap.size ≤ ad.block) ∧ Sat w' S R (pDt s).2 ∧ Kept (SR S R) w w' := by
  have q1 := h.cell1
  have H := Lib.hid h
  by_cases hf : s.f = 0
  · rw [hf] at q1
    have C := Lib.hid (in78 w S R cb s h hc (in79 w S R s h hf))
    clear h hf hc
    go_enter Tryd.func73, Tryd.ntmps73
    go_wp2_with fail
    refine Calls.mono C.out ?_
    rintro e w1 ⟨v, f, rfl, u, huv, hcase, hk⟩
    have huv2 : v = u := by
      obtain ⟨a1, n1, c1⟩ := v
      obtain ⟨a2, n2, c2⟩ := u
      injection huv with e1 e2 e3
      subst e1 e2 e3
      rfl
    subst huv2
    have HK := Lib.hid hk
    rcases hcase with ⟨hf, rfl, e1, e2, hs⟩ | ⟨rfl, hd, hnw, hs⟩
    · have hf2 : (f == 0) = false := by simp [hf]
      have p1 := hs.cell1
      have z1 := hs.free1
      have HS := Lib.hid hs
      have E1 := Lib.hid e1
      have E2 := Lib.hid e2
      clear hs e1 e2 hk hf huv
      go_wp2_with fail
      go_ret
      refine ⟨⟨none, 0, 0⟩, rfl, by rw [E1.out]; exact dt_nil _, (fun ad e => by cases e), by rw [E2.out]; exact HS.out.fault f, ?_⟩
      exact HK.out.trans (Kept.sf ((Kept.refl _ _).setCell _ _ (fun _ => rfl))) (fun _ _ h => h)
    · have HS := Lib.hid hs
      have HD := Lib.hid hd
      have HN := Lib.hid hnw
      clear hs hd hnw hk huv
      go_wp2_with fail
      go_ret
      exact ⟨v, rfl, HD.out, HN.out, HS.out, HK.out⟩
  · have hf2 : (s.f == 0) = false := by simp [hf]
    have e1 : pDt s = ([], s) := by simp [pDt, hf]
    rw [e1]
    clear h hf hc
    go_enter Tryd.func73, Tryd.ntmps73
    go_wp2_with fail
    go_ret
    exact ⟨⟨none, 0, 0⟩, rfl, dt_nil _, (fun ad e => by cases e), H.out, Kept.refl _ _⟩
end Go.Proofs.YtmkeckablkccnaaDoor
