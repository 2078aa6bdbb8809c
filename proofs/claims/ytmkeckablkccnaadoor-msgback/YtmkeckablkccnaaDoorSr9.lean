/- Whatever part is read; what is read is in range. -/
import Derived.Test.YtmkeckablkccnaaDoorSr8
namespace Go.Proofs.YtmkeckablkccnaaDoor
open Go.RowKit
set_option maxRecDepth 100000

theorem read_any (p : Int) (hp : 0 ≤ p ∧ p ≤ 10) (w : World) (S R M : Nat) (s : Sr) (m : Mg) (c : Mc) (x : Mq) (h : Sat w S R s) (hm : MqAt w M m c x) (hS : S < M) (hR : R < M) :
    Calls Tryd.prog 37 #[.pointer (some ⟨S, 0, none⟩), .pointer (some ⟨M, 0, none⟩), .int .u8 p] w fun e w' => e = .returned (.tuple #[]) ∧ ∃ m' c', MqAt w' M m' c' (pPart p x s).1 ∧ Sat w' S R (pPart p x s).2 ∧ Kept (SRM S R M) w w' := by
  have hc : p = 0 ∨ p = 1 ∨ p = 2 ∨ p = 3 ∨ p = 4 ∨ p = 5 ∨ p = 6 ∨ p = 7 ∨ p = 8 ∨ p = 9 ∨ p = 10 := by omega
  rcases hc with rfl | rfl | rfl | rfl | rfl | rfl | rfl | rfl | rfl | rfl | rfl
  · exact read0 w S R M s m c x h hm hS hR
  · exact read1 w S R M s m c x h hm hS hR
  · exact read2 w S R M s m c x h hm hS hR
  · exact read3 w S R M s m c x h hm hS hR
  · exact read4p w S R M s m c x h hm hS hR
  · exact read5 w S R M s m c x h hm hS hR
  · exact read6 w S R M s m c x h hm hS hR
  · exact read7 w S R M s m c x h hm hS hR
  · exact read8 w S R M s m c x h hm hS hR
  · exact read9 w S R M s m c x h hm hS hR
  · exact read10 w S R M s m c x h hm hS hR

def SrOk (s : Sr) : Prop := ∀ x ∈ s.l, isByte x
theorem SrOk.at {s : Sr} (h : SrOk s) (i : Nat) : isByte (s.l.getD i 0) := by
  rw [List.getD_eq_getElem?_getD]
  rcases Nat.lt_or_ge i s.l.length with hi | hi
  · rw [List.getElem?_eq_getElem hi]; exact h _ (List.getElem_mem hi)
  · rw [List.getElem?_eq_none hi]; exact ⟨by decide, by decide⟩
theorem gN_ok {s : Sr} (k : Nat) (num : List Int → Int) (h : SrOk s) : SrOk (gN k num s).2 := by
  unfold gN
  split
  · split
    · intro x hx; exact h x (List.mem_of_mem_drop hx)
    · exact h
  · exact h
theorem gN_in {s : Sr} (k : Nat) (num : List Int → Int) (lo hi : Int) (h0 : lo ≤ 0 ∧ 0 ≤ hi) (hn : lo ≤ num s.l ∧ num s.l ≤ hi) : lo ≤ (gN k num s).1 ∧ (gN k num s).1 ≤ hi := by
  unfold gN
  split
  · split
    · exact hn
    · exact h0
  · exact h0
theorem p8_in {s : Sr} (h : SrOk s) : 0 ≤ (p8 s).1 ∧ (p8 s).1 ≤ 255 := gN_in 1 _ 0 255 (by decide) (h.at 0)
theorem p16_in {s : Sr} (h : SrOk s) : 0 ≤ (p16 s).1 ∧ (p16 s).1 ≤ 65535 := gN_in 2 _ 0 65535 (by decide) (two_bytes (h.at 0) (h.at 1))
theorem p32_in {s : Sr} (h : SrOk s) : 0 ≤ (p32 s).1 ∧ (p32 s).1 ≤ 4294967295 := gN_in 4 _ 0 4294967295 (by decide) (by
  have a := two_bytes (h.at 0) (h.at 1)
  have b := two_bytes (h.at 2) (h.at 3)
  unfold rd32
  omega)
theorem pRq_ok {s : Sr} (h : SrOk s) : (pRq s).1.ok ∧ SrOk (pRq s).2 := by
  have h1 : SrOk (p8 s).2 := gN_ok 1 _ h
  have h2 : SrOk (p32 (p8 s).2).2 := gN_ok 4 _ h1
  have h3 : SrOk (p8 (p32 (p8 s).2).2).2 := gN_ok 1 _ h2
  have h4 : SrOk (p8 (p8 (p32 (p8 s).2).2).2).2 := gN_ok 1 _ h3
  have h5 : SrOk (p16 (p8 (p8 (p32 (p8 s).2).2).2).2).2 := gN_ok 2 _ h4
  refine ⟨?_, h5⟩
  have a := p8_in h
  have b := p32_in h1
  have c := p8_in h2
  have d := p8_in h3
  have e := p16_in h4
  unfold Rq.ok pRq
  simp only
  exact ⟨a, b, c, d, e⟩
theorem pMk_ok {s : Sr} (h : SrOk s) : SrOk (pMk s).2 := gN_ok 8 _ (gN_ok 4 _ h)
theorem pEn_ok {s : Sr} (h : SrOk s) : (pEn s).1.rq.ok ∧ SrOk (pEn s).2 := pRq_ok (gN_ok 4 _ (gN_ok 4 _ h))
theorem pN_ok {α : Type} {one : Sr → α × Sr} {P : α → Prop} (h1 : ∀ s, SrOk s → P (one s).1 ∧ SrOk (one s).2) (s : Sr) (h : SrOk s) (j : Nat) : (∀ x ∈ (pN one s j).1, P x) ∧ SrOk (pN one s j).2 := by
  induction j with
  | zero => exact ⟨fun x hx => (by cases hx), h⟩
  | succ j ih =>
    obtain ⟨a, b⟩ := h1 _ ih.2
    refine ⟨fun x hx => ?_, b⟩
    simp only [pN, List.mem_append, List.mem_singleton] at hx
    rcases hx with hx | rfl
    · exact ih.1 x hx
    · exact a
theorem pL_ok {α : Type} {one : Sr → α × Sr} {P : α → Prop} (h1 : ∀ s, SrOk s → P (one s).1 ∧ SrOk (one s).2) (n most : Nat) (s : Sr) (h : SrOk s) : (∀ x ∈ (pL one n most s).1, P x) ∧ SrOk (pL one n most s).2 := by
  unfold pL
  split
  · split
    · exact pN_ok h1 s h n
    · exact ⟨fun x hx => (by cases hx), h⟩
  · exact ⟨fun x hx => (by cases hx), h⟩
theorem pVt_ok {s : Sr} (h : SrOk s) : VcOk (pVt s).1.c ∧ SrOk (pVt s).2 := by
  have h4 : SrOk (p32 (p32 (p8 (p8 s).2).2).2).2 := gN_ok 4 _ (gN_ok 4 _ (gN_ok 1 _ (gN_ok 1 _ h)))
  have h5 : SrOk (p8 (p32 (p32 (p8 (p8 s).2).2).2).2).2 := gN_ok 1 _ h4
  have h6 := (pL_ok (one := pMk) (P := fun _ => True) (fun s hs => ⟨trivial, pMk_ok hs⟩) (p8 (p32 (p32 (p8 (p8 s).2).2).2).2).1.toNat 40 _ h5).2
  have h7 := gN_ok 1 (fun l => l.getD 0 0) h6
  have h8 := pL_ok (one := pEn) (P := fun x => x.rq.ok) (fun s hs => pEn_ok hs) (p8 (pL pMk (p8 (p32 (p32 (p8 (p8 s).2).2).2).2).1.toNat 40 (p8 (p32 (p32 (p8 (p8 s).2).2).2).2).2).2).1.toNat 40 _ h7
  have h9 := gN_ok 1 (fun l => l.getD 0 0) h8.2
  have h10 := pL_ok (one := pEn) (P := fun x => x.rq.ok) (fun s hs => pEn_ok hs) (p8 (pL pEn (p8 (pL pMk (p8 (p32 (p32 (p8 (p8 s).2).2).2).2).1.toNat 40 (p8 (p32 (p32 (p8 (p8 s).2).2).2).2).2).2).1.toNat 40 (p8 (pL pMk (p8 (p32 (p32 (p8 (p8 s).2).2).2).2).1.toNat 40 (p8 (p32 (p32 (p8 (p8 s).2).2).2).2).2).2).2).2).1.toNat 40 _ h9
  exact ⟨⟨h8.1, h10.1⟩, h10.2⟩
def MqOk (x : Mq) : Prop := VcOk x.vt.c ∧ ∀ v ∈ x.vs, VcOk v.c
theorem pDt_ok {s : Sr} (h : SrOk s) : SrOk (pDt s).2 := by
  unfold pDt
  split
  · split
    · split
      · exact h
      · split
        · intro x hx; exact h x (List.mem_of_mem_drop hx)
        · exact h
    · exact h
  · exact h
theorem pPart_ok {x : Mq} {s : Sr} (p : Int) (hx : MqOk x) (h : SrOk s) : MqOk (pPart p x s).1 ∧ SrOk (pPart p x s).2 := by
  unfold pPart
  split
  · exact ⟨hx, gN_ok 4 _ h⟩
  split
  · exact ⟨hx, gN_ok 4 _ h⟩
  split
  · exact ⟨hx, (pRq_ok h).2⟩
  split
  · exact ⟨hx, gN_ok 8 _ h⟩
  split
  · exact ⟨hx, gN_ok 1 _ h⟩
  split
  · exact ⟨hx, gN_ok 1 _ h⟩
  split
  · exact ⟨hx, gN_ok 4 _ h⟩
  split
  · exact ⟨⟨(pVt_ok h).1, hx.2⟩, (pVt_ok h).2⟩
  split
  · have := pL_ok (one := pVt) (P := fun v => VcOk v.c) (fun s hs => pVt_ok hs) (p8 s).1.toNat 4 (p8 s).2 (gN_ok 1 _ h)
    exact ⟨⟨hx.1, this.1⟩, this.2⟩
  split
  · exact ⟨hx, (pL_ok (one := p64) (P := fun _ => True) (fun s hs => ⟨trivial, gN_ok 8 _ hs⟩) 8 8 s h).2⟩
  · exact ⟨hx, pDt_ok h⟩
theorem MqAt.ok {w : World} {M : Nat} {m : Mg} {c : Mc} {x : Mq} (h : MqAt w M m c x) (hx : MqOk x) : McOk c := by
  refine ⟨?_, fun y hy => ?_⟩
  · have := hx.1
    rw [← h.vt] at this
    exact this
  · have : toVp y ∈ x.vs := by rw [← h.vs]; exact List.mem_map_of_mem hy
    exact hx.2 _ this
end Go.Proofs.YtmkeckablkccnaaDoor
