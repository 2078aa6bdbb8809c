/- Play; rows of u32 that the call made. -/
import Derived.Test.YtphakceboohbhaaAr
import Derived.Test.YtphakceboohbhaaTk
namespace Go.Proofs.Ytphakceboohbhaa
open Go.RowKit
set_option maxRecDepth 100000

/-- all its numbers are in range -/
def GS (s : Sv) : Prop := GV s ∧ (∀ i, 0 ≤ s.T i ∧ s.T i ≤ 4294967295) ∧ (∀ i, 0 ≤ s.R i ∧ s.R i ≤ 4294967295)
theorem gs0 : GS s0 := ⟨gv0, fun _ => by simp [s0, nul], fun _ => by simp [s0, nul]⟩
theorem GS.ap {s : Sv} (h : GS s) {r : Rq} (hr : r.ok) : GS (apS s r) := by
  refine ⟨h.1.ap hr, ?_, ?_⟩
  · unfold apS
    split
    · intro i
      show 0 ≤ upd s.T _ _ i ∧ upd s.T _ _ i ≤ 4294967295
      unfold upd
      split
      · exact hr.2.1
      · exact h.2.1 i
    · exact h.2.1
  · unfold apS
    split
    · intro i
      show 0 ≤ upd s.R _ _ i ∧ upd s.R _ _ i ≤ 4294967295
      unfold upd
      split
      · have := hr.2.2.2.2
        have := h.1 r.y.toNat
        unfold doR
        split
        · omega
        · split <;> omega
      · exact h.2.2 i
    · exact h.2.2
theorem ap_false {s : Sv} {r : Rq} (h : apB s r = false) : apR s r = 0 := by
  unfold apB at h
  simp only [Bool.or_eq_false_iff] at h
  unfold apR oldR
  rw [h.1, h.2]
  rfl

/-- the map behind the first k requests; what the k-th is told -/
def stS (l : List Rq) : Nat → Sv
  | 0 => s0
  | k + 1 => match l[k]? with
    | some r => apS (stS l k) r
    | none => stS l k
def outR (l : List Rq) (k : Nat) : Int := match l[k]? with
  | some r => apR (stS l k) r
  | none => 0
theorem stS_next {l : List Rq} {k : Nat} {r : Rq} (h : l[k]? = some r) : stS l (k + 1) = apS (stS l k) r := by
  show (match l[k]? with | some r => apS (stS l k) r | none => stS l k) = _
  rw [h]
theorem outR_at {l : List Rq} {k : Nat} {r : Rq} (h : l[k]? = some r) : outR l k = apR (stS l k) r := by unfold outR; rw [h]
theorem stS_good {l : List Rq} (h : ∀ r ∈ l, r.ok) : ∀ k, GS (stS l k)
  | 0 => gs0
  | k + 1 => by
    cases e : l[k]? with
    | none => show GS (match l[k]? with | some r => apS (stS l k) r | none => stS l k); rw [e]; exact stS_good h k
    | some r => rw [stS_next e]; exact (stS_good h k).ap (h r (List.mem_of_getElem? e))

/-- a request of a row that came in -/
theorem rq_cell {w : World} {a : Option Addr} {n cap : Nat} {xs : List Rq} (h : RowU w 5 Rq.cells (.slice a n cap) xs) {i : Nat} {r : Rq} (hx : xs[i]? = some r) :
    ∃ b off, a = some ⟨b, off, none⟩ ∧ ∀ w', Below w.heap.size w w' → w'.cell? ⟨b, off + i * 5, none⟩ = some (.int .u8 r.c) ∧ w'.cell? ⟨b, off + i * 5 + 1, none⟩ = some (.int .u32 r.t) ∧ w'.cell? ⟨b, off + i * 5 + 2, none⟩ = some (.int .u8 r.k) ∧ w'.cell? ⟨b, off + i * 5 + 3, none⟩ = some (.int .u8 r.y) ∧ w'.cell? ⟨b, off + i * 5 + 4, none⟩ = some (.int .u16 r.v) := by
  obtain ⟨ao, c, e, _, _, _, h⟩ := h
  injection e with e1 _ _
  subst e1
  obtain ⟨b, off, e2, h2⟩ := h i r hx
  refine ⟨b, off, e2, fun w' hk => ?_⟩
  have hc : ∀ i' u, r.cells[i']? = some u → w'.cell? ⟨b, off + i * 5 + i', none⟩ = some u := fun i' u hu => by
    have h3 := h2 i' u hu
    rw [← h3]
    exact World.cell?_of_block (hk.block _ (cell_block h3))
  exact ⟨hc 0 _ rfl, hc 1 _ rfl, hc 2 _ rfl, hc 3 _ rfl, hc 4 _ rfl⟩

theorem info29 : (Try.prog.info? 29).map (fun i => (i.zero, i.size, i.bytes)) = some (some (.int .u32 0), 1, 4) := by kernel_rfl
theorem make_row (w : World) (n : Nat) (hn : n ≤ 1000000) : ∃ w1, (Instr.makeSlice 33 (.int .i64 (n : Int)) (.int .i64 (n : Int))).run Try.prog w = .ok (.slice (some ⟨w.heap.size, 0, none⟩) n n) w1 ∧ (∃ cur : List Value, w1.heap[w.heap.size]? = some (.cells cur.toArray 29 (0, 0)) ∧ cur.length = n) ∧ Below w.heap.size w w1 := by
  obtain ⟨i0, hi0, hz0, hz1, hz2⟩ := info_parts info29
  obtain ⟨w1, hmk, ho, hgr⟩ := run_make_full (P := Try.prog) w 0 33 29 i0 _ 1 Try.underlying33 hi0 hz0 hz1 .i64 .i64 n (by rw [hz2]; omega) (by simp only [maxLen]; omega) (Nat.zero_le _)
  refine ⟨w1, hmk, ?_, (Kept.ofGrown hgr).below (Nat.le_refl _) (fun k h => by cases h)⟩
  rcases ho.2 with ⟨h, _⟩ | ⟨g, cap, cur, hv, _, hg, _, _, hs, _⟩
  · cases h
  · injection hv with h1 h2 h3
    injection h1 with h1
    injection h1 with h1
    subst h1 h3
    exact ⟨cur.toList, by simpa using hg, by simpa using hs⟩

/-- the first k results lie in block g -/
def Gu (w : World) (g n : Nat) (l : List Rq) (k : Nat) : Prop := ∃ cur : List Value, w.heap[g]? = some (.cells cur.toArray 29 (0, 0)) ∧ cur.length = n ∧ ∀ i, i < k → cur[i]? = some (.int .u32 (outR l i))
theorem Gu.lt {w : World} {g n k : Nat} {l : List Rq} (h : Gu w g n l k) : g < w.heap.size := by obtain ⟨_, h, _⟩ := h; exact lt_of_block h
theorem Gu.kept {S : Nat → Prop} {w w' : World} {g n k : Nat} {l : List Rq} (h : Gu w g n l k) (hk : Kept S w w') (hg : ¬ S g) : Gu w' g n l k := by
  obtain ⟨cur, h1, h2⟩ := h
  exact ⟨cur, by rw [hk.block g (lt_of_block h1) hg]; exact h1, h2⟩
theorem Gu.below {w w' : World} {g n k : Nat} {l : List Rq} (h : Gu w g n l k) (hk : Below w.heap.size w w') : Gu w' g n l k := h.kept (Kept.ofBelow (S := fun _ => False) hk) (fun h => h)
theorem Gu.cell {w : World} {g n k : Nat} {l : List Rq} (h : Gu w g n l k) (i : Nat) (hi : i < k) : w.cell? ⟨g, i, none⟩ = some (.int .u32 (outR l i)) := by
  obtain ⟨cur, h1, h2, h3⟩ := h
  rw [cell_of_row w g i _ 29 (0, 0) h1]
  simpa using h3 i hi
theorem Gu.any {w : World} {g n k : Nat} {l : List Rq} (h : Gu w g n l k) (i : Nat) (hi : i < n) : (∃ u, w.cell? ⟨g, i, none⟩ = some u) ∧ w.frozen? ⟨g, i, none⟩ = false := by
  obtain ⟨cur, h1, h2, h3⟩ := h
  refine ⟨⟨cur[i]'(by omega), ?_⟩, frozen_of_row w g i _ 29 h1⟩
  rw [cell_of_row w g i _ 29 (0, 0) h1]
  simp
theorem Gu.set {w : World} {g n k : Nat} {l : List Rq} (h : Gu w g n l k) (hk : k < n) : Gu (w.setCell ⟨g, k, none⟩ (.int .u32 (outR l k))) g n l (k + 1) := by
  obtain ⟨cur, h1, h2, h3⟩ := h
  refine ⟨cur.set k (.int .u32 (outR l k)), ?_, by simp [h2], fun i hi => ?_⟩
  · rw [heap_setCell_same w g k _ 29 _ h1]
    simp
  · rw [List.getElem?_set]
    by_cases e : k = i
    · subst e; simp; omega
    · rw [if_neg e]; exact h3 i (by omega)

/-- Play's loop: the map at A, the results at g -/
def YI (w wr : World) (A g n : Nat) (l : List Rq) (k : Nat) : Prop := MI w wr A (stS l k) ∧ Gu wr g n l k ∧ w.heap.size ≤ g ∧ A ≠ g

set_option maxHeartbeats 16000000 in
theorem play_any (av : Option Addr) (n cv : Nat) (l : List Rq) (w0 w : World) (hb0 : Below w0.heap.size w0 w) (hr : RowU w0 5 Rq.cells (.slice av n cv) l) (hn : l.length = n) (hok : ∀ r ∈ l, r.ok) (hl : n ≤ 80) :
    Calls Try.prog 17 #[.slice av n cv] w fun e w' => ∃ A g, e = .returned (.tuple #[.pointer (some ⟨A, 0, none⟩), .slice (some ⟨g, 0, none⟩) n n]) ∧ YI w w' A g n l n := by
  have HR := Lib.hid (And.intro hr (And.intro hn (And.intro hok (And.intro hl hb0))))
  have NW := Lib.hid (new_mi w w (Below.refl _ _))
  clear hr hn hok hl hb0
  go_enter Try.func17, Try.ntmps17
  go_wp2_with fail
  refine NW.out.mono ?_
  rintro e w2 ⟨rfl, m2, -⟩
  obtain ⟨w3, mk, hcur, b3⟩ := make_row w2 n (by have := HR.out.2.2.2.1; omega)
  have K0 : Hid (YI w w3 w.heap.size w2.heap.size n l 0) := Lib.hid ⟨m2.below b3, by obtain ⟨cur, h1, h2⟩ := hcur; exact ⟨cur, h1, h2, fun i h => by omega⟩, m2.2.2.1.size, by have := m2.1.lt; omega⟩
  clear m2 hcur b3 NW
  generalize w.heap.size = A at *
  generalize w2.heap.size = g at *
  go_wp2_with fail
  go_loopw [14] (fun v14 wr => ∃ k : Nat, v14 = .int .i64 k ∧ k ≤ n ∧ Hid (YI w wr A g n l k)) (fun v14 _ => n - (intOf v14).toNat)
  case atStart => exact ⟨0, rfl, by omega, K0⟩
  case round =>
    obtain ⟨k, rfl, hk, I⟩ := hrel
    by_cases hlt : k < n
    · have hlt' : (k : Int) < n := by omega
      have hk80 : (k : Int) < 80 := by have := HR.out.2.2.2.1; omega
      obtain ⟨⟨c, t, kk, y, v⟩, hr⟩ : ∃ r, l[k]? = some r := ⟨_, List.getElem?_eq_getElem (by have := HR.out.2.1; omega)⟩
      have hok := HR.out.2.2.1 _ (List.mem_of_getElem? hr)
      obtain ⟨b, off, hav, hcell⟩ := rq_cell HR.out.1 hr
      subst hav
      have bw : Below w0.heap.size w0 wr := HR.out.2.2.2.2.trans (I.out.1.2.2.1.mono HR.out.2.2.2.2.size)
      obtain ⟨q0, q1, q2, q3, q4⟩ := hcell wr bw
      simp only at q0 q1 q2 q3 q4
      obtain ⟨w5, hw5⟩ : ∃ w5, wr.alloc (.cells #[.int .u8 c, .int .u32 t, .int .u8 kk, .int .u8 y, .int .u16 v] 38) = w5 := ⟨_, rfl⟩
      have b5 : Below wr.heap.size wr w5 := by rw [← hw5]; exact (Below.refl _ _).alloc (Nat.le_refl _) _
      have AP0 := ap_mi (I.out.1.below b5) c t kk y v (stS l (k + 1)) (outR l k) _ hok (stS_next hr).symm (outR_at hr).symm rfl
      generalize apB (stS l k) ⟨c, t, kk, y, v⟩ = bb at AP0
      have AP := Lib.hid AP0
      have M5 := Lib.hid (And.intro (I.out.2.1.below b5) I.out.2.2)
      replace hw5 := Lib.hid hw5
      clear hok hcell bw b5 AP0 hr
      go_wp2_with fail
      rw [hw5.out]
      refine AP.out.mono ?_
      rintro e w6 ⟨rfl, m6, k6⟩
      have G6 := M5.out.1.kept k6 (fun e => M5.out.2.2 e.symm)
      obtain ⟨⟨u, c6⟩, f6⟩ := G6.any k hlt
      have HY : YI w (w6.setCell ⟨g, k, none⟩ (.int .u32 (outR l k))) A g n l (k + 1) :=
        ⟨⟨Mp.kept (S := fun i => i = g) m6.1 ((Kept.refl _ w6).setCell _ _ (fun _ => rfl)) M5.out.2.2, m6.2.1, m6.2.2.1.setCell M5.out.2.1 _, m6.2.2.2⟩, G6.set hlt, M5.out.2⟩
      replace HY := Lib.hid HY
      clear AP M5 m6 k6 G6 hw5 q0 q1 q2 q3 q4
      generalize outR l k = x at *
      go_wp2_with fail
      exact ⟨⟨k + 1, by go_num, by omega, HY⟩, by simp [intOf]; omega⟩
    · obtain rfl : k = n := by omega
      go_wp2_with fail
      exact bodyPost_ret (v := .tuple #[.pointer (some ⟨A, 0, none⟩), .slice (some ⟨g, 0, none⟩) k k]) (by simp [results, Try.results17, go_sem]) rfl ⟨A, g, rfl, I.out⟩
end Go.Proofs.Ytphakceboohbhaa
