/- The votes of a new view: whether they fit. The bytes of votes. The bytes of every message. Messages of each kind: that they are, and with a word too much or from whom they cannot be, that they are not. A request, a mark, an entry are read. Lists are read. A vote is read. Votes are read, one behind the other. The bytes of a page are read. A part of a message is read. Requests, votes within a message are read. Whatever part is read; what is read is in range. Decode, of whatever bytes. What is read well off some bytes is read so with more behind them. What was written is read. What was encoded is decoded: the bytes of a message are read as that message. A row of bytes of the call's own that grows; the document's Put onto it; append in a region that draws its order. A growing row beside a block; the document's req. The document's list of entries. -/
import Derived.Test.YtbpfkeeikhhlnaaGreatDoorC06
import Derived.Test.YtbpfkeeikhhlnaaGreatDoorC03
import Derived.Test.YtbpfkeeikhhlnaaGreatDoorC05
import Derived.Laws.MakeOwn
import Derived.Deep.RegionHeld3
import Derived.Test.YtbpfkeeikhhlnaaGreatDoorC01
namespace Go.Proofs.YtbpfkeeikhhlnaaGreatDoor
open Go.RowKit
set_option maxRecDepth 100000

def vAny (_ : Vt × Vc) : Bool := true
def vAb (x y : Vt × Vc) : Bool := decide (y.1.f < x.1.f)
def vBad (n : Int) (x : Vt × Vc) : Bool := !decide (x.1.vw = n) || !voteB x.1 x.2
/-- P3.1: four at most, by their senders, each a vote for that view -/
def fitVsB (l : List (Vt × Vc)) (n : Int) : Bool := decide (l.length ≤ 4) && ((List.range l.length).all (stepB vAny vAb l) && !l.any (vBad n))

theorem vt_load {w' : World} {b o : Nat} {x : Vt} (G : ∀ i u, x.cells[i]? = some u → w'.cell? ⟨b, o + i, none⟩ = some u) : (Instr.loadAt 32 (.pointer (some ⟨b, o, none⟩))).run Tryz.prog w' = .ok (.agg x.cells.toArray) w' := by
  have q0 : w'.cell? ⟨b, o, none⟩ = some (.int .u8 x.f) := G 0 _ rfl
  have q1 : w'.cell? ⟨b, o + 1, none⟩ = some (.int .u8 x.e) := G 1 _ rfl
  have q2 : w'.cell? ⟨b, o + 2, none⟩ = some (.int .u32 x.vw) := G 2 _ rfl
  have q3 : w'.cell? ⟨b, o + 3, none⟩ = some (.int .u32 x.lo) := G 3 _ rfl
  have q4 : w'.cell? ⟨b, o + 4, none⟩ = some (.slice x.ms.a x.ms.n x.ms.c) := G 4 _ rfl
  have q5 : w'.cell? ⟨b, o + 5, none⟩ = some (.slice x.p.a x.p.n x.p.c) := G 5 _ rfl
  have q6 : w'.cell? ⟨b, o + 6, none⟩ = some (.slice x.q.a x.q.n x.q.c) := G 6 _ rfl
  have a32 := Tryz.isAgg32; have z32 := Tryz.sizeOf32; have u32 := Tryz.underlying32
  simp only [Vt.cells]
  go_simp

set_option maxHeartbeats 2000000 in
theorem bad_any (w : World) (g : Nat) (n : Int) (x : Vt) (c : Vc) (hg : w.cell? ⟨g, 0, none⟩ = some (.int .u32 n)) (hv : VtAt w x c) (hok : VcOk c) (ht : Tab w) :
    Calls Tryz.prog 99 #[.agg x.cells.toArray, .pointer (some ⟨g, 0, none⟩)] w fun e w' => e = .returned (.bool (vBad n (x, c))) ∧ Below w.heap.size w w' := by
  obtain ⟨r, hr⟩ : ∃ r, r = vBad n (x, c) := ⟨_, rfl⟩
  rw [← hr]
  unfold vBad at hr
  simp only at hr
  obtain ⟨W, hW⟩ : ∃ W, W = w.alloc (.cells x.cells.toArray 32) := ⟨_, rfl⟩
  have hbl := bl1 hW
  have hn : W.heap[w.heap.size]? = some (.cells x.cells.toArray 32 (0, 0)) := by rw [hW]; exact heap_alloc_new _ _
  have C := Lib.hid (isVote_any W x c (hv.below hbl) hok (Tab.on ht hbl))
  have qg := (hbl.cell (p := ⟨g, 0, none⟩) (cell_block hg)).trans hg
  have q0 : W.cell? ⟨w.heap.size, 0, none⟩ = some (.int .u8 x.f) := by rw [cell_of_row _ _ _ _ _ _ hn]; rfl
  have q1 : W.cell? ⟨w.heap.size, 1, none⟩ = some (.int .u8 x.e) := by rw [cell_of_row _ _ _ _ _ _ hn]; rfl
  have q2 : W.cell? ⟨w.heap.size, 2, none⟩ = some (.int .u32 x.vw) := by rw [cell_of_row _ _ _ _ _ _ hn]; rfl
  have q3 : W.cell? ⟨w.heap.size, 3, none⟩ = some (.int .u32 x.lo) := by rw [cell_of_row _ _ _ _ _ _ hn]; rfl
  have q4 : W.cell? ⟨w.heap.size, 4, none⟩ = some (.slice x.ms.a x.ms.n x.ms.c) := by rw [cell_of_row _ _ _ _ _ _ hn]; rfl
  have q5 : W.cell? ⟨w.heap.size, 5, none⟩ = some (.slice x.p.a x.p.n x.p.c) := by rw [cell_of_row _ _ _ _ _ _ hn]; rfl
  have q6 : W.cell? ⟨w.heap.size, 6, none⟩ = some (.slice x.q.a x.q.n x.q.c) := by rw [cell_of_row _ _ _ _ _ _ hn]; rfl
  generalize voteB x c = vb at C hr
  have HR := Lib.hid hr
  have HBL := Lib.hid hbl
  have HW := Lib.hid hW
  clear hr hbl hW hn hv hok ht hg
  simp only [Vt.cells] at HW C ⊢
  go_enter Tryz.func99, Tryz.ntmps99
  go_upto_region 1 with fail
  rw [← HW.out]
  clear HW
  by_cases h : x.vw = n
  · subst h
    go_wp2_with fail
    refine Calls.mono C.out ?_
    rintro e w1 ⟨rfl, hb⟩
    have HB := Lib.hid (HBL.out.trans (hb.mono HBL.out.size))
    clear hb
    go_wp2_with fail
    go_ret
    exact ⟨by rw [HR.out]; simp, HB.out⟩
  · have d : (x.vw == n) = false := by simp [h]
    have H := Lib.hid h
    clear h
    go_wp2_with fail
    go_ret
    exact ⟨by rw [HR.out]; simp [H.out], HBL.out⟩

theorem any_up {α : Type} {p : α → Bool} {xs : List α} (h : ∀ (i : Nat) x, xs[i]? = some x → p x = false) : xs.any p = false := by
  rw [List.any_eq_false]
  intro x hx
  obtain ⟨i, hi⟩ := List.mem_iff_getElem?.1 hx
  simp [h i x hi]
theorem any_at {α : Type} {p : α → Bool} {xs : List α} {i : Nat} {x : α} (h : xs[i]? = some x) (hp : p x = true) : xs.any p = true := by
  rw [List.any_eq_true]
  exact ⟨x, List.mem_of_getElem? h, hp⟩

set_option maxHeartbeats 4000000 in
theorem indexBad_any (w : World) (g : Nat) (n : Int) (v : Sl) (xs : List (Vt × Vc)) (hg : w.cell? ⟨g, 0, none⟩ = some (.int .u32 n)) (h1 : VsAt w v xs) (hok : ∀ x ∈ xs, VcOk x.2) (ht : Tab w) :
    Calls Tryz.prog 115 #[.slice v.a v.n v.c, .func (.func 99) #[] #[.pointer (some ⟨g, 0, none⟩)]] w fun e w' => ∃ k : Int, e = .returned (.int .i64 k) ∧ -1 ≤ k ∧ k ≤ 1000000 ∧ decide (0 ≤ k) = xs.any (vBad n) ∧ Below w.heap.size w w' := by
  have M1 := Lib.hid h1.2
  obtain ⟨⟨a1, c1, q1, -, -, hn1, hr1⟩, -⟩ := h1
  simp only [Sl.val] at q1
  rw [q1]
  clear q1
  have H1 := Lib.hid hr1
  have CB := Lib.hid (fun w' x c (h : Below w.heap.size w w') (hx : (x, c) ∈ xs) => bad_any w' g n x c ((h.cell (cell_block hg)).trans hg) ((M1.out _ hx).below h) (hok _ hx) (Tab.on ht h))
  clear hr1 hok ht hg
  generalize hn : xs.length = m at *
  have HN := Lib.hid hn
  clear hn
  go_enter Tryz.func115, Tryz.ntmps115
  go_wp2_with fail
  go_loopw [8] (fun vi wr => ∃ j : Nat, j ≤ m ∧ vi = .int .i64 j ∧ Hid (Below w.heap.size w wr) ∧ Hid (∀ (i : Nat) x, i < j → xs[i]? = some x → vBad n x = false)) (fun i _ => m - (intOf i).toNat)
  case atStart => exact ⟨0, by omega, rfl, Lib.hid (Below.refl _ _), Lib.hid (fun i _ h => by omega)⟩
  case round =>
    obtain ⟨j, hj, rfl, HB, A⟩ := hrel
    by_cases hlt : j < m
    · obtain ⟨x, hx⟩ : ∃ x, xs[j]? = some x := ⟨_, List.getElem?_eq_getElem (by rw [HN.out]; exact hlt)⟩
      obtain ⟨b1, o1, e1, g1⟩ := H1.out j x hx
      have G : ∀ i u, (vcell x)[i]? = some u → wr.cell? ⟨b1, o1 + j * 7 + i, none⟩ = some u := fun i u hu => by
        have h3 := g1 i u hu
        rw [HB.out.cell (cell_block h3)]; exact h3
      obtain ⟨x, c⟩ := x
      have C := Lib.hid (CB.out wr x c HB.out (List.mem_of_getElem? hx))
      have HX := Lib.hid hx
      have l10 : wr.cell? ⟨b1, o1 + j * 7, none⟩ = some (.int .u8 x.f) := G 0 _ rfl
      have l11 : wr.cell? ⟨b1, o1 + j * 7 + 1, none⟩ = some (.int .u8 x.e) := G 1 _ rfl
      have l12 : wr.cell? ⟨b1, o1 + j * 7 + 2, none⟩ = some (.int .u32 x.vw) := G 2 _ rfl
      have l13 : wr.cell? ⟨b1, o1 + j * 7 + 3, none⟩ = some (.int .u32 x.lo) := G 3 _ rfl
      have l14 : wr.cell? ⟨b1, o1 + j * 7 + 4, none⟩ = some (.slice x.ms.a x.ms.n x.ms.c) := G 4 _ rfl
      have l15 : wr.cell? ⟨b1, o1 + j * 7 + 5, none⟩ = some (.slice x.p.a x.p.n x.p.c) := G 5 _ rfl
      have l16 : wr.cell? ⟨b1, o1 + j * 7 + 6, none⟩ = some (.slice x.q.a x.q.n x.q.c) := G 6 _ rfl
      generalize hs : vBad n (x, c) = sb at C
      have HS := Lib.hid hs
      simp only [Vt.cells] at C
      clear hx g1 G hs
      subst e1
      go_wp2_with fail
      refine Calls.mono C.out ?_
      rintro e w1 ⟨rfl, hb⟩
      have HB1 := Lib.hid (HB.out.trans (hb.mono HB.out.size))
      clear hb
      cases sb
      · go_wp2_with fail
        go_round
        case measure => simp [intOf]; omega
        case rel =>
          refine ⟨j + 1, by omega, by go_num, HB1, Lib.hid (fun i y hi hy => ?_)⟩
          by_cases e : i = j
          · subst e; rw [HX.out] at hy; injection hy with hy; subst hy; exact HS.out
          · exact A.out i y (by omega) hy
      · go_wp2_with fail
        go_ret
        refine ⟨j, rfl, by omega, by omega, ?_, HB1.out⟩
        rw [any_at HX.out HS.out]; simp
    · obtain rfl : j = m := by omega
      go_wp2_with fail
      go_ret
      refine ⟨-1, rfl, by omega, by omega, ?_, HB.out⟩
      rw [any_up (fun i x hx => A.out i x (by rw [← HN.out]; exact (List.getElem?_eq_some_iff.1 hx).1) hx)]; rfl

set_option maxHeartbeats 2000000 in
theorem containsBad_any (w : World) (g : Nat) (n : Int) (v : Sl) (xs : List (Vt × Vc)) (hg : w.cell? ⟨g, 0, none⟩ = some (.int .u32 n)) (h1 : VsAt w v xs) (hok : ∀ x ∈ xs, VcOk x.2) (ht : Tab w) :
    Calls Tryz.prog 98 #[.slice v.a v.n v.c, .func (.func 99) #[] #[.pointer (some ⟨g, 0, none⟩)]] w fun e w' => e = .returned (.bool (xs.any (vBad n))) ∧ Below w.heap.size w w' := by
  have C := Lib.hid (indexBad_any w g n v xs hg h1 hok ht)
  generalize xs.any (vBad n) = ab at *
  clear h1 hok ht hg
  go_enter Tryz.func98, Tryz.ntmps98
  go_wp2_with fail
  refine Calls.mono C.out ?_
  rintro e w1 ⟨k, rfl, hk1, hk2, hk, hb⟩
  have HB := Lib.hid hb
  have HK := Lib.hid hk
  clear hb hk
  by_cases h0 : k ≥ 0
  · have H0 := Lib.hid h0
    go_wp2_with fail
    go_ret
    exact ⟨by rw [← HK.out, decide_eq_true H0.out]; rfl, HB.out⟩
  · have H0 := Lib.hid (show decide (0 ≤ k) = false by simpa using h0)
    go_wp2_with fail
    go_ret
    exact ⟨by rw [← HK.out, H0.out]; rfl, HB.out⟩

theorem fit_short {l : List (Vt × Vc)} {n : Int} (h : ¬ l.length ≤ 4) : fitVsB l n = false := by unfold fitVsB; simp [h]
theorem fit_order {l : List (Vt × Vc)} {n : Int} {j : Nat} (hj : j < l.length) (h : stepB vAny vAb l j = false) : fitVsB l n = false := by
  unfold fitVsB
  have : (List.range l.length).all (stepB vAny vAb l) = false := by
    rw [List.all_eq_false]; exact ⟨j, List.mem_range.2 hj, by simp [h]⟩
  rw [this]; simp
theorem fit_rest {l : List (Vt × Vc)} {n : Int} (h4 : l.length ≤ 4) (h : ∀ i, i < l.length → stepB vAny vAb l i = true) : fitVsB l n = !l.any (vBad n) := by
  unfold fitVsB
  have : (List.range l.length).all (stepB vAny vAb l) = true := by
    rw [List.all_eq_true]; intro i hi; exact h i (List.mem_range.1 hi)
  rw [this]; simp [h4]

set_option maxHeartbeats 4000000 in
theorem fitVotes_any (w : World) (n : Int) (v : Sl) (xs : List (Vt × Vc)) (h1 : VsAt w v xs) (hok : ∀ x ∈ xs, VcOk x.2) (ht : Tab w) :
    Calls Tryz.prog 77 #[.slice v.a v.n v.c, .int .u32 n] w fun e w' => e = .returned (.bool (fitVsB xs n)) ∧ Below w.heap.size w w' := by
  obtain ⟨r, hr⟩ : ∃ r, r = fitVsB xs n := ⟨_, rfl⟩
  rw [← hr]
  have HR := Lib.hid hr
  obtain ⟨W0, hW0⟩ : ∃ W, W = w.alloc (.cells #[.int .u32 n] 22) := ⟨_, rfl⟩
  have hbl : Below w.heap.size w W0 := by rw [hW0]; exact (Below.refl _ _).alloc (Nat.le_refl _) _
  have hgn : W0.cell? ⟨w.heap.size, 0, none⟩ = some (.int .u32 n) := by rw [hW0]; simp
  have CC := Lib.hid (fun w' (h : Below W0.heap.size W0 w') => containsBad_any w' w.heap.size n v xs ((h.cell (cell_block hgn)).trans hgn) ((h1.below hbl).below h) hok (Tab.on (Tab.on ht hbl) h))
  obtain ⟨a1, c1, q1, -, -, hn1, hr1⟩ := (h1.below hbl).1
  simp only [Sl.val] at q1
  rw [q1] at CC ⊢
  clear q1
  have H1 := Lib.hid hr1
  have HBL := Lib.hid hbl
  have HUP := Lib.hid (fun w' (h : Below W0.heap.size W0 w') => hbl.trans (h.mono hbl.size))
  have HW0 := Lib.hid hW0
  clear hr1 hr h1 hok ht hbl hgn hW0
  have hmf : ∀ (fn : Fn) (first cap : Array Value) (w : World), (Instr.makeFunc fn first cap).run Tryz.prog w = .ok (.func fn first cap) w := fun _ _ _ _ => rfl
  by_cases h4 : xs.length ≤ 4
  · generalize hn : xs.length = m at *
    have HN := Lib.hid hn
    have h4' : ¬ (m : Int) > 4 := by omega
    clear hn
    go_enter Tryz.func77, Tryz.ntmps77
    go_upto_region 1 with fail
    rw [← HW0.out]
    clear HW0
    generalize hgg : w.heap.size = gg at *
    go_wp2_with fail
    go_loopw [12] (fun vi wr => ∃ j : Nat, j ≤ m ∧ vi = .int .i64 j ∧ Hid (Below W0.heap.size W0 wr) ∧ Hid (∀ i, i < j → stepB vAny vAb xs i = true)) (fun i _ => m - (intOf i).toNat)
    case atStart => exact ⟨0, by omega, rfl, Lib.hid (Below.refl _ _), Lib.hid (fun i h => by omega)⟩
    case round =>
      obtain ⟨j, hj, rfl, HB, A⟩ := hrel
      by_cases hlt : j < m
      · obtain ⟨x, hx⟩ : ∃ x, xs[j]? = some x := ⟨_, List.getElem?_eq_getElem (by rw [HN.out]; exact hlt)⟩
        obtain ⟨b1, o1, e1, g1⟩ := H1.out j x hx
        have G : ∀ i u, (vcell x)[i]? = some u → wr.cell? ⟨b1, o1 + j * 7 + i, none⟩ = some u := fun i u hu => by
          have h3 := g1 i u hu
          rw [HB.out.cell (cell_block h3)]; exact h3
        have HX := Lib.hid hx
        have l10 : wr.cell? ⟨b1, o1 + j * 7, none⟩ = some (.int .u8 x.1.f) := G 0 _ rfl
        have l11 : wr.cell? ⟨b1, o1 + j * 7 + 1, none⟩ = some (.int .u8 x.1.e) := G 1 _ rfl
        have l12 : wr.cell? ⟨b1, o1 + j * 7 + 2, none⟩ = some (.int .u32 x.1.vw) := G 2 _ rfl
        have l13 : wr.cell? ⟨b1, o1 + j * 7 + 3, none⟩ = some (.int .u32 x.1.lo) := G 3 _ rfl
        have l14 : wr.cell? ⟨b1, o1 + j * 7 + 4, none⟩ = some (.slice x.1.ms.a x.1.ms.n x.1.ms.c) := G 4 _ rfl
        have l15 : wr.cell? ⟨b1, o1 + j * 7 + 5, none⟩ = some (.slice x.1.p.a x.1.p.n x.1.p.c) := G 5 _ rfl
        have l16 : wr.cell? ⟨b1, o1 + j * 7 + 6, none⟩ = some (.slice x.1.q.a x.1.q.n x.1.q.c) := G 6 _ rfl
        have HNEW := Lib.hid (fun o => HB.out.alloc HB.out.size o)
        clear hx g1 G
        subst e1
        go_upto_region 6 with fail
        obtain ⟨W, hW⟩ : ∃ W, W = wr.alloc (.cells x.1.cells.toArray 32) := ⟨_, rfl⟩
        have p0 : W.cell? ⟨wr.heap.size, 0, none⟩ = some (.int .u8 x.1.f) := by rw [hW]; simp [Vt.cells]
        have HBW := Lib.hid (show Below W0.heap.size W0 W by rw [hW]; exact HNEW.out _)
        simp only [Vt.cells] at hW
        rw [← hW]
        clear hW l10 l11 l12 l13 l14 l15 l16 HNEW
        rcases Nat.eq_zero_or_pos j with h0 | h0
        · subst h0
          go_quiet (fail)
          go_wp2_with fail
          go_round
          case measure => simp [intOf]; omega
          case rel =>
            refine ⟨1, by omega, by go_num, Lib.hid (bel_drewN HBW.out _), Lib.hid (fun i hi => ?_)⟩
            obtain rfl : i = 0 := by omega
            rw [stepB_zero HX.out]; rfl
        · obtain ⟨i, rfl⟩ : ∃ i, j = i + 1 := ⟨j - 1, by omega⟩
          obtain ⟨y, hy⟩ : ∃ y, xs[i]? = some y := ⟨_, List.getElem?_eq_getElem (by rw [HN.out]; omega)⟩
          have py : W.cell? ⟨b1, o1 + i * 7, none⟩ = some (.int .u8 y.1.f) := by
            obtain ⟨b2, o2, e2, g2⟩ := H1.out i y hy
            injection e2 with e2; injection e2 with e3 e4; subst e3; subst e4
            have h3 : W0.cell? ⟨b1, o1 + i * 7, none⟩ = some (.int .u8 y.1.f) := g2 0 _ rfl
            rw [HBW.out.cell (cell_block h3)]; exact h3
          have HY := Lib.hid hy
          clear hy
          by_cases hg : y.1.f ≥ x.1.f
          · have e : stepB vAny vAb xs (i + 1) = false := by
              rw [stepB_succ HX.out HY.out]; unfold vAb vAny; simp; omega
            have HE := Lib.hid e
            clear e
            go_quiet (fail)
            go_wp2_with fail
            go_ret
            refine ⟨?_, by rw [hgg]; exact HUP.out _ (bel_drewN HBW.out _)⟩
            rw [HR.out, fit_order (by rw [HN.out]; exact hlt) HE.out]; rfl
          · have e : stepB vAny vAb xs (i + 1) = true := by
              rw [stepB_succ HX.out HY.out]; unfold vAb vAny; simp; omega
            have HE := Lib.hid e
            clear e
            go_quiet (fail)
            go_wp2_with fail
            go_round
            case measure => simp [intOf]; omega
            case rel =>
              refine ⟨i + 2, by omega, by go_num, Lib.hid (bel_drewN HBW.out _), Lib.hid (fun k hk => ?_)⟩
              by_cases e : k = i + 1
              · subst e; exact HE.out
              · exact A.out k (by omega)
      · obtain rfl : j = m := by omega
        have hend := fit_rest (n := n) (by rw [HN.out]; exact h4) (by rw [HN.out]; exact A.out)
        have C := Lib.hid (CC.out wr HB.out)
        generalize xs.any (vBad n) = ab at C hend
        have HEND := Lib.hid hend
        clear hend
        go_wp2_with fail
        refine Calls.mono C.out ?_
        rintro e w1 ⟨rfl, hb⟩
        have HB1 := Lib.hid (HUP.out _ (Below.up HB.out hb))
        clear hb
        go_wp2_with fail
        go_ret
        exact ⟨by rw [HR.out, HEND.out]; rfl, by rw [hgg]; exact HB1.out⟩
  · have HL := Lib.hid (fit_short (n := n) h4)
    generalize hn : xs.length = m at *
    have h4' : (m : Int) > 4 := by omega
    clear hn
    go_enter Tryz.func77, Tryz.ntmps77
    go_upto_region 1 with fail
    rw [← HW0.out]
    clear HW0
    go_wp2_with fail
    go_ret
    exact ⟨by rw [HR.out, HL.out]; rfl, HBL.out⟩

/-- what lies in w lies apart from the writer, and is as it was when the writer began -/
structure Fro (w W0 : World) (B : Nat) (g : Option Nat) : Prop where
  bel : Below w.heap.size w W0
  hB : w.heap.size ≤ B
  hg : ∀ k, g = some k → w.heap.size ≤ k
theorem Fro.on {w W0 w1 : World} {B : Nat} {g : Option Nat} {ys : List Int} (h : Fro w W0 B g) (hw : Wrote W0 B g ys w1) : Below w.heap.size w w1 :=
  h.bel.trans (hw.bel (H := w.heap.size) h.bel.size h.hB h.hg)

def enB (x : En) : List Int := b4 x.s ++ (b4 x.v ++ x.rq.bytes)
def mkB (x : Mk) : List Int := b4 x.s ++ be8 x.r
def entsB (l : List En) : List Int := [(l.length : Int)] ++ l.flatMap enB
def marksY (l : List Mk) : List Int := [(l.length : Int)] ++ l.flatMap mkB
def voteY (v : Vt) (c : Vc) : List Int := [v.f] ++ ([v.e] ++ (b4 v.vw ++ (b4 v.lo ++ (marksY c.ms ++ (entsB c.p ++ entsB c.q)))))

theorem be8_len (x : Int) : (be8 x).length = 8 := by simp [be8]
theorem enB_len (x : En) : (enB x).length = 17 := by simp [enB, b4, Rq.bytes, b2]
theorem mkB_len (x : Mk) : (mkB x).length = 12 := by simp [mkB, b4, be8_len]
theorem flatMap_len {α : Type} {f : α → List Int} {k : Nat} (h : ∀ x, (f x).length = k) : ∀ l : List α, (l.flatMap f).length = l.length * k
  | [] => by simp
  | x :: r => by simp only [List.flatMap_cons, List.length_append, List.length_cons, h x, flatMap_len h r, Nat.add_mul]; omega
theorem entsB_len (l : List En) : (entsB l).length = 1 + l.length * 17 := by simp [entsB, flatMap_len enB_len]; omega
theorem marksY_len (l : List Mk) : (marksY l).length = 1 + l.length * 12 := by simp [marksY, flatMap_len mkB_len]; omega

def votesY (l : List (Vt × Vc)) : List Int := [(l.length : Int)] ++ l.flatMap fun x => voteY x.1 x.2
/-- the bytes of a part -/
def partY (m : Mg) (c : Mc) (p : Int) : List Int := if p = 7 then voteY m.vt c.vt else if p = 8 then votesY c.vs else if p = 9 then c.sm.flatMap be8 else if p = 10 then lenBytes c.dt else wordB m p

def Vc.few (c : Vc) : Prop := c.ms.length ≤ 40 ∧ c.p.length ≤ 40 ∧ c.q.length ≤ 40
theorem voteY_len {v : Vt} {c : Vc} (h : c.few) : (voteY v c).length ≤ 1853 := by
  obtain ⟨h1, h2, h3⟩ := h
  have a1 := marksY_len c.ms
  have a2 := entsB_len c.p
  have a3 := entsB_len c.q
  simp only [voteY, List.length_append, a1, a2, a3, b4, List.length_cons, List.length_nil]
  omega

/-- the requests of all its lists are in range -/
def McOk (c : Mc) : Prop := VcOk c.vt ∧ ∀ x ∈ c.vs, VcOk x.2
/-- P3.1, P3.2: a message -/
def isM (m : Mg) (c : Mc) : Bool := isB m c (voteB m.vt c.vt) (fitVsB c.vs m.vw)
/-- P3.3: its bytes -/
def encM (m : Mg) (c : Mc) : List Int := encUp m (partY m c) (partsOf m.k)

theorem is_all (w : World) (m : Mg) (c : Mc) (hm : MgAt w m c) (hok : McOk c) (ht : Tab w) : Calls Tryz.prog 10 #[.agg m.cells.toArray] w fun e w' => e = .returned (.bool (isM m c)) ∧ Below w.heap.size w w' :=
  is_any w m c hm (voteB m.vt c.vt) (fitVsB c.vs m.vw) (fun _ w1 h1 => isVote_any w1 m.vt c.vt (hm.vt.below h1) hok.1 (Tab.on ht h1)) (fun _ w1 h1 => fitVotes_any w1 m.vw m.vs c.vs (hm.vs.below h1) hok.2 (Tab.on ht h1))

theorem upB_few {α : Type} {ok : α → Bool} {ab : α → α → Bool} {l : List α} (h : upB ok ab l = true) : l.length ≤ 40 := by
  unfold upB at h; simp at h; exact h.1
theorem voteB_few {v : Vt} {c : Vc} (h : voteB v c = true) : c.few := by
  unfold voteB at h
  simp only [Bool.and_eq_true] at h
  obtain ⟨-, -, -, -, h1, h2, h3⟩ := h
  exact ⟨upB_few h1, upB_few h2, upB_few h3⟩
theorem fitVsB_few {l : List (Vt × Vc)} {n : Int} (h : fitVsB l n = true) : l.length ≤ 4 ∧ ∀ x ∈ l, x.2.few := by
  unfold fitVsB at h
  simp only [Bool.and_eq_true, decide_eq_true_eq, Bool.not_eq_true', List.any_eq_false] at h
  refine ⟨h.1, fun x hx => ?_⟩
  have h1 := h.2.2 x hx
  unfold vBad at h1
  simp only [Bool.or_eq_true, Bool.not_eq_true', not_or, Bool.not_eq_false] at h1
  exact voteB_few h1.2

theorem isM_fit {m : Mg} {c : Mc} (h : isM m c = true) {p : Int} (hp : p ∈ partsOf m.k) : fitB m (voteB m.vt c.vt) (fitVsB c.vs m.vw) p = true := by
  unfold isM isB at h
  simp only [Bool.and_eq_true, List.all_eq_true] at h
  exact h.2.2.2 p hp

theorem isM_7 {m : Mg} {c : Mc} (h : isM m c = true) (hp : (7 : Int) ∈ partsOf m.k) : c.vt.few := by
  have := isM_fit h hp
  simp [fitB] at this
  exact voteB_few this.1
theorem isM_8 {m : Mg} {c : Mc} (h : isM m c = true) (hp : (8 : Int) ∈ partsOf m.k) : c.vs.length ≤ 4 ∧ ∀ x ∈ c.vs, x.2.few := by
  have := isM_fit h hp
  simp [fitB] at this
  exact fitVsB_few this
theorem isM_9 {w : World} {m : Mg} {c : Mc} (hm : MgAt w m c) (h : isM m c = true) (hp : (9 : Int) ∈ partsOf m.k) : c.sm.length = 8 := by
  have := isM_fit h hp
  simp [fitB] at this
  obtain ⟨a, k, e, _⟩ := hm.sm
  simp only [Sl.val] at e
  injection e with e1 e2 e3
  rw [← e2]; exact this
theorem isM_10 {w : World} {m : Mg} {c : Mc} (hm : MgAt w m c) (h : isM m c = true) (hp : (10 : Int) ∈ partsOf m.k) : c.dt.length ≤ 64 := by
  have := isM_fit h hp
  simp [fitB] at this
  rw [← hm.dt.1]; exact this

def hm (k f t e : Int) : Mg := { k := k, f := f, t := t, e := e, vw := 0, sq := 0, rq := Rq.zero, ro := 0, ct := 0, pg := 0, rs := 0, vt := Vt.zero, vs := ⟨none, 0, 0⟩, sm := ⟨none, 0, 0⟩, dt := ⟨none, 0, 0⟩ }

theorem Row.kept {α : Type} {S : Nat → Prop} {w w' : World} {k : Nat} {enc : α → List Value} {v : Value} {xs : List α} (h : Row w k enc v xs) (hk : Kept S w w') (hS : ∀ b off n c, v = .slice (some ⟨b, off, none⟩) n c → ¬ S b) : Row w' k enc v xs := by
  obtain ⟨ao, cap, e, h1, h2, h3, h4⟩ := h
  refine ⟨ao, cap, e, h1, h2, h3, fun j x hj => ?_⟩
  obtain ⟨b, off, e2, hc⟩ := h4 j x hj
  refine ⟨b, off, e2, fun i u hu => ?_⟩
  have h5 := hc i u hu
  subst e2
  rw [← h5]
  exact World.cell?_of_block (hk.block b (cell_block h5) (hS b off _ _ e))

theorem there_row {w : World} {g n : Nat} {Z : Array Value} {T : TypeId} (h : w.heap[g]? = some (.cells Z T (0, 0))) (hn : Z.size = n) : w.there g 0 n := by
  intro i hi
  refine ⟨?_, frozen_of_row _ _ _ _ _ h⟩
  rw [cell_of_row _ _ _ _ _ _ h]; simp; omega
theorem Kept.new {S R g : Nat} {w W w5 : World} {vs : List Value} (hb : Below w.heap.size w W) (hk : Kept (SR S R) W w5) (hg : w.heap.size ≤ g) : Kept (SR S R) w (w5.setCells g 0 vs) := by
  have h1 : Kept (SR S R) w w5 := (Kept.ofBelow (S := SR S R) hb).trans hk (fun _ _ h => h)
  have hh := fun k (h : k ≠ g) => setCells_kept g vs 0 w5 k h
  refine ⟨?_, ?_, ?_, ?_, fun k hk' hs => ?_⟩
  · rw [(hh (g + 1) (by omega)).2.2.1]; exact h1.os
  · rw [(hh (g + 1) (by omega)).2.2.2.1]; exact h1.tape
  · rw [(hh (g + 1) (by omega)).2.2.2.2]; exact h1.output
  · rw [(hh (g + 1) (by omega)).2.1]; exact h1.size
  · rw [(hh k (by omega)).1]; exact h1.block k hk' hs
theorem Kept.apart {g : Nat} {w : World} {vs : List Value} : Kept (fun k => k = g) w (w.setCells g 0 vs) := by
  have hh := fun k (h : k ≠ g) => setCells_kept g vs 0 w k h
  refine ⟨?_, ?_, ?_, ?_, fun k hk' hs => ?_⟩
  · rw [(hh (g + 1) (by omega)).2.2.1]
  · rw [(hh (g + 1) (by omega)).2.2.2.1]
  · rw [(hh (g + 1) (by omega)).2.2.2.2]
  · rw [(hh (g + 1) (by omega)).2.1]; exact Nat.le_refl _
  · exact (hh k hs).1

/-- so many, one behind the other -/
def pN {α : Type} (one : Sr → α × Sr) (s : Sr) : Nat → List α × Sr
  | 0 => ([], s)
  | j + 1 => ((pN one s j).1 ++ [(one (pN one s j).2).1], (one (pN one s j).2).2)
theorem pN_len {α : Type} (one : Sr → α × Sr) (s : Sr) (j : Nat) : (pN one s j).1.length = j := by
  induction j with
  | zero => rfl
  | succ j ih => simp [pN, ih]
def TG (S R g : Nat) : Nat → Prop := fun k => SR S R k ∨ k = g
theorem kept_setCells {w : World} {g o : Nat} {vs : List Value} : Kept (fun k => k = g) w (w.setCells g o vs) := by
  have hh := fun k (h : k ≠ g) => setCells_kept g vs o w k h
  refine ⟨?_, ?_, ?_, ?_, fun k hk' hs => ?_⟩
  · rw [(hh (g + 1) (by omega)).2.2.1]
  · rw [(hh (g + 1) (by omega)).2.2.2.1]
  · rw [(hh (g + 1) (by omega)).2.2.2.2]
  · rw [(hh (g + 1) (by omega)).2.1]; exact Nat.le_refl _
  · exact (hh k hs).1
theorem there_part {w : World} {g n o k : Nat} (h : w.there g 0 n) (hk : o + k ≤ n) : w.there g o k := fun j hj => by
  have := h (o + j) (by omega)
  simpa using this
/-- the row, behind j of n -/
structure RowJ {α : Type} (enc : α → List Value) (k : Nat) (one : Sr → α × Sr) (s : Sr) (w V wr : World) (S R g n j : Nat) : Prop where
  th : wr.there g 0 (n * k)
  ra : wr.rangeAt g 0 ((pN one s j).1.flatMap enc)
  sat : Sat wr S R (pN one s j).2
  kept : Kept (TG S R g) V wr
theorem RowJ.row {α : Type} {enc : α → List Value} {k : Nat} {one : Sr → α × Sr} {s : Sr} {w V wr : World} {S R g n : Nat} (h : RowJ enc k one s w V wr S R g n n) (henc : ∀ x, (enc x).length = k) (hn : n ≤ 1000) : Row wr k enc (.slice (some ⟨g, 0, none⟩) n n) (pN one s n).1 := by
  refine ⟨some ⟨g, 0, none⟩, n, by rw [pN_len], (fun e => by cases e), by rw [pN_len]; exact Nat.le_refl _, by rw [pN_len]; omega, fun j x hj => ⟨g, 0, rfl, fun i u hu => ?_⟩⟩
  have key : ∀ (xs : List α) (j i : Nat) (x : α) (u : Value), xs[j]? = some x → (enc x)[i]? = some u → (xs.flatMap enc)[j * k + i]? = some u := by
    intro xs
    induction xs with
    | nil => intro j i x u hx; simp at hx
    | cons y r ih =>
      intro j i x u hx hu
      have hy := henc y
      cases j with
      | zero =>
        simp at hx
        subst hx
        have hi : i < (enc y).length := by
          rcases Nat.lt_or_ge i (enc y).length with h | h
          · exact h
          · rw [List.getElem?_eq_none h] at hu; cases hu
        rw [List.flatMap_cons, Nat.zero_mul, Nat.zero_add, List.getElem?_append_left hi]; exact hu
      | succ j =>
        rw [List.flatMap_cons, List.getElem?_append_right (by rw [hy, Nat.succ_mul]; omega), hy]
        have := ih j i x u (by simpa using hx) hu
        rw [show (j + 1) * k + i - k = j * k + i from by rw [Nat.succ_mul]; omega]
        exact this
  have := h.ra (j * k + i) u (key _ j i x u hj hu)
  simpa [Nat.add_assoc] using this

/-- a vote's words, and what its lists hold -/
structure Vp where
  f : Int
  e : Int
  vw : Int
  lo : Int
  c : Vc
/-- lists that were made since -/
def NewV (H : Nat) (v : Vt) : Prop := (∀ ad, v.ms.a = some ad → H ≤ ad.block) ∧ (∀ ad, v.p.a = some ad → H ≤ ad.block) ∧ ∀ ad, v.q.a = some ad → H ≤ ad.block
theorem row_new {α : Type} {T : Nat → Prop} {w w' : World} {k H : Nat} {enc : α → List Value} {v : Sl} {xs : List α} (h : Row w k enc v.val xs) (hk : Kept T w w') (hv : ∀ ad, v.a = some ad → H ≤ ad.block) (hT : ∀ b, T b → b < H) : Row w' k enc v.val xs :=
  h.kept hk (fun b off n c e hb => by
    injection e with e _ _
    have h1 := hv _ e
    have h2 := hT b hb
    simp only at h1
    omega)
theorem VtAt.new {T : Nat → Prop} {w w' : World} {H : Nat} {v : Vt} {c : Vc} (h : VtAt w v c) (hk : Kept T w w') (hv : NewV H v) (hT : ∀ b, T b → b < H) : VtAt w' v c :=
  ⟨row_new h.1 hk hv.1 hT, row_new h.2.1 hk hv.2.1 hT, row_new h.2.2 hk hv.2.2 hT⟩
theorem Vt.one (v : Vt) : ∀ u ∈ v.cells, u.oneCell' = true := by
  intro u hu
  simp [Vt.cells] at hu
  (repeat' (rcases hu with rfl | hu))
  all_goals first | rfl | (subst hu; rfl)

def toVp (x : Vt × Vc) : Vp := ⟨x.1.f, x.1.e, x.1.vw, x.1.lo, x.2⟩
/-- votes that were made since -/
def NewS (H : Nat) (v : Sl) (vl : List (Vt × Vc)) : Prop := (∀ ad, v.a = some ad → H ≤ ad.block) ∧ ∀ x ∈ vl, NewV H x.1

theorem Sat.drewN {w : World} {S R : Nat} {s : Sr} (h : Sat w S R s) (n : Nat) : Sat (w.drewN n) S R s := ⟨h.src, h.rd.drewN n, h.ord, h.len⟩

/-- a message as it is read: its words, what its lists hold -/
structure Mq where
  w : Wd
  vt : Vp
  vs : List Vp
  sm : List Int
  dt : List Int
def NewM (H : Nat) (m : Mg) (c : Mc) : Prop := NewV H m.vt ∧ NewS H m.vs c.vs ∧ (∀ ad, m.sm.a = some ad → H ≤ ad.block) ∧ ∀ ad, m.dt.a = some ad → H ≤ ad.block
theorem dt_new {T : Nat → Prop} {w w' : World} {H : Nat} {v : Sl} {l : List Int} (h : DtAt w v l) (hk : Kept T w w') (hv : ∀ ad, v.a = some ad → H ≤ ad.block) (hT : ∀ b, T b → b < H) : DtAt w' v l := by
  obtain ⟨h1, h2, h3, h4, h5, h6⟩ := h
  exact ⟨h1, bytes_kept h2 hk (fun ad e _ hb => by have := hv ad e; have := hT _ hb; omega), h3, h4, h5, h6⟩
theorem vs_new {T : Nat → Prop} {w w' : World} {H : Nat} {v : Sl} {l : List (Vt × Vc)} (h : VsAt w v l) (hk : Kept T w w') (hv : NewS H v l) (hT : ∀ b, T b → b < H) : VsAt w' v l :=
  ⟨row_new h.1 hk hv.1 hT, fun x hx => (h.2 x hx).new hk (hv.2 x hx) hT⟩
theorem MgAt.new {T : Nat → Prop} {w w' : World} {H : Nat} {m : Mg} {c : Mc} (h : MgAt w m c) (hk : Kept T w w') (hv : NewM H m c) (hT : ∀ b, T b → b < H) : MgAt w' m c :=
  ⟨h.vt.new hk hv.1 hT, vs_new h.vs hk hv.2.1 hT, row_new h.sm hk hv.2.2.1 hT, dt_new h.dt hk hv.2.2.2 hT⟩

/-- a message that is being read lies at M -/
structure MqAt (w : World) (M : Nat) (m : Mg) (c : Mc) (x : Mq) : Prop where
  box : w.heap[M]? = some (.cells m.cells.toArray 37 (0, 0))
  dat : MgAt w m c
  new : NewM (M + 1) m c
  wd : m.toWd = x.w
  vt : toVp (m.vt, c.vt) = x.vt
  vs : c.vs.map toVp = x.vs
  sm : c.sm = x.sm
  dt : c.dt = x.dt
def SRM (S R M : Nat) : Nat → Prop := fun k => SR S R k ∨ k = M
theorem MqAt.call {w w1 : World} {S R M : Nat} {m : Mg} {c : Mc} {x : Mq} (h : MqAt w M m c x) (hk : Kept (SR S R) w w1) (hS : S < M) (hR : R < M) : MqAt w1 M m c x := by
  have hT : ∀ b, SR S R b → b < M + 1 := fun b e => by rcases e with e | e; omega; omega
  exact ⟨by rw [hk.block M (lt_of_block h.box) (fun e => by rcases e with e | e; omega; omega)]; exact h.box, h.dat.new hk h.new hT, h.new, h.wd, h.vt, h.vs, h.sm, h.dt⟩
theorem MqAt.below {w w1 : World} {M : Nat} {m : Mg} {c : Mc} {x : Mq} (h : MqAt w M m c x) (hb : Below w.heap.size w w1) : MqAt w1 M m c x :=
  ⟨(hb.block _ (lt_of_block h.box)).trans h.box, h.dat.below hb, h.new, h.wd, h.vt, h.vs, h.sm, h.dt⟩
/-- some cells of it are written -/
theorem MqAt.put {w : World} {M o : Nat} {m m' : Mg} {c c' : Mc} {x x' : Mq} {vs : List Value} (h : MqAt w M m c x) (hd : MgAt w m' c') (hn : NewM (M + 1) m' c') (ho : over m.cells.toArray o vs = m'.cells.toArray) (h1 : m'.toWd = x'.w) (h2 : toVp (m'.vt, c'.vt) = x'.vt) (h3 : c'.vs.map toVp = x'.vs) (h4 : c'.sm = x'.sm) (h5 : c'.dt = x'.dt) :
    MqAt (w.setCells M o vs) M m' c' x' :=
  ⟨by rw [setCells_block _ 37 _ _ _ _ h.box, ho], hd.new (T := fun k => k = M) kept_setCells hn (fun b e => by omega), hn, h1, h2, h3, h4, h5⟩
theorem Sat.put {w : World} {S R M o : Nat} {s : Sr} {vs : List Value} (h : Sat w S R s) (hS : S < M) (hR : R < M) : Sat (w.setCells M o vs) S R s := h.kept (T := fun k => k = M) kept_setCells (by omega) (fun k hk e => by omega)
theorem MqAt.cell {w : World} {M : Nat} {m : Mg} {c : Mc} {x : Mq} (h : MqAt w M m c x) (i : Nat) : w.cell? ⟨M, i, none⟩ = m.cells[i]? := cell_box h.box i
theorem MqAt.free {w : World} {M : Nat} {m : Mg} {c : Mc} {x : Mq} (h : MqAt w M m c x) (i : Nat) : w.frozen? ⟨M, i, none⟩ = false := frozen_of_row _ _ _ _ _ h.box
theorem Kept.put {S R M o : Nat} {w W w1 : World} {vs : List Value} (hb : Below w.heap.size w W) (hk : Kept (SR S R) W w1) : Kept (SRM S R M) w (w1.setCells M o vs) :=
  ((Kept.ofBelow (S := SRM S R M) hb).trans hk (fun _ _ e => .inl e)).trans kept_setCells (fun _ _ e => .inr e)

theorem Rq.one (r : Rq) : ∀ u ∈ r.cells, u.oneCell' = true := by
  intro u hu
  simp [Rq.cells] at hu
  (repeat' (rcases hu with rfl | hu))
  all_goals first | rfl | (subst hu; rfl)
theorem MqAt.there {w : World} {M : Nat} {m : Mg} {c : Mc} {x : Mq} (h : MqAt w M m c x) (o k : Nat) (ho : o + k ≤ 25) : w.there M o k := there_part (there_row (n := 25) h.box rfl) ho

theorem Sat.drew {w : World} {S R : Nat} {s : Sr} (h : Sat w S R s) : Sat w.drew S R s := h.on ((Below.refl _ _).drew)

def SrOk (s : Sr) : Prop := ∀ x ∈ s.l, isByte x
theorem SrOk.at {s : Sr} (h : SrOk s) (i : Nat) : isByte (s.l.getD i 0) := by
  rw [List.getD_eq_getElem?_getD]
  rcases Nat.lt_or_ge i s.l.length with hi | hi
  · rw [List.getElem?_eq_getElem hi]; exact h _ (List.getElem_mem hi)
  · rw [List.getElem?_eq_none hi]; exact ⟨by decide, by decide⟩
def MqOk (x : Mq) : Prop := VcOk x.vt.c ∧ ∀ v ∈ x.vs, VcOk v.c
theorem MqAt.ok {w : World} {M : Nat} {m : Mg} {c : Mc} {x : Mq} (h : MqAt w M m c x) (hx : MqOk x) : McOk c := by
  refine ⟨?_, fun y hy => ?_⟩
  · have := hx.1
    rw [← h.vt] at this
    exact this
  · have : toVp y ∈ x.vs := by rw [← h.vs]; exact List.mem_map_of_mem hy
    exact hx.2 _ this

/-- a message in memory is what was read -/
structure RelQ (m : Mg) (c : Mc) (x : Mq) : Prop where
  wd : m.toWd = x.w
  vt : toVp (m.vt, c.vt) = x.vt
  vs : c.vs.map toVp = x.vs
  sm : c.sm = x.sm
  dt : c.dt = x.dt
theorem MqAt.rel {w : World} {M : Nat} {m : Mg} {c : Mc} {x : Mq} (h : MqAt w M m c x) : RelQ m c x := ⟨h.wd, h.vt, h.vs, h.sm, h.dt⟩
/-- what stands while the parts are read -/
structure DecJ (w : World) (S R M g0 : Nat) (wr : World) (m : Mg) (c : Mc) (y : Mq × Sr) : Prop where
  mq : MqAt wr M m c y.1
  sat : Sat wr S R y.2
  g0 : wr.heap[g0]? = some (.cells Vz.toArray 37 (0, 0))
  bel : Below w.heap.size w wr
theorem DecJ.on {w : World} {S R M g0 : Nat} {wr wx : World} {m : Mg} {c : Mc} {y : Mq × Sr} (h : DecJ w S R M g0 wr m c y) (hb : Below wr.heap.size wr wx) : DecJ w S R M g0 wx m c y :=
  ⟨h.mq.below hb, h.sat.on hb, (hb.block _ (lt_of_block h.g0)).trans h.g0, h.bel.trans (hb.mono h.bel.size)⟩

/-- a way to read: behind a fault there is one; what is read well hangs on what is taken alone -/
structure Good {α : Type} (p : Sr → α × Sr) : Prop where
  back : ∀ s, (p s).2.f = 0 → s.f = 0
  ext : ∀ s r, (p s).2.f = 0 → p ⟨s.l ++ r, s.f⟩ = ((p s).1, ⟨(p s).2.l ++ r, 0⟩)

/-- one behind the other -/
theorem Good.then {α β γ : Type} {p : Sr → α × Sr} {q : α → Sr → β × Sr} (hp : Good p) (hq : ∀ a, Good (q a)) (f : α → β → γ) : Good (fun s => (f (p s).1 (q (p s).1 (p s).2).1, (q (p s).1 (p s).2).2)) := by
  refine ⟨fun s h => hp.back s ((hq _).back _ h), fun s r h => ?_⟩
  have h1 := (hq _).back _ h
  have e1 := hp.ext s r h1
  have e2 := (hq (p s).1).ext (p s).2 r h
  simp only [e1]
  rw [h1] at e2
  simp only [e2]
theorem Good.map {α β : Type} {p : Sr → α × Sr} (hp : Good p) (f : α → β) : Good (fun s => (f (p s).1, (p s).2)) := by
  refine ⟨fun s h => hp.back s h, fun s r h => ?_⟩
  simp only [hp.ext s r h]

def Mk.ok (x : Mk) : Prop := (0 ≤ x.s ∧ x.s ≤ 4294967295) ∧ 0 ≤ x.r ∧ x.r ≤ 18446744073709551615
def En.ok (x : En) : Prop := (0 ≤ x.s ∧ x.s ≤ 4294967295) ∧ (0 ≤ x.v ∧ x.v ≤ 4294967295) ∧ x.rq.ok
def Vc.ok (c : Vc) : Prop := (∀ x ∈ c.ms, x.ok) ∧ (∀ x ∈ c.p, x.ok) ∧ ∀ x ∈ c.q, x.ok
def Vt.ok (v : Vt) : Prop := (0 ≤ v.f ∧ v.f ≤ 255) ∧ (0 ≤ v.e ∧ v.e ≤ 255) ∧ (0 ≤ v.vw ∧ v.vw ≤ 4294967295) ∧ 0 ≤ v.lo ∧ v.lo ≤ 4294967295

/-- its numbers are in range -/
structure MgOk (m : Mg) (c : Mc) : Prop where
  k : isByte m.k
  f : isByte m.f
  t : isByte m.t
  e : isByte m.e
  ct : isByte m.ct
  pg : isByte m.pg
  vw : 0 ≤ m.vw ∧ m.vw ≤ 4294967295
  sq : 0 ≤ m.sq ∧ m.sq ≤ 4294967295
  rq : m.rq.ok
  ro : 0 ≤ m.ro ∧ m.ro ≤ 18446744073709551615
  rs : 0 ≤ m.rs ∧ m.rs ≤ 4294967295
  vt : m.vt.ok ∧ c.vt.ok
  vs : ∀ x ∈ c.vs, x.1.ok ∧ x.2.ok
  sm : ∀ x ∈ c.sm, 0 ≤ x ∧ x ≤ 18446744073709551615

theorem wp_app {o : Oper} {a : Act} {K : Act → World → Prop} {Q : Exit → Act → World → Prop} (w : World) (s x : Operand)
    (ho : o.op = .call { callee := .builtin .append, args := #[s, x], argTypes := #[35, 35] })
    (v : Value) (n : Nat) (xs : List Int) (hs : a.eval s = v) (hown : w.ownsRow 0 5 1 v n (vals xs))
    (ao : Option Addr) (m c : Nat) (news : List Int) (hx : a.eval x = .slice ao m c) (hl : news.length = m) (hb : Bytes w ao news) (hnone : ao = none → m = 0 ∧ c = 0)
    (hbig : n + m ≤ 10000000)
    (hK : ∀ ao' cap' w', w'.ownsRow 0 5 1 (.slice ao' (n + m) cap') (n + m) (vals (xs ++ news)) → Kept (fun k => some k = v.ownBlock) w w' →
      ((Value.slice ao' (n + m) cap').ownBlock = v.ownBlock ∨ (Value.slice ao' (n + m) cap').ownBlock = some w.heap.size) → K (a.put o.dst (.slice ao' (n + m) cap')) w') :
    o.wp Tryz.prog a w K Q := by
  obtain ⟨i0, hi0, hz0, hz1, hz2⟩ := info_parts byte_info
  cases ao with
  | none =>
    obtain ⟨rfl, rfl⟩ := hnone rfl
    obtain rfl : news = [] := List.eq_nil_of_length_eq_zero hl
    have hrun := run_append_owned_none (P := Tryz.prog) (w := w) 0 35 o.type 5 i0 1 Tryz.underlying35 hi0 v n (vals xs) hown
    obtain ⟨ao', cap', rfl, _⟩ := own_form hown
    unfold Oper.wp
    simp [execOp, ho, resolve, invoke, builtin, hs, hx, hrun, Result.andThen]
    exact (hK ao' cap' w (by simpa using hown) (Kept.refl _ _) (.inl rfl))
  | some ad =>
    obtain ⟨v', w', hrun, h2, h3, _, h5⟩ := run_append_own_at (P := Tryz.prog) w 0 35 o.type 5 i0 _ 1 1 Tryz.underlying35 hi0 hz0 hz1 hz2 rfl (by omega) v n (vals xs) hown ad m c (vals news) (by simp [vals, hl]) (by
      intro j u hu
      obtain ⟨hj, rfl⟩ := List.getElem?_eq_some_iff.1 hu
      simp only [vals, List.length_map] at hj
      obtain ⟨ad', e1, e2⟩ := hb j hj
      injection e1 with e1; subst e1
      rw [e2]; simp [vals, List.getElem?_eq_getElem hj]) (vals_one news) (by simp only [maxLen]; omega) (by omega) (Nat.zero_le _)
    have hv : vals xs ++ vals news = vals (xs ++ news) := by simp [vals]
    rw [hv] at h2
    obtain ⟨ao', cap', rfl, _⟩ := own_form h2
    unfold Oper.wp
    simp [execOp, ho, resolve, invoke, builtin, hs, hx, hrun, Result.andThen]
    exact (hK ao' cap' w' h2 (Kept.ofGrown h3) h5)

/-- a row of bytes that a call made since H -/
structure Mine (H : Nat) (w0 w : World) (ao : Option Addr) (n c : Nat) (l : List Int) : Prop where
  own : w.ownsRow 0 5 1 (.slice ao n c) n (vals l)
  since : ∀ g, (Value.slice ao n c).ownBlock = some g → H ≤ g
  below : Below H w0 w
  size : H ≤ w.heap.size

theorem Mine.nil (w : World) : Mine w.heap.size w w none 0 0 [] :=
  ⟨⟨rfl, .inl ⟨rfl, rfl⟩⟩, fun g h => by simp [Value.ownBlock] at h, Below.refl _ _, Nat.le_refl _⟩

theorem Mine.step {H : Nat} {w0 w w' : World} {ao ao' : Option Addr} {n c n' c' : Nat} {l l' : List Int} (h : Mine H w0 w ao n c l) (ho : w'.ownsRow 0 5 1 (.slice ao' n' c') n' (vals l')) (hk : Kept (fun k => some k = (Value.slice ao n c).ownBlock) w w') (hg : Grew w (.slice ao n c) (.slice ao' n' c')) : Mine H w0 w' ao' n' c' l' := by
  refine ⟨ho, ?_, h.below.trans (hk.below h.size (fun k e => h.since k e.symm)), Nat.le_trans h.size hk.size⟩
  intro g e
  rcases hg with hg | ⟨k, hg, hk⟩
  · exact h.since g (hg ▸ e)
  · rw [hg] at e
    injection e with e
    exact Nat.le_trans h.size (e ▸ hk)

theorem Mine.kept {H : Nat} {w0 w w' : World} {ao : Option Addr} {n c : Nat} {l : List Int} (h : Mine H w0 w ao n c l) (hk : Below w.heap.size w w') : Mine H w0 w' ao n c l :=
  ⟨own_kept h.own (Kept.ofBelow (S := fun _ => False) hk) (fun _ _ h => h), h.since, h.below.trans (hk.mono h.size), Nat.le_trans h.size hk.size⟩

theorem be_2 (x : Int) : be x 2 = b2 x := by simp [be, byteAt, b2]
theorem be_4 (x : Int) : be x 4 = b4 x := by simp [be, byteAt, b4]
theorem be_8 (x : Int) : be x 8 = be8 x := by simp [be, byteAt, be8]

/-- the row v of world w has grown to a row that holds l -/
structure GR (w : World) (v : Value) (wx : World) (ao : Option Addr) (n c : Nat) (l : List Int) : Prop where
  own : wx.ownsRow 0 5 1 (.slice ao n c) n (vals l)
  kept : Kept (fun k => some k = v.ownBlock) w wx
  grew : Grew w v (.slice ao n c)
theorem GR.start {w : World} {ao : Option Addr} {n c : Nat} {l : List Int} (h : w.ownsRow 0 5 1 (.slice ao n c) n (vals l)) : GR w (.slice ao n c) w ao n c l := ⟨h, Kept.refl _ _, .inl rfl⟩
theorem GR.below {w wx wy : World} {v : Value} {ao : Option Addr} {n c : Nat} {l : List Int} (h : GR w v wx ao n c l) (hk : Below wx.heap.size wx wy) : GR w v wy ao n c l :=
  ⟨own_kept h.own (Kept.ofBelow (S := fun _ => False) hk) (fun _ _ h => h), h.kept.trans (Kept.ofBelow (S := fun _ => False) hk) (fun _ _ h => h.elim), h.grew⟩
theorem GR.step {w wx wy : World} {v : Value} {ao ao' : Option Addr} {n c n' c' : Nat} {l l' : List Int} (h : GR w v wx ao n c l) (ho : wy.ownsRow 0 5 1 (.slice ao' n' c') n' (vals l')) (hk : Kept (fun k => some k = (Value.slice ao n c).ownBlock) wx wy) (hg : Grew wx (.slice ao n c) (.slice ao' n' c')) : GR w v wy ao' n' c' l' := by
  refine ⟨ho, grew_kept h.grew h.kept hk, ?_⟩
  rcases hg with e | ⟨k, e, hk2⟩
  · rcases h.grew with e1 | ⟨j, e1, hj⟩
    · exact .inl (e.trans e1)
    · exact .inr ⟨j, e.trans e1, hj⟩
  · exact .inr ⟨k, e, Nat.le_trans h.kept.size hk2⟩
theorem GR.trans {w wx wy : World} {v : Value} {ao ao' : Option Addr} {n c n' c' : Nat} {l l' : List Int} (h : GR w v wx ao n c l) (k : GR wx (.slice ao n c) wy ao' n' c' l') : GR w v wy ao' n' c' l' := h.step k.own k.kept k.grew
/-- seen from ahead of a new block -/
theorem GR.early {w W wx : World} {v : Value} {ao : Option Addr} {n c : Nat} {l : List Int} (hk : Below w.heap.size w W) (h : GR W v wx ao n c l) : GR w v wx ao n c l :=
  ⟨h.own, (Kept.ofBelow (S := fun k => some k = v.ownBlock) hk).trans h.kept (fun _ _ e => e), h.grew.elim .inl (fun ⟨k, e, hk2⟩ => .inr ⟨k, e, Nat.le_trans hk.size hk2⟩)⟩
theorem GR.block {w wx : World} {v : Value} {ao : Option Addr} {n c : Nat} {l : List Int} (h : GR w v wx ao n c l) {E : Nat} (hE : E < w.heap.size) (hne : v.ownBlock ≠ some E) : wx.heap[E]? = w.heap[E]? := h.kept.block E hE (fun e => hne e.symm)
theorem app_e {w wx : World} {v : Value} {ao : Option Addr} {n c : Nat} {l : List Int} (h : GR w v wx ao n c l) {o : Oper} {a : Act} {K : Act → World → Prop} {Q : Exit → Act → World → Prop} (s x : Operand)
    (ho : o.op = .call { callee := .builtin .append, args := #[s, x], argTypes := #[35, 35] }) (hs : a.eval s = .slice ao n c) (bo : Option Addr) (m k : Nat) (news : List Int) (hx : a.eval x = .slice bo m k) (hl : news.length = m) (hb : Bytes wx bo news) (hnone : bo = none → m = 0 ∧ k = 0) (hbig : n + m ≤ 1000000)
    (hK : ∀ ao' c' w', GR w v w' ao' (n + m) c' (l ++ news) → K (a.put o.dst (.slice ao' (n + m) c')) w') : o.wp Tryz.prog a wx K Q := by
  refine wp_app wx s x ho (.slice ao n c) n l hs h.own bo m k news hx hl hb hnone (by omega) ?_
  intro ao' c' w' h1 h2 h3
  exact hK ao' c' w' (h.step h1 h2 (h3.elim .inl (fun e => .inr ⟨_, e, Nat.le_refl _⟩)))
theorem put_e {w wx : World} {v : Value} {ao : Option Addr} {n c : Nat} {l : List Int} (h : GR w v wx ao n c l) (x : Int) (m k : Nat) (hm : m ≤ 8) (hn : n ≤ 900000) (hk : n + m = k) :
    Calls Tryz.prog 29 #[.slice ao n c, .int .u64 x, .int .i64 m] wx fun e w' => ∃ ao' c', e = .returned (.slice ao' k c') ∧ GR w v w' ao' k c' (l ++ be x m) := by
  subst hk
  refine (put1_any ao n c l x m wx h.own hm hn).mono ?_
  rintro e w' ⟨ao', c', rfl, ho, hk, hg⟩
  exact ⟨ao', c', rfl, h.step ho hk hg⟩

set_option maxHeartbeats 8000000 in
theorem refReq_any {w : World} {ao : Option Addr} {n c : Nat} {l : List Int} (h : w.ownsRow 0 5 1 (.slice ao n c) n (vals l)) (r : Rq) (hr : r.ok) (hn : n ≤ 800000) :
    Calls Tryz.prog 28 #[.slice ao n c, .agg r.cells.toArray] w fun e w' => ∃ ao' c', e = .returned (.slice ao' (n + 9) c') ∧ GR w (.slice ao n c) w' ao' (n + 9) c' (l ++ r.bytes) := by
  have hwt : IntKind.u64.wrap r.t = r.t := by rw [IntKind.wrap_u64]; unfold Rq.ok at hr; omega
  have hwv : IntKind.u64.wrap r.v = r.v := by rw [IntKind.wrap_u64]; unfold Rq.ok at hr; omega
  obtain ⟨W, hW⟩ : ∃ W, W = w.alloc (.cells #[.int .u8 r.c, .int .u32 r.t, .int .u8 r.k, .int .u8 r.y, .int .u16 r.v] 27) := ⟨_, rfl⟩
  have hbW : Below w.heap.size w W := by rw [hW]; exact (Below.refl _ _).alloc (Nat.le_refl _) _
  have hoW : W.ownsRow 0 5 1 (.slice ao n c) n (vals l) := own_kept h (Kept.ofBelow (S := fun _ => False) hbW) (fun _ _ h => h)
  have hbx : W.heap[w.heap.size]? = some (.cells #[.int .u8 r.c, .int .u32 r.t, .int .u8 r.k, .int .u8 r.y, .int .u16 r.v] 27 (0, 0)) := by rw [hW]; exact heap_alloc_new _ _
  have hne : (Value.slice ao n c).ownBlock ≠ some w.heap.size := fun e => by have := own_lt h e; omega
  have hBX : ∀ wx a n' c' l', GR W (.slice ao n c) wx a n' c' l' → wx.heap[w.heap.size]? = some (.cells #[.int .u8 r.c, .int .u32 r.t, .int .u8 r.k, .int .u8 r.y, .int .u16 r.v] 27 (0, 0)) := fun wx a n' c' l' g => by rw [g.block (lt_of_block hbx) hne]; exact hbx
  have BX := Lib.hid hBX
  have M0 := GR.start hoW
  obtain ⟨E, hE⟩ : ∃ E, E = w.heap.size := ⟨_, rfl⟩
  rw [← hE] at BX
  have MD := M0.below (Below.refl _ _).drew
  have HBW := Lib.hid hbW
  have HW := Lib.hid hW
  have HE := Lib.hid hE
  simp only [Rq.cells]
  clear hW hE h hr hbW hoW hbx hne hBX
  go_enter Tryz.func28, Tryz.ntmps28
  go_upto_region 1 with fail
  rw [← HW.out, ← HE.out]
  refine wp_region_held_drew (S := fun wx => wx.heap[E]? = some (.cells #[.int .u8 r.c, .int .u32 r.t, .int .u8 r.k, .int .u8 r.y, .int .u16 r.v] 27 (0, 0))) (by kernel_rfl) ((BX.out _ _ _ _ _ MD)) (fun hS => ?_)
  refine tm 0 (.slice ao n c) rfl hS ?_
  refine tg 1 (.pointer (some ⟨E, 0, none⟩)) rfl hS ?_
  refine tk 2 (.int .u8 r.c) rfl (yi_load 5 (.tmp 6) (.pointer (some ⟨E, 0, none⟩)) rfl rfl rfl (fun wq hw => by have q : wq.cell? ⟨E, 0, none⟩ = some (.int .u8 r.c) := (by rw [cell_of_row _ _ _ _ _ _ hw]; rfl); go_simp)) hS ?_
  refine tg 5 (.pointer (some ⟨E, 1, none⟩)) rfl hS ?_
  refine tk 6 (.int .u32 r.t) rfl (yi_load 22 (.tmp 10) (.pointer (some ⟨E, 1, none⟩)) rfl rfl rfl (fun wq hw => by have q : wq.cell? ⟨E, 1, none⟩ = some (.int .u32 r.t) := (by rw [cell_of_row _ _ _ _ _ _ hw]; rfl); go_simp)) hS ?_
  refine tk 7 (.int .u64 r.t) rfl (.inl ⟨rfl, fun _ _ => by go_simp <;> first | exact hwt | exact hwv⟩) hS ?_
  refine rdy1 3 rfl (fun K hK => ?_)
  rw [if_pos (by rfl)]
  go_simp
  refine hK.out _ _ ((BX.out _ _ _ _ _ (M0.below (((Below.refl _ _).alloc (Nat.le_refl _) _).drew)))) (fun hS => ?_)
  clear hK K
  refine rdy1 4 rfl (fun K hK => ?_)
  rw [if_pos (by rfl)]
  refine app_e (M0.below (((Below.refl _ _).alloc (Nat.le_refl _) _).drew)) (.tmp 5) (.tmp 8) rfl rfl (some ⟨W.heap.size, 0, none⟩) 1 1 [r.c] rfl rfl (by exact bytes_new _ [r.c] 5) (by intro h; cases h) (by omega) ?_
  intro a1 c1 w1 M1
  refine hK.out _ _ ((BX.out _ _ _ _ _ M1)) (fun hS => ?_)
  clear hK K
  refine rdy1 8 rfl (fun K hK => ?_)
  rw [if_pos (by rfl)]
  go_simp
  refine Calls.mono ((put_e M1 r.t 4 (n + 1 + 4) (by decide) (by omega) rfl)) ?_
  rintro e w2 ⟨a2, c2, rfl, M2⟩
  refine hK.out _ _ ((BX.out _ _ _ _ _ M2)) (fun hS => ?_)
  clear hK K
  refine tm 9 (.slice a2 (n + 1 + 4) c2) rfl hS ?_
  refine wpAnyH_done (by kernel_rfl) ?_ _
  clear hS
  go_upto_region 2 with fail
  refine wp_region_held_drew (S := fun wx => wx.heap[E]? = some (.cells #[.int .u8 r.c, .int .u32 r.t, .int .u8 r.k, .int .u8 r.y, .int .u16 r.v] 27 (0, 0))) (by kernel_rfl) ((BX.out _ _ _ _ _ (M2.below (Below.refl _ _).drew))) (fun hS => ?_)
  refine tm 0 (.slice a2 (n + 1 + 4) c2) rfl hS ?_
  refine tg 1 (.pointer (some ⟨E, 2, none⟩)) rfl hS ?_
  refine tg 2 (.pointer (some ⟨E, 2, none⟩)) rfl hS ?_
  refine tk 3 (.int .u8 r.k) rfl (yi_load 5 (.tmp 16) (.pointer (some ⟨E, 2, none⟩)) rfl rfl rfl (fun wq hw => by have q : wq.cell? ⟨E, 2, none⟩ = some (.int .u8 r.k) := (by rw [cell_of_row _ _ _ _ _ _ hw]; rfl); go_simp)) hS ?_
  refine tg 4 (.pointer (some ⟨E, 2, none⟩)) rfl hS ?_
  refine tg 5 (.pointer (some ⟨E, 3, none⟩)) rfl hS ?_
  refine tk 6 (.int .u8 r.y) rfl (yi_load 5 (.tmp 19) (.pointer (some ⟨E, 3, none⟩)) rfl rfl rfl (fun wq hw => by have q : wq.cell? ⟨E, 3, none⟩ = some (.int .u8 r.y) := (by rw [cell_of_row _ _ _ _ _ _ hw]; rfl); go_simp)) hS ?_
  refine tg 9 (.pointer (some ⟨E, 2, none⟩)) rfl hS ?_
  refine tg 10 (.pointer (some ⟨E, 4, none⟩)) rfl hS ?_
  refine tk 11 (.int .u16 r.v) rfl (yi_load 23 (.tmp 24) (.pointer (some ⟨E, 4, none⟩)) rfl rfl rfl (fun wq hw => by have q : wq.cell? ⟨E, 4, none⟩ = some (.int .u16 r.v) := (by rw [cell_of_row _ _ _ _ _ _ hw]; rfl); go_simp)) hS ?_
  refine tk 12 (.int .u64 r.v) rfl (.inl ⟨rfl, fun _ _ => by go_simp <;> first | exact hwt | exact hwv⟩) hS ?_
  refine rdy1 7 rfl (fun K hK => ?_)
  rw [if_pos (by rfl)]
  go_simp
  refine hK.out _ _ ((BX.out _ _ _ _ _ (M2.below (((Below.refl _ _).alloc (Nat.le_refl _) _).drew)))) (fun hS => ?_)
  clear hK K
  refine rdy1 8 rfl (fun K hK => ?_)
  rw [if_pos (by rfl)]
  refine app_e (M2.below (((Below.refl _ _).alloc (Nat.le_refl _) _).drew)) (.tmp 14) (.tmp 21) rfl rfl (some ⟨w2.heap.size, 0, none⟩) 2 2 [r.k, r.y] rfl rfl (by exact bytes_new _ [r.k, r.y] 5) (by intro h; cases h) (by omega) ?_
  intro a3 c3 w3 M3
  refine hK.out _ _ ((BX.out _ _ _ _ _ M3)) (fun hS => ?_)
  clear hK K
  refine rdy1 13 rfl (fun K hK => ?_)
  rw [if_pos (by rfl)]
  go_simp
  refine Calls.mono ((put_e M3 r.v 2 (n + 1 + 4 + 2 + 2) (by decide) (by omega) rfl)) ?_
  rintro e w4 ⟨a4, c4, rfl, M4⟩
  refine hK.out _ _ ((BX.out _ _ _ _ _ M4)) (fun hS => ?_)
  clear hK K
  refine tm 14 (.slice a4 (n + 1 + 4 + 2 + 2) c4) rfl hS ?_
  refine wpAnyH_done (by kernel_rfl) ?_ _
  clear hS
  go_wp2_with fail
  go_ret
  refine ⟨a4, c4, rfl, ?_⟩
  have q := M4.early HBW.out
  rw [be_4, be_2] at q
  have e : l ++ [r.c] ++ b4 r.t ++ [r.k, r.y] ++ b2 r.v = l ++ r.bytes := by simp [Rq.bytes]
  rw [e] at q
  exact q

theorem rqm_load {w' : World} {b o : Nat} {r : Rq} (G : ∀ i u, r.cells[i]? = some u → w'.cell? ⟨b, o + i, none⟩ = some u) : (Instr.loadAt 27 (.pointer (some ⟨b, o, none⟩))).run Tryz.prog w' = .ok (.agg r.cells.toArray) w' :=
  run_loadAt_mid (P := Tryz.prog) w' b o 27 r.cells _ (fun j v hv => G j v hv) Tryz.underlying27 rfl (by kernel_rfl)
theorem take_next {α : Type} {xs : List α} {j : Nat} {x : α} (hx : xs[j]? = some x) (f : α → List Int) : (xs.take (j + 1)).flatMap f = (xs.take j).flatMap f ++ f x := by
  rw [List.take_add_one, hx]; simp
/-- the cells of a row at an address -/
def RowC {α : Type} (wx : World) (k : Nat) (enc : α → List Value) (xs : List α) (b o : Nat) : Prop := ∀ j x, xs[j]? = some x → ∀ i u, (enc x)[i]? = some u → wx.cell? ⟨b, o + j * k + i, none⟩ = some u
theorem Row.cells {α : Type} {w : World} {k : Nat} {enc : α → List Value} {v : Sl} {xs : List α} (h : Row w k enc v.val xs) (hl : 0 < xs.length) : ∃ b o, v.a = some ⟨b, o, none⟩ ∧ RowC w k enc xs b o := by
  obtain ⟨a, c, e, -, -, -, hr⟩ := h
  simp only [Sl.val, Value.slice.injEq] at e
  obtain ⟨b, o, ha, -⟩ := hr 0 xs[0] (List.getElem?_eq_getElem hl)
  refine ⟨b, o, e.1.trans ha, fun j x hx i u hu => ?_⟩
  obtain ⟨b', o', ha', hr'⟩ := hr j x hx
  rw [ha] at ha'
  injection ha' with ha'
  injection ha' with e1 e2
  subst e1 e2
  exact hr' i u hu
theorem Row.len {α : Type} {w : World} {k : Nat} {enc : α → List Value} {v : Sl} {xs : List α} (h : Row w k enc v.val xs) : v.n = xs.length := by
  obtain ⟨a, c, e, -⟩ := h
  simp only [Sl.val, Value.slice.injEq] at e
  exact e.2.1
/-- an entry's numbers are in range -/
def EnR (x : En) : Prop := (0 ≤ x.s ∧ x.s ≤ 4294967295) ∧ (0 ≤ x.v ∧ x.v ≤ 4294967295) ∧ x.rq.ok

set_option maxHeartbeats 8000000 in
theorem refList_any {w : World} {ao : Option Addr} {n c : Nat} {l : List Int} (h : w.ownsRow 0 5 1 (.slice ao n c) n (vals l)) (v : Sl) (xs : List En) (hrow : ∀ wx a n' c' l', GR w (.slice ao n c) wx a n' c' l' → Row wx 7 En.cells v.val xs) (hok : ∀ x ∈ xs, EnR x) (hl : xs.length ≤ 40) (hn : n ≤ 700000) :
    Calls Tryz.prog 72 #[.slice ao n c, .slice v.a v.n v.c] w fun e w' => ∃ ao' c', e = .returned (.slice ao' (n + 1 + 17 * xs.length) c') ∧ GR w (.slice ao n c) w' ao' (n + 1 + 17 * xs.length) c' (l ++ entsB xs) := by
  have M0 := GR.start h
  have hlen := (hrow _ _ _ _ _ M0).len
  have hw8 : IntKind.u8.wrap (v.n : Int) = v.n := by
    have : IntKind.u8.wrap (v.n : Int) = (v.n : Int) % 256 := rfl
    omega
  have hnb : (v.n : Int) ≤ 40 := by omega
  obtain ⟨m, hm⟩ : ∃ m, m = v.n := ⟨_, rfl⟩
  rw [← hm] at hlen hw8 hnb ⊢
  rw [← hlen]
  have HR := Lib.hid hrow
  have HOK := Lib.hid hok
  have HL := Lib.hid hlen
  have HM := Lib.hid M0
  clear hrow hok hlen h M0 hm
  go_enter Tryz.func72, Tryz.ntmps72
  have B1 : Below w.heap.size w (w.alloc (.cells #[.int .u8 (m : Int)] 5)) := (Below.refl _ _).alloc (Nat.le_refl _) _
  have hO := HM.out.below B1
  have HO := Lib.hid hO
  clear hO B1
  go_wp2_with (at_builtin
               refine wpList_app _ rfl (.tmp 6) (.tmp 10) rfl (.slice ao n c) n l rfl HO.out.own (some ⟨w.heap.size, 0, none⟩) 1 1 [(m : Int)] rfl rfl (bytes_new w [(m : Int)] 5) (by intro h; cases h) (by omega) ?_
               intro a0 c0 w1 ho1 hk1 hg1
               have M1 := Lib.hid (HO.out.step ho1 hk1 (hg1.elim .inl (fun e => .inr ⟨_, e, Nat.le_refl _⟩)))
               clear ho1 hk1 hg1)
  go_loopw [0, 5] (fun v0 v5 wr => ∃ (j : Nat) (a1 : Option Addr) (c1 : Nat), v0 = .slice a1 (n + 1 + 17 * j) c1 ∧ v5 = .int .i64 j ∧ j ≤ m ∧ Hid (GR w (.slice ao n c) wr a1 (n + 1 + 17 * j) c1 (l ++ [(m : Int)] ++ (xs.take j).flatMap enB))) (fun _ v5 _ => m - (intOf v5).toNat)
  case atStart => exact ⟨0, a0, c0, rfl, rfl, by omega, Lib.hid (by simpa using M1.out)⟩
  case round =>
    obtain ⟨j, a1, c1, rfl, rfl, hj, I⟩ := hrel
    by_cases hjm : j < m
    · have hjm' : (j : Int) < m := by omega
      obtain ⟨x, hx⟩ : ∃ x, xs[j]? = some x := ⟨_, List.getElem?_eq_getElem (by rw [← HL.out]; exact hjm)⟩
      obtain ⟨b, o, ha, _⟩ := (HR.out _ _ _ _ _ I.out).cells (by rw [← HL.out]; omega)
      have HS := Lib.hid (fun wx a n' c' l' (g : GR w (.slice ao n c) wx a n' c' l') => show RowC wx 7 En.cells xs b o by
        obtain ⟨b', o', ha', hc⟩ := (HR.out _ _ _ _ _ g).cells (by rw [← HL.out]; omega)
        rw [ha] at ha'
        injection ha' with ha'
        injection ha' with e1 e2
        subst e1 e2
        exact hc)
      have hxo := HOK.out x (List.mem_of_getElem? hx)
      have hws : IntKind.u64.wrap x.s = x.s := by rw [IntKind.wrap_u64]; unfold EnR at hxo; omega
      have hwv : IntKind.u64.wrap x.v = x.v := by rw [IntKind.wrap_u64]; unfold EnR at hxo; omega
      have HXO := Lib.hid hxo
      have HX := Lib.hid hx
      have ID := I.out.below (Below.refl _ _).drew
      have ID := Lib.hid ID
      rw [ha]
      clear hx hxo ha
      obtain ⟨q, hq⟩ : ∃ q, q = n + 1 + 17 * j := ⟨_, rfl⟩
      rw [← hq] at I ID ⊢
      have hqb : q ≤ 700700 := by omega
      have HQ := Lib.hid hq
      clear hq
      go_wp2_with fail
      refine wp_region_held_drew (S := fun wx => RowC wx 7 En.cells xs b o) (by kernel_rfl) ((HS.out _ _ _ _ _ ID.out)) (fun hS => ?_)
      refine tm 0 (.slice a1 q c1) rfl hS ?_
      refine tm 1 (.slice (some ⟨b, o, none⟩) m v.c) rfl hS ?_
      refine tm 2 (.int .i64 ↑j) rfl hS ?_
      refine tg 3 (.pointer (some ⟨b, o + j * 7, none⟩)) rfl hS ?_
      refine tg 4 (.pointer (some ⟨b, o + j * 7, none⟩)) rfl hS ?_
      refine tk 5 (.int .u32 x.s) rfl (yi_load 22 (.tmp 22) (.pointer (some ⟨b, o + j * 7, none⟩)) rfl rfl rfl (fun wq hw => by have q : wq.cell? ⟨b, o + j * 7, none⟩ = some (.int .u32 x.s) := hw j x HX.out 0 _ rfl; go_simp)) hS ?_
      refine tk 6 (.int .u64 x.s) rfl (.inl ⟨rfl, fun _ _ => by go_simp <;> first | exact hws | exact hwv⟩) hS ?_
      refine tm 8 (.slice (some ⟨b, o, none⟩) m v.c) rfl hS ?_
      refine tm 9 (.int .i64 ↑j) rfl hS ?_
      refine tg 10 (.pointer (some ⟨b, o + j * 7, none⟩)) rfl hS ?_
      refine tg 11 (.pointer (some ⟨b, o + j * 7 + 1, none⟩)) rfl hS ?_
      refine tk 12 (.int .u32 x.v) rfl (yi_load 22 (.tmp 29) (.pointer (some ⟨b, o + j * 7 + 1, none⟩)) rfl rfl rfl (fun wq hw => by have q : wq.cell? ⟨b, o + j * 7 + 1, none⟩ = some (.int .u32 x.v) := hw j x HX.out 1 _ rfl; go_simp)) hS ?_
      refine tk 13 (.int .u64 x.v) rfl (.inl ⟨rfl, fun _ _ => by go_simp <;> first | exact hws | exact hwv⟩) hS ?_
      refine tm 15 (.slice (some ⟨b, o, none⟩) m v.c) rfl hS ?_
      refine tm 16 (.int .i64 ↑j) rfl hS ?_
      refine tg 17 (.pointer (some ⟨b, o + j * 7, none⟩)) rfl hS ?_
      refine tg 18 (.pointer (some ⟨b, o + j * 7 + 2, none⟩)) rfl hS ?_
      refine tk 19 (.agg x.rq.cells.toArray) rfl (yi_load 27 (.tmp 36) (.pointer (some ⟨b, o + j * 7 + 2, none⟩)) rfl rfl rfl (fun wq hw => rqm_load (fun i u hu => by have q := hw j x HX.out (2 + i) u (by rw [← hu, Nat.add_comm 2 i]; rfl); rwa [← Nat.add_assoc] at q))) hS ?_
      refine rdy1 7 rfl (fun K hK => ?_)
      rw [if_pos (by rfl)]
      go_simp
      refine Calls.mono ((put_e ID.out x.s 4 (q + 4) (by decide) (by omega) rfl)) ?_
      rintro e w2 ⟨a2, c2, rfl, M2⟩
      refine hK.out _ _ ((HS.out _ _ _ _ _ M2)) (fun hS => ?_)
      clear hK K
      refine rdy1 14 rfl (fun K hK => ?_)
      rw [if_pos (by rfl)]
      go_simp
      refine Calls.mono ((put_e M2 x.v 4 (q + 4 + 4) (by decide) (by omega) rfl)) ?_
      rintro e w3 ⟨a3, c3, rfl, M3⟩
      refine hK.out _ _ ((HS.out _ _ _ _ _ M3)) (fun hS => ?_)
      clear hK K
      refine rdy1 20 rfl (fun K hK => ?_)
      rw [if_pos (by rfl)]
      go_simp
      refine Calls.mono ((refReq_any M3.own x.rq HXO.out.2.2 (by omega))) ?_
      rintro e w4 ⟨a4, c4, rfl, R4⟩
      have M4 := M3.trans R4
      refine hK.out _ _ ((HS.out _ _ _ _ _ M4)) (fun hS => ?_)
      clear hK K
      refine tm 21 (.slice a4 (q + 4 + 4 + 9) c4) rfl hS ?_
      refine wpAnyH_done (by kernel_rfl) ?_ _
      have M5 := Lib.hid M4
      clear hS M2 M3 M4 R4
      go_wp2_with fail
      have hq := HQ.out
      refine ⟨⟨j + 1, a4, c4, by rw [show n + 1 + 17 * (j + 1) = q + 4 + 4 + 9 by omega], by go_num, by omega, Lib.hid ?_⟩, by simp [intOf]; omega⟩
      rw [show n + 1 + 17 * (j + 1) = q + 4 + 4 + 9 by omega, take_next HX.out]
      have e : l ++ [(m : Int)] ++ (List.take j xs).flatMap enB ++ be x.s 4 ++ be x.v 4 ++ x.rq.bytes = l ++ [(m : Int)] ++ ((List.take j xs).flatMap enB ++ enB x) := by
        simp [enB, be_4]
      rw [← e]
      exact M5.out
    · have hjm' : ¬ (j : Int) < m := by omega
      obtain rfl : m = j := by omega
      go_wp2_with fail
      go_ret
      refine ⟨a1, c1, rfl, ?_⟩
      have q := I.out
      rw [show List.take m xs = xs from List.take_of_length_le (by rw [← HL.out]; exact Nat.le_refl _), List.append_assoc, show [(m : Int)] ++ xs.flatMap enB = entsB xs by rw [HL.out]; rfl] at q
      exact q
end Go.Proofs.YtbpfkeeikhhlnaaGreatDoor
