/- Lists of a vote: whether each is one, and stands above the one ahead. -/
import Derived.Test.YtmkeckablkccnaaDoorVote
import Derived.Deep.Cut
import Derived.Deep.QuietTactic
import Derived.BigQuiet
namespace Go.Proofs.YtmkeckablkccnaaDoor
open Go.RowKit
set_option maxRecDepth 100000

/-- the i-th of a list is one, and above the one ahead -/
def stepB {α : Type} (ok : α → Bool) (ab : α → α → Bool) (l : List α) (i : Nat) : Bool :=
  match l[i]? with
  | none => true
  | some x => ok x && (match i with
    | 0 => true
    | j + 1 => match l[j]? with
      | none => true
      | some y => ab x y)
/-- forty at most, each one, and above the one ahead -/
def upB {α : Type} (ok : α → Bool) (ab : α → α → Bool) (l : List α) : Bool := decide (l.length ≤ 40) && (List.range l.length).all (stepB ok ab l)

theorem stepB_zero {α : Type} {ok : α → Bool} {ab : α → α → Bool} {l : List α} {x : α} (h : l[0]? = some x) : stepB ok ab l 0 = ok x := by simp [stepB, h]
theorem stepB_succ {α : Type} {ok : α → Bool} {ab : α → α → Bool} {l : List α} {j : Nat} {x y : α} (h : l[j + 1]? = some x) (h' : l[j]? = some y) : stepB ok ab l (j + 1) = (ok x && ab x y) := by simp [stepB, h, h']
theorem stepB_not {α : Type} {ok : α → Bool} {ab : α → α → Bool} {l : List α} {j : Nat} {x : α} (h : l[j]? = some x) (hx : ok x = false) : stepB ok ab l j = false := by simp [stepB, h, hx]
theorem upB_false {α : Type} {ok : α → Bool} {ab : α → α → Bool} {l : List α} {j : Nat} (hj : j < l.length) (h : stepB ok ab l j = false) : upB ok ab l = false := by
  unfold upB
  have : (List.range l.length).all (stepB ok ab l) = false := by
    rw [List.all_eq_false]
    exact ⟨j, List.mem_range.2 hj, by simp [h]⟩
  rw [this]; simp
theorem upB_true {α : Type} {ok : α → Bool} {ab : α → α → Bool} {l : List α} (h40 : l.length ≤ 40) (h : ∀ i, i < l.length → stepB ok ab l i = true) : upB ok ab l = true := by
  unfold upB
  have : (List.range l.length).all (stepB ok ab l) = true := by
    rw [List.all_eq_true]
    intro i hi
    exact h i (List.mem_range.1 hi)
  rw [this]; simp [h40]
theorem upB_long {α : Type} {ok : α → Bool} {ab : α → α → Bool} {l : List α} (h : ¬ l.length ≤ 40) : upB ok ab l = false := by
  unfold upB; simp [h]

theorem bel_drewN {H : Nat} {a w : World} (h : Below H a w) (n : Nat) : Below H a (w.drewN n) := by
  have hk : Kept (fun _ => False) w (w.drewN n) := (Kept.refl _ w).drewN n
  exact ⟨hk.os.trans h.os, hk.tape.trans h.tape, hk.output.trans h.output, Nat.le_trans h.size hk.size, fun k hk' => by
    by_cases hlt : k < w.heap.size
    · rw [hk.block k hlt (fun h => h)]; exact h.block k hk'
    · have e : (w.drewN n).heap = w.heap := rfl
      rw [e]; exact h.block k hk'⟩

def mkOk (x : Mk) : Bool := isSq x.s
def mkAb (x y : Mk) : Bool := decide (y.s < x.s)

set_option maxHeartbeats 2000000 in
theorem areMarks_any (w : World) (v : Sl) (xs : List Mk) (h1 : Row w 2 Mk.cells v.val xs) :
    Calls Tryd.prog 111 #[.slice v.a v.n v.c] w fun e w' => e = .returned (.bool (upB mkOk mkAb xs)) ∧ Below w.heap.size w w' := by
  obtain ⟨a1, c1, q1, -, -, hn1, hr1⟩ := h1
  simp only [Sl.val] at q1
  rw [q1]
  clear q1
  have H1 := Lib.hid hr1
  clear hr1
  obtain ⟨r, hr⟩ : ∃ r, r = upB mkOk mkAb xs := ⟨_, rfl⟩
  rw [← hr]
  have HR := Lib.hid hr
  clear hr
  by_cases h40 : xs.length ≤ 40
  · generalize hn : xs.length = n at *
    have HN := Lib.hid hn
    have h40' : ¬ (n : Int) > 40 := by omega
    clear hn
    go_enter Tryd.func111, Tryd.ntmps111
    go_wp2_with fail
    go_loopw [10] (fun vi wr => ∃ j : Nat, j ≤ n ∧ vi = .int .i64 j ∧ Hid (Below w.heap.size w wr) ∧ Hid (∀ i, i < j → stepB mkOk mkAb xs i = true)) (fun i _ => n - (intOf i).toNat)
    case atStart => exact ⟨0, by omega, rfl, Lib.hid (Below.refl _ _), Lib.hid (fun i h => by omega)⟩
    case round =>
      obtain ⟨j, hj, rfl, HB, A⟩ := hrel
      by_cases hlt : j < n
      · obtain ⟨x, hx⟩ : ∃ x, xs[j]? = some x := ⟨_, List.getElem?_eq_getElem (by rw [HN.out]; exact hlt)⟩
        obtain ⟨b1, o1, e1, g1⟩ := H1.out j x hx
        have G : ∀ i u, x.cells[i]? = some u → wr.cell? ⟨b1, o1 + j * 2 + i, none⟩ = some u := fun i u hu => by
          have h3 := g1 i u hu
          rw [HB.out.cell (cell_block h3)]; exact h3
        have l10 : wr.cell? ⟨b1, o1 + j * 2, none⟩ = some (.int .u32 x.s) := G 0 _ rfl
        have l11 : wr.cell? ⟨b1, o1 + j * 2 + 1, none⟩ = some (.int .u64 x.r) := G 1 _ rfl
        have HX := Lib.hid hx
        have CI := Lib.hid (isSeq_any x.s)
        generalize hs : isSq x.s = sb at CI
        have HS := Lib.hid hs
        clear hx g1 G hs
        subst e1
        have HNEW := Lib.hid (fun o => HB.out.alloc HB.out.size o)
        go_upto_region 6 with fail
        obtain ⟨W, hW⟩ : ∃ W, W = wr.alloc (.cells #[.int .u32 x.s, .int .u64 x.r] 127) := ⟨_, rfl⟩
        have p0 : W.cell? ⟨wr.heap.size, 0, none⟩ = some (.int .u32 x.s) := by rw [hW]; simp
        have HBW := Lib.hid (show Below w.heap.size w W by rw [hW]; exact HNEW.out _)
        rw [← hW]
        clear hW l10 l11 HNEW
        cases sb
        · go_quiet ((go_at_call 82; exact Calls.quiet_of_same (CI.out _)))
          go_wp2_with fail
          go_ret
          refine ⟨?_, bel_drewN HBW.out _⟩
          rw [HR.out, upB_false (by rw [HN.out]; exact hlt) (stepB_not HX.out (by unfold mkOk; exact HS.out))]; rfl
        · rcases Nat.eq_zero_or_pos j with h0 | h0
          · subst h0
            go_quiet ((go_at_call 82; exact Calls.quiet_of_same (CI.out _)))
            go_wp2_with fail
            go_round
            case measure => simp [intOf]; omega
            case rel =>
              refine ⟨1, by omega, by go_num, Lib.hid (bel_drewN HBW.out _), Lib.hid (fun i hi => ?_)⟩
              obtain rfl : i = 0 := by omega
              rw [stepB_zero HX.out]; exact HS.out
          · obtain ⟨i, rfl⟩ : ∃ i, j = i + 1 := ⟨j - 1, by omega⟩
            obtain ⟨y, hy⟩ : ∃ y, xs[i]? = some y := ⟨_, List.getElem?_eq_getElem (by rw [HN.out]; omega)⟩
            have py : W.cell? ⟨b1, o1 + i * 2, none⟩ = some (.int .u32 y.s) := by
              obtain ⟨b2, o2, e2, g2⟩ := H1.out i y hy
              injection e2 with e2; injection e2 with e3 e4; subst e3; subst e4
              have h3 : w.cell? ⟨b1, o1 + i * 2, none⟩ = some (.int .u32 y.s) := g2 0 _ rfl
              rw [HBW.out.cell (cell_block h3)]; exact h3
            have HY := Lib.hid hy
            clear hy
            by_cases hg : y.s ≥ x.s
            · have HG := Lib.hid hg
              go_quiet ((go_at_call 82; exact Calls.quiet_of_same (CI.out _)))
              go_wp2_with fail
              go_ret
              refine ⟨?_, bel_drewN HBW.out _⟩
              have e : stepB mkOk mkAb xs (i + 1) = false := by
                rw [stepB_succ HX.out HY.out]; unfold mkAb; have := HG.out; simp; intro _; omega
              rw [HR.out, upB_false (by rw [HN.out]; exact hlt) e]; rfl
            · have HG := Lib.hid hg
              go_quiet ((go_at_call 82; exact Calls.quiet_of_same (CI.out _)))
              go_wp2_with fail
              go_round
              case measure => simp [intOf]; omega
              case rel =>
                refine ⟨i + 2, by omega, by go_num, Lib.hid (bel_drewN HBW.out _), Lib.hid (fun k hk => ?_)⟩
                by_cases e : k = i + 1
                · subst e
                  rw [stepB_succ HX.out HY.out]; unfold mkOk mkAb; rw [HS.out]; have := HG.out; simp; omega
                · exact A.out k (by omega)
      · obtain rfl : j = n := by omega
        go_wp2_with fail
        go_ret
        refine ⟨?_, HB.out⟩
        rw [HR.out, upB_true (by rw [HN.out]; exact h40) (by rw [HN.out]; exact A.out)]; rfl
  · have HL := Lib.hid (upB_long (ok := mkOk) (ab := mkAb) h40)
    generalize hn : xs.length = n at *
    have h40' : (n : Int) > 40 := by omega
    clear hn
    go_enter Tryd.func111, Tryd.ntmps111
    go_wp2_with fail
    go_ret
    exact ⟨by rw [HR.out, HL.out]; rfl, Below.refl _ _⟩
end Go.Proofs.YtmkeckablkccnaaDoor
