/- Marks and entries, lists of them in memory, whether two lists are the same. -/
import Derived.Test.YtmkeckablkccnaaDoorSmall
import Derived.Shelf.SlicesQ.Load
import Derived.Lib.SlBy2
namespace Go.Proofs.YtmkeckablkccnaaDoor
open Go.RowKit
set_option maxRecDepth 100000

structure Mk where
  s : Int
  r : Int
deriving DecidableEq, Inhabited
def Mk.cells (x : Mk) : List Value := [.int .u32 x.s, .int .u64 x.r]

instance : Inhabited Rq := ⟨Rq.zero⟩

structure En where
  s : Int
  v : Int
  rq : Rq
deriving DecidableEq, Inhabited
def En.cells (x : En) : List Value := [.int .u32 x.s, .int .u32 x.v, .int .u8 x.rq.c, .int .u32 x.rq.t, .int .u8 x.rq.k, .int .u8 x.rq.y, .int .u16 x.rq.v]

/-- a list lies in memory, k cells an element -/
def Row {α : Type} (w : World) (k : Nat) (enc : α → List Value) (v : Value) (xs : List α) : Prop :=
  ∃ ao cap, v = .slice ao xs.length cap ∧ (ao = none → cap = 0) ∧ xs.length ≤ cap ∧ xs.length ≤ 1000000 ∧
    ∀ (j : Nat) (x : α), xs[j]? = some x → ∃ b off, ao = some ⟨b, off, none⟩ ∧ ∀ i u, (enc x)[i]? = some u → w.cell? ⟨b, off + j * k + i, none⟩ = some u

theorem Row.below {α : Type} {w w' : World} {k : Nat} {enc : α → List Value} {v : Value} {xs : List α} (h : Row w k enc v xs) (hb : Below w.heap.size w w') : Row w' k enc v xs := by
  obtain ⟨ao, cap, rfl, h1, h2, h3, h4⟩ := h
  refine ⟨ao, cap, rfl, h1, h2, h3, fun j x hj => ?_⟩
  obtain ⟨b, off, e, hc⟩ := h4 j x hj
  refine ⟨b, off, e, fun i u hu => ?_⟩
  have := hc i u hu
  rw [hb.cell (cell_block this)]; exact this

theorem Row.nil {α : Type} (w : World) (k : Nat) (enc : α → List Value) : Row w k enc (.slice none 0 0) [] :=
  ⟨none, 0, rfl, fun _ => rfl, Nat.le_refl _, by simp, fun j x hj => by simp at hj⟩

theorem neq_of_eql {P : Program} {T : TypeId} {a b : Array Value} {x : Bool} {w : World} (h : (binOp .eql T (.agg a) (.agg b)).run P w = .ok (.bool x) w) : (binOp .neq T (.agg a) (.agg b)).run P w = .ok (.bool (!x)) w := by
  simp only [binOp] at h ⊢
  generalize Op.equal T (Value.agg a) (Value.agg b) = m at h ⊢
  simp only [Sem.run_bind] at h ⊢
  cases hm : m.run P w with
  | ok b w1 => rw [hm] at h; simp at h ⊢; obtain ⟨h1, h2⟩ := h; subst h1; subst h2; simp
  | _ => rw [hm] at h; simp at h

theorem eql51 (x y : Mk) (w : World) : (binOp .eql 127 (.agg x.cells.toArray) (.agg y.cells.toArray)).run Tryd.prog w = .ok (.bool (decide (x = y))) w := by
  have u22 := Tryd.underlying22; have a22 := Tryd.isAgg22; have z22 := Tryd.sizeOf22
  have u28 := Tryd.underlying28; have a28 := Tryd.isAgg28; have z28 := Tryd.sizeOf28
  have hS : Tryd.prog.underlying 127 = some (.struct (Tryd.prog.fieldsOf 127)) := by kernel_rfl
  have hp : Tryd.prog.stoodInHeld 127 = false := by kernel_rfl
  simp only [Mk.cells]
  rw [run_eql_struct, show (10000 : Nat) = 9999 + 1 from rfl, run_equalIn_agg w 9999 127 _ _ hS hp]
  simp only [Program.fieldsOf, Tryd.underlying127]
  go_simp
  obtain ⟨x1, x2⟩ := x
  obtain ⟨y1, y2⟩ := y
  simp only [Mk.mk.injEq]
  by_cases h1 : x1 = y1 <;> by_cases h2 : x2 = y2 <;> simp [h1, h2]

theorem guard51 : GuardAt Tryd.prog 127 (fun x : Mk => .agg x.cells.toArray) := GuardAt.agg _ (by kernel_rfl)

theorem eql49 (x y : En) (w : World) : (binOp .eql 130 (.agg x.cells.toArray) (.agg y.cells.toArray)).run Tryd.prog w = .ok (.bool (decide (x = y))) w := by
  have u5 := Tryd.underlying5; have a5 := Tryd.isAgg5; have z5 := Tryd.sizeOf5
  have u22 := Tryd.underlying22; have a22 := Tryd.isAgg22; have z22 := Tryd.sizeOf22
  have u23 := Tryd.underlying23; have a23 := Tryd.isAgg23; have z23 := Tryd.sizeOf23
  have u25 := Tryd.underlying25; have a25 := Tryd.isAgg25; have z25 := Tryd.sizeOf25
  have u27 := Tryd.underlying27; have a27 := Tryd.isAgg27; have z27 := Tryd.sizeOf27
  have hS : Tryd.prog.underlying 130 = some (.struct (Tryd.prog.fieldsOf 130)) := by kernel_rfl
  have hp : Tryd.prog.stoodInHeld 130 = false := by kernel_rfl
  have hS7 : Tryd.prog.underlying 27 = some (.struct (Tryd.prog.fieldsOf 27)) := by kernel_rfl
  have hp7 : Tryd.prog.stoodInHeld 27 = false := by kernel_rfl
  have hS5 : Tryd.prog.underlying 25 = some (.struct (Tryd.prog.fieldsOf 25)) := by kernel_rfl
  have hp5 : Tryd.prog.stoodInHeld 25 = false := by kernel_rfl
  have h27 : ∀ (xs ys : Array Value) (w : World), (Op.equalIn 9999 27 (.agg xs) (.agg ys)).run Tryd.prog w = (Op.eqFields 9998 xs ys (Tryd.prog.fieldsOf 27).toList).run Tryd.prog w := fun xs ys w => by
    rw [show (9999 : Nat) = 9998 + 1 from rfl, run_equalIn_agg w 9998 27 _ _ hS7 hp7]
  have h25 : ∀ (xs ys : Array Value) (w : World), (Op.equalIn 9998 25 (.agg xs) (.agg ys)).run Tryd.prog w = (Op.eqFields 9997 xs ys (Tryd.prog.fieldsOf 25).toList).run Tryd.prog w := fun xs ys w => by
    rw [show (9998 : Nat) = 9997 + 1 from rfl, run_equalIn_agg w 9997 25 _ _ hS5 hp5]
  simp only [En.cells]
  rw [run_eql_struct, show (10000 : Nat) = 9999 + 1 from rfl, run_equalIn_agg w 9999 130 _ _ hS hp]
  simp only [Program.fieldsOf, Tryd.underlying130]
  simp only [Program.fieldsOf, Tryd.underlying25] at h25
  simp only [Program.fieldsOf, Tryd.underlying27] at h27
  go_simp
  obtain ⟨x1, x2, ⟨x3, x4, x5, x6, x7⟩⟩ := x
  obtain ⟨y1, y2, ⟨y3, y4, y5, y6, y7⟩⟩ := y
  simp only [En.mk.injEq, Rq.mk.injEq]
  by_cases h1 : x1 = y1 <;> by_cases h2 : x2 = y2 <;> by_cases h3 : x3 = y3 <;> by_cases h4 : x4 = y4 <;> by_cases h5 : x5 = y5 <;> by_cases h6 : x6 = y6 <;> by_cases h7 : x7 = y7 <;> simp [h1, h2, h3, h4, h5, h6, h7]

theorem guard49 : GuardAt Tryd.prog 130 (fun x : En => .agg x.cells.toArray) := GuardAt.agg _ (by kernel_rfl)

theorem ne_at {α : Type} {xs ys : List α} {j : Nat} {x y : α} (h1 : xs[j]? = some x) (h2 : ys[j]? = some y) (h : ¬ x = y) : ¬ xs = ys := fun e => h (by subst e; rw [h1] at h2; injection h2)

theorem same_up {α : Type} {xs ys : List α} {n : Nat} (h1 : xs.length = n) (h2 : ys.length = n) (h : ∀ i, i < n → xs[i]? = ys[i]?) : xs = ys :=
  List.ext_getElem? (fun i => by
    rcases Nat.lt_or_ge i n with h3 | h3
    · exact h i h3
    · rw [List.getElem?_eq_none (by omega), List.getElem?_eq_none (by omega)])

set_option maxHeartbeats 2000000 in
theorem equal63 (w : World) (v1 v2 : Value) (xs ys : List Mk) (h1 : Row w 2 Mk.cells v1 xs) (h2 : Row w 2 Mk.cells v2 ys) :
    Calls Tryd.prog 76 #[v1, v2] w fun e w' => e = .returned (.bool (decide (xs = ys))) ∧ Below w.heap.size w w' := by
  obtain ⟨a1, c1, rfl, -, -, hn1, hr1⟩ := h1
  obtain ⟨a2, c2, rfl, -, -, hn2, hr2⟩ := h2
  have H1 := Lib.hid hr1
  have H2 := Lib.hid hr2
  clear hr1 hr2
  by_cases hnm : xs.length = ys.length
  · generalize hn : xs.length = n at *
    generalize hm : ys.length = m at *
    subst hnm
    have HN := Lib.hid hn
    have HM := Lib.hid hm
    clear hn hm
    go_enter Tryd.func76, Tryd.ntmps76
    go_wp2_with fail
    go_loopw [5, 13] (fun _ vi wr => ∃ j q : Nat, j ≤ n ∧ vi = .int .i64 j ∧ wr = w.drewN q ∧ Hid (∀ i, i < j → xs[i]? = ys[i]?)) (fun _ i _ => n - (intOf i).toNat)
    case atStart => exact ⟨0, 0, by omega, rfl, rfl, Lib.hid (fun i h => by omega)⟩
    case round =>
      obtain ⟨j, q, hj, rfl, rfl, A⟩ := hrel
      by_cases hlt : j < n
      · obtain ⟨x, hx⟩ : ∃ x, xs[j]? = some x := ⟨_, List.getElem?_eq_getElem (by rw [HN.out]; exact hlt)⟩
        obtain ⟨y, hy⟩ : ∃ y, ys[j]? = some y := ⟨_, List.getElem?_eq_getElem (by rw [HM.out]; exact hlt)⟩
        obtain ⟨b1, o1, e1, g1⟩ := H1.out j x hx
        obtain ⟨b2, o2, e2, g2⟩ := H2.out j y hy
        subst e1; subst e2
        have HX := Lib.hid hx
        have HY := Lib.hid hy
        clear hx hy
        have l10 : (w.drewN q).cell? ⟨b1, o1 + j * 2, none⟩ = some (.int .u32 x.s) := by rw [World.cell?_drewN]; exact g1 0 _ rfl
        have l11 : (w.drewN q).cell? ⟨b1, o1 + j * 2 + 1, none⟩ = some (.int .u64 x.r) := by rw [World.cell?_drewN]; exact g1 1 _ rfl
        have l20 : (w.drewN q).cell? ⟨b2, o2 + j * 2, none⟩ = some (.int .u32 y.s) := by rw [World.cell?_drewN]; exact g2 0 _ rfl
        have l21 : (w.drewN q).cell? ⟨b2, o2 + j * 2 + 1, none⟩ = some (.int .u64 y.r) := by rw [World.cell?_drewN]; exact g2 1 _ rfl
        obtain ⟨wq, hwq⟩ : ∃ wq, wq = w.drewN q := ⟨_, rfl⟩
        have HWQ := Lib.hid hwq
        rw [← hwq] at l10 l11 l20 l21 ⊢
        clear g1 g2 hwq
        by_cases hxy : x = y
        · have hq : ∀ w, (binOp .neq 127 (.agg x.cells.toArray) (.agg y.cells.toArray)).run Tryd.prog w = .ok (.bool false) w := fun w => by rw [neq_of_eql (eql51 x y w)]; simp [hxy]
          have hg := fun op a b w => guard51 op a b x y w
          simp only [Mk.cells] at hq hg
          go_wp2_with fail
          go_quiet (fail)
          go_wp2_with fail
          go_round
          case measure => simp [intOf]; omega
          case rel =>
            refine ⟨j + 1, _, by omega, by go_num, by rw [HWQ.out, World.drewN_drewN], Lib.hid (fun i hi => ?_)⟩
            by_cases e : i = j
            · subst e; rw [HX.out, HY.out, hxy]
            · exact A.out i (by omega)
        · have hq : ∀ w, (binOp .neq 127 (.agg x.cells.toArray) (.agg y.cells.toArray)).run Tryd.prog w = .ok (.bool true) w := fun w => by rw [neq_of_eql (eql51 x y w)]; simp [hxy]
          have hg := fun op a b w => guard51 op a b x y w
          simp only [Mk.cells] at hq hg
          go_wp2_with fail
          go_quiet (fail)
          go_wp2_with fail
          go_ret
          have hne : ¬ xs = ys := ne_at HX.out HY.out hxy
          refine ⟨by simp [hne], ?_⟩
          rw [HWQ.out]
          exact ⟨rfl, rfl, rfl, Nat.le_refl _, fun _ _ => rfl⟩
      · obtain rfl : j = n := by omega
        go_wp2_with fail
        go_ret
        have he : xs = ys := same_up HN.out HM.out A.out
        refine ⟨by simp [he], ?_⟩
        exact ⟨rfl, rfl, rfl, Nat.le_refl _, fun _ _ => rfl⟩
  · have hne : ¬ xs = ys := fun e => hnm (by rw [e])
    have hnm' : ¬ (xs.length : Int) = (ys.length : Int) := by omega
    have HNE := Lib.hid hne
    clear hnm hne
    generalize hn : xs.length = n at *
    generalize hm : ys.length = m at *
    go_enter Tryd.func76, Tryd.ntmps76
    go_wp2_with fail
    go_ret
    exact ⟨by simp [HNE.out], Below.refl _ _⟩

set_option maxHeartbeats 2000000 in
theorem equal64 (w : World) (v1 v2 : Value) (xs ys : List En) (h1 : Row w 7 En.cells v1 xs) (h2 : Row w 7 En.cells v2 ys) :
    Calls Tryd.prog 77 #[v1, v2] w fun e w' => e = .returned (.bool (decide (xs = ys))) ∧ Below w.heap.size w w' := by
  obtain ⟨a1, c1, rfl, -, -, hn1, hr1⟩ := h1
  obtain ⟨a2, c2, rfl, -, -, hn2, hr2⟩ := h2
  have H1 := Lib.hid hr1
  have H2 := Lib.hid hr2
  clear hr1 hr2
  by_cases hnm : xs.length = ys.length
  · generalize hn : xs.length = n at *
    generalize hm : ys.length = m at *
    subst hnm
    have HN := Lib.hid hn
    have HM := Lib.hid hm
    clear hn hm
    go_enter Tryd.func77, Tryd.ntmps77
    go_wp2_with fail
    go_loopw [5, 13] (fun _ vi wr => ∃ j q : Nat, j ≤ n ∧ vi = .int .i64 j ∧ wr = w.drewN q ∧ Hid (∀ i, i < j → xs[i]? = ys[i]?)) (fun _ i _ => n - (intOf i).toNat)
    case atStart => exact ⟨0, 0, by omega, rfl, rfl, Lib.hid (fun i h => by omega)⟩
    case round =>
      obtain ⟨j, q, hj, rfl, rfl, A⟩ := hrel
      by_cases hlt : j < n
      · obtain ⟨x, hx⟩ : ∃ x, xs[j]? = some x := ⟨_, List.getElem?_eq_getElem (by rw [HN.out]; exact hlt)⟩
        obtain ⟨y, hy⟩ : ∃ y, ys[j]? = some y := ⟨_, List.getElem?_eq_getElem (by rw [HM.out]; exact hlt)⟩
        obtain ⟨b1, o1, e1, g1⟩ := H1.out j x hx
        obtain ⟨b2, o2, e2, g2⟩ := H2.out j y hy
        subst e1; subst e2
        have HX := Lib.hid hx
        have HY := Lib.hid hy
        clear hx hy
        have l10 : (w.drewN q).cell? ⟨b1, o1 + j * 7, none⟩ = some (.int .u32 x.s) := by rw [World.cell?_drewN]; exact g1 0 _ rfl
        have l11 : (w.drewN q).cell? ⟨b1, o1 + j * 7 + 1, none⟩ = some (.int .u32 x.v) := by rw [World.cell?_drewN]; exact g1 1 _ rfl
        have l12 : (w.drewN q).cell? ⟨b1, o1 + j * 7 + 2, none⟩ = some (.int .u8 x.rq.c) := by rw [World.cell?_drewN]; exact g1 2 _ rfl
        have l13 : (w.drewN q).cell? ⟨b1, o1 + j * 7 + 3, none⟩ = some (.int .u32 x.rq.t) := by rw [World.cell?_drewN]; exact g1 3 _ rfl
        have l14 : (w.drewN q).cell? ⟨b1, o1 + j * 7 + 4, none⟩ = some (.int .u8 x.rq.k) := by rw [World.cell?_drewN]; exact g1 4 _ rfl
        have l15 : (w.drewN q).cell? ⟨b1, o1 + j * 7 + 5, none⟩ = some (.int .u8 x.rq.y) := by rw [World.cell?_drewN]; exact g1 5 _ rfl
        have l16 : (w.drewN q).cell? ⟨b1, o1 + j * 7 + 6, none⟩ = some (.int .u16 x.rq.v) := by rw [World.cell?_drewN]; exact g1 6 _ rfl
        have l20 : (w.drewN q).cell? ⟨b2, o2 + j * 7, none⟩ = some (.int .u32 y.s) := by rw [World.cell?_drewN]; exact g2 0 _ rfl
        have l21 : (w.drewN q).cell? ⟨b2, o2 + j * 7 + 1, none⟩ = some (.int .u32 y.v) := by rw [World.cell?_drewN]; exact g2 1 _ rfl
        have l22 : (w.drewN q).cell? ⟨b2, o2 + j * 7 + 2, none⟩ = some (.int .u8 y.rq.c) := by rw [World.cell?_drewN]; exact g2 2 _ rfl
        have l23 : (w.drewN q).cell? ⟨b2, o2 + j * 7 + 3, none⟩ = some (.int .u32 y.rq.t) := by rw [World.cell?_drewN]; exact g2 3 _ rfl
        have l24 : (w.drewN q).cell? ⟨b2, o2 + j * 7 + 4, none⟩ = some (.int .u8 y.rq.k) := by rw [World.cell?_drewN]; exact g2 4 _ rfl
        have l25 : (w.drewN q).cell? ⟨b2, o2 + j * 7 + 5, none⟩ = some (.int .u8 y.rq.y) := by rw [World.cell?_drewN]; exact g2 5 _ rfl
        have l26 : (w.drewN q).cell? ⟨b2, o2 + j * 7 + 6, none⟩ = some (.int .u16 y.rq.v) := by rw [World.cell?_drewN]; exact g2 6 _ rfl
        obtain ⟨wq, hwq⟩ : ∃ wq, wq = w.drewN q := ⟨_, rfl⟩
        have HWQ := Lib.hid hwq
        rw [← hwq] at l10 l11 l12 l13 l14 l15 l16 l20 l21 l22 l23 l24 l25 l26 ⊢
        clear g1 g2 hwq
        by_cases hxy : x = y
        · have hq : ∀ w, (binOp .neq 130 (.agg x.cells.toArray) (.agg y.cells.toArray)).run Tryd.prog w = .ok (.bool false) w := fun w => by rw [neq_of_eql (eql49 x y w)]; simp [hxy]
          have hg := fun op a b w => guard49 op a b x y w
          simp only [En.cells] at hq hg
          go_wp2_with fail
          go_quiet (fail)
          go_wp2_with fail
          go_round
          case measure => simp [intOf]; omega
          case rel =>
            refine ⟨j + 1, _, by omega, by go_num, by rw [HWQ.out, World.drewN_drewN], Lib.hid (fun i hi => ?_)⟩
            by_cases e : i = j
            · subst e; rw [HX.out, HY.out, hxy]
            · exact A.out i (by omega)
        · have hq : ∀ w, (binOp .neq 130 (.agg x.cells.toArray) (.agg y.cells.toArray)).run Tryd.prog w = .ok (.bool true) w := fun w => by rw [neq_of_eql (eql49 x y w)]; simp [hxy]
          have hg := fun op a b w => guard49 op a b x y w
          simp only [En.cells] at hq hg
          go_wp2_with fail
          go_quiet (fail)
          go_wp2_with fail
          go_ret
          have hne : ¬ xs = ys := ne_at HX.out HY.out hxy
          refine ⟨by simp [hne], ?_⟩
          rw [HWQ.out]
          exact ⟨rfl, rfl, rfl, Nat.le_refl _, fun _ _ => rfl⟩
      · obtain rfl : j = n := by omega
        go_wp2_with fail
        go_ret
        have he : xs = ys := same_up HN.out HM.out A.out
        refine ⟨by simp [he], ?_⟩
        exact ⟨rfl, rfl, rfl, Nat.le_refl _, fun _ _ => rfl⟩
  · have hne : ¬ xs = ys := fun e => hnm (by rw [e])
    have hnm' : ¬ (xs.length : Int) = (ys.length : Int) := by omega
    have HNE := Lib.hid hne
    clear hnm hne
    generalize hn : xs.length = n at *
    generalize hm : ys.length = m at *
    go_enter Tryd.func77, Tryd.ntmps77
    go_wp2_with fail
    go_ret
    exact ⟨by simp [HNE.out], Below.refl _ _⟩

set_option maxHeartbeats 2000000 in
theorem equal30 (w : World) (v1 v2 : Value) (xs ys : List Int) (h1 : Row w 1 (fun x => [Value.int .u64 x]) v1 xs) (h2 : Row w 1 (fun x => [Value.int .u64 x]) v2 ys) :
    Calls Tryd.prog 42 #[v1, v2] w fun e w' => e = .returned (.bool (decide (xs = ys))) ∧ Below w.heap.size w w' := by
  obtain ⟨a1, c1, rfl, -, -, hn1, hr1⟩ := h1
  obtain ⟨a2, c2, rfl, -, -, hn2, hr2⟩ := h2
  have H1 := Lib.hid hr1
  have H2 := Lib.hid hr2
  clear hr1 hr2
  by_cases hnm : xs.length = ys.length
  · generalize hn : xs.length = n at *
    generalize hm : ys.length = m at *
    subst hnm
    have HN := Lib.hid hn
    have HM := Lib.hid hm
    clear hn hm
    go_enter Tryd.func42, Tryd.ntmps42
    go_wp2_with fail
    go_loopw [5, 13] (fun _ vi wr => ∃ j q : Nat, j ≤ n ∧ vi = .int .i64 j ∧ wr = w.drewN q ∧ Hid (∀ i, i < j → xs[i]? = ys[i]?)) (fun _ i _ => n - (intOf i).toNat)
    case atStart => exact ⟨0, 0, by omega, rfl, rfl, Lib.hid (fun i h => by omega)⟩
    case round =>
      obtain ⟨j, q, hj, rfl, rfl, A⟩ := hrel
      by_cases hlt : j < n
      · obtain ⟨x, hx⟩ : ∃ x, xs[j]? = some x := ⟨_, List.getElem?_eq_getElem (by rw [HN.out]; exact hlt)⟩
        obtain ⟨y, hy⟩ : ∃ y, ys[j]? = some y := ⟨_, List.getElem?_eq_getElem (by rw [HM.out]; exact hlt)⟩
        obtain ⟨b1, o1, e1, g1⟩ := H1.out j x hx
        obtain ⟨b2, o2, e2, g2⟩ := H2.out j y hy
        subst e1; subst e2
        have HX := Lib.hid hx
        have HY := Lib.hid hy
        clear hx hy
        have l1 : (w.drewN q).cell? ⟨b1, o1 + j, none⟩ = some (.int .u64 x) := by rw [World.cell?_drewN]; simpa using g1 0 _ rfl
        have l2 : (w.drewN q).cell? ⟨b2, o2 + j, none⟩ = some (.int .u64 y) := by rw [World.cell?_drewN]; simpa using g2 0 _ rfl
        obtain ⟨wq, hwq⟩ : ∃ wq, wq = w.drewN q := ⟨_, rfl⟩
        have HWQ := Lib.hid hwq
        rw [← hwq] at l1 l2 ⊢
        clear g1 g2 hwq
        by_cases hxy : x = y
        · have HXY := Lib.hid hxy
          go_wp2_with fail
          go_quiet (fail)
          go_wp2_with fail
          go_round
          case measure => simp [intOf]; omega
          case rel =>
            refine ⟨j + 1, _, by omega, by go_num, by rw [HWQ.out, World.drewN_drewN], Lib.hid (fun i hi => ?_)⟩
            by_cases e : i = j
            · subst e; rw [HX.out, HY.out, hxy]
            · exact A.out i (by omega)
        · have HXY := Lib.hid hxy
          go_wp2_with fail
          go_quiet (fail)
          go_wp2_with fail
          go_ret
          have hne : ¬ xs = ys := ne_at HX.out HY.out hxy
          refine ⟨by simp [hne], ?_⟩
          rw [HWQ.out]
          exact ⟨rfl, rfl, rfl, Nat.le_refl _, fun _ _ => rfl⟩
      · obtain rfl : j = n := by omega
        go_wp2_with fail
        go_ret
        have he : xs = ys := same_up HN.out HM.out A.out
        refine ⟨by simp [he], ?_⟩
        exact ⟨rfl, rfl, rfl, Nat.le_refl _, fun _ _ => rfl⟩
  · have hne : ¬ xs = ys := fun e => hnm (by rw [e])
    have hnm' : ¬ (xs.length : Int) = (ys.length : Int) := by omega
    have HNE := Lib.hid hne
    clear hnm hne
    generalize hn : xs.length = n at *
    generalize hm : ys.length = m at *
    go_enter Tryd.func42, Tryd.ntmps42
    go_wp2_with fail
    go_ret
    exact ⟨by simp [HNE.out], Below.refl _ _⟩

set_option maxHeartbeats 2000000 in
theorem equal31 (w : World) (a1 a2 : Option Addr) (c1 c2 : Nat) (xs ys : List Int) (h1 : Bytes w a1 xs) (h2 : Bytes w a2 ys) (hn1 : xs.length ≤ 1000000) (hn2 : ys.length ≤ 1000000) :
    Calls Tryd.prog 43 #[.slice a1 xs.length c1, .slice a2 ys.length c2] w fun e w' => e = .returned (.bool (decide (xs = ys))) ∧ Below w.heap.size w w' := by
  have H1 := Lib.hid h1
  have H2 := Lib.hid h2
  clear h1 h2
  by_cases hnm : xs.length = ys.length
  · generalize hn : xs.length = n at *
    generalize hm : ys.length = m at *
    subst hnm
    have HN := Lib.hid hn
    have HM := Lib.hid hm
    clear hn hm
    go_enter Tryd.func43, Tryd.ntmps43
    go_wp2_with fail
    go_loopw [5, 13] (fun _ vi wr => ∃ j q : Nat, j ≤ n ∧ vi = .int .i64 j ∧ wr = w.drewN q ∧ Hid (∀ i, i < j → xs[i]? = ys[i]?)) (fun _ i _ => n - (intOf i).toNat)
    case atStart => exact ⟨0, 0, by omega, rfl, rfl, Lib.hid (fun i h => by omega)⟩
    case round =>
      obtain ⟨j, q, hj, rfl, rfl, A⟩ := hrel
      by_cases hlt : j < n
      · obtain ⟨x, hx⟩ : ∃ x, xs[j]? = some x := ⟨_, List.getElem?_eq_getElem (by rw [HN.out]; exact hlt)⟩
        obtain ⟨y, hy⟩ : ∃ y, ys[j]? = some y := ⟨_, List.getElem?_eq_getElem (by rw [HM.out]; exact hlt)⟩
        obtain ⟨ad1, e1, g1⟩ := H1.out j (by rw [HN.out]; exact hlt)
        obtain ⟨ad2, e2, g2⟩ := H2.out j (by rw [HM.out]; exact hlt)
        subst e1; subst e2
        have l1 : (w.drewN q).cell? (ad1.add j) = some (.int .u8 x) := by rw [World.cell?_drewN, g1, List.getD_eq_getElem?_getD, hx]; rfl
        have l2 : (w.drewN q).cell? (ad2.add j) = some (.int .u8 y) := by rw [World.cell?_drewN, g2, List.getD_eq_getElem?_getD, hy]; rfl
        have HX := Lib.hid hx
        have HY := Lib.hid hy
        clear hx hy
        obtain ⟨wq, hwq⟩ : ∃ wq, wq = w.drewN q := ⟨_, rfl⟩
        have HWQ := Lib.hid hwq
        rw [← hwq] at l1 l2 ⊢
        clear g1 g2 hwq
        by_cases hxy : x = y
        · have HXY := Lib.hid hxy
          go_wp2_with fail
          go_quiet (fail)
          go_wp2_with fail
          go_round
          case measure => simp [intOf]; omega
          case rel =>
            refine ⟨j + 1, _, by omega, by go_num, by rw [HWQ.out, World.drewN_drewN], Lib.hid (fun i hi => ?_)⟩
            by_cases e : i = j
            · subst e; rw [HX.out, HY.out, hxy]
            · exact A.out i (by omega)
        · have HXY := Lib.hid hxy
          go_wp2_with fail
          go_quiet (fail)
          go_wp2_with fail
          go_ret
          have hne : ¬ xs = ys := ne_at HX.out HY.out hxy
          refine ⟨by simp [hne], ?_⟩
          rw [HWQ.out]
          exact ⟨rfl, rfl, rfl, Nat.le_refl _, fun _ _ => rfl⟩
      · obtain rfl : j = n := by omega
        go_wp2_with fail
        go_ret
        have he : xs = ys := same_up HN.out HM.out A.out
        refine ⟨by simp [he], ?_⟩
        exact ⟨rfl, rfl, rfl, Nat.le_refl _, fun _ _ => rfl⟩
  · have hne : ¬ xs = ys := fun e => hnm (by rw [e])
    have hnm' : ¬ (xs.length : Int) = (ys.length : Int) := by omega
    have HNE := Lib.hid hne
    clear hnm hne
    generalize hn : xs.length = n at *
    generalize hm : ys.length = m at *
    go_enter Tryd.func43, Tryd.ntmps43
    go_wp2_with fail
    go_ret
    exact ⟨by simp [HNE.out], Below.refl _ _⟩

end Go.Proofs.YtmkeckablkccnaaDoor
