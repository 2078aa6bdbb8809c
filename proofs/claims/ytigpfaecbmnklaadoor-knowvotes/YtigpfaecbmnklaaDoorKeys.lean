/- Keys of maps. -/
import Derived.Test.YtigpfaecbmnklaaDoorEncV
import Derived.Maps.OwnSet
import Derived.DeepKeys4
import Derived.StringKeys
namespace Go.Proofs.YtigpfaecbmnklaaDoor
open Go.RowKit Go.Maps
set_option maxRecDepth 100000

theorem laidOutT : laidOutB Tryd.prog = true := by kernel_rfl
theorem law59 : Keyed Tryd.prog 59 := Keyed.of_law (deep_law_laid laidOutT (m := 3) (by omega) (of_decide_eq_true (by kernel_rfl)) (by kernel_rfl) (by kernel_rfl))
theorem law27 : Keyed Tryd.prog 27 := Keyed.of_law (deep_law_laid laidOutT (m := 4) (by omega) (of_decide_eq_true (by kernel_rfl)) (by kernel_rfl) (by kernel_rfl))
theorem law9 : Keyed Tryd.prog 9 := string_keyed Tryd.underlying9

/-- a key -/
structure Ky where
  o : Int
  e : Int
deriving DecidableEq
def Ky.cells (k : Ky) : List Value := [.int .u8 k.o, .int .u8 k.e]
def Ky.ok (k : Ky) : Prop := (0 ≤ k.o ∧ k.o ≤ 255) ∧ (0 ≤ k.e ∧ k.e ≤ 255)

theorem wf8 {a : Int} (h : 0 ≤ a ∧ a ≤ 255) : (Lit.int .u8 a).wf = true := by simp [Lit.wf, IntKind.min, IntKind.max, IntKind.signed, IntKind.bits]; omega
theorem wf16 {a : Int} (h : 0 ≤ a ∧ a ≤ 65535) : (Lit.int .u16 a).wf = true := by simp [Lit.wf, IntKind.min, IntKind.max, IntKind.signed, IntKind.bits]; omega
theorem wf32 {a : Int} (h : 0 ≤ a ∧ a ≤ 4294967295) : (Lit.int .u32 a).wf = true := by simp [Lit.wf, IntKind.min, IntKind.max, IntKind.signed, IntKind.bits]; omega

theorem key59 (k : Ky) (h : k.ok) : ∃ l, keyOf Tryd.prog 59 (.agg k.cells.toArray) = some l := by
  have w1 := wf8 h.1
  have w2 := wf8 h.2
  have kt : Tryd.prog.keyType 59 = true := by kernel_rfl
  have c59 : Tryd.prog.cellsOf 59 = 2 := by kernel_rfl
  have c5 : Tryd.prog.cellsOf 5 = 1 := by kernel_rfl
  have hts : 5 ≤ Tryd.prog.types.size := of_decide_eq_true (by kernel_rfl)
  obtain ⟨d, hd⟩ : ∃ d, Tryd.prog.types.size = d + 5 := ⟨_, (Nat.sub_add_cancel hts).symm⟩
  simp only [keyOf, Tryd.underlying59, kt, hd, Ky.cells]
  simp [Value.formed, Program.keyLits, Tryd.underlying59, Tryd.underlying5, Value.cells, c59, c5, w1, w2]

theorem key27 (r : Rq) (h : r.ok) : ∃ l, keyOf Tryd.prog 27 (.agg r.cells.toArray) = some l := by
  obtain ⟨h1, h2, h3, h4, h5⟩ := h
  have w1 := wf8 h1
  have w2 := wf32 h2
  have w3 := wf8 h3
  have w4 := wf8 h4
  have w5 := wf16 h5
  have kt : Tryd.prog.keyType 27 = true := by kernel_rfl
  have c27 : Tryd.prog.cellsOf 27 = 5 := by kernel_rfl
  have c25 : Tryd.prog.cellsOf 25 = 3 := by kernel_rfl
  have c5 : Tryd.prog.cellsOf 5 = 1 := by kernel_rfl
  have c22 : Tryd.prog.cellsOf 22 = 1 := by kernel_rfl
  have c23 : Tryd.prog.cellsOf 23 = 1 := by kernel_rfl
  have hts : 5 ≤ Tryd.prog.types.size := of_decide_eq_true (by kernel_rfl)
  obtain ⟨d, hd⟩ : ∃ d, Tryd.prog.types.size = d + 5 := ⟨_, (Nat.sub_add_cancel hts).symm⟩
  simp only [keyOf, Tryd.underlying27, kt, hd, Rq.cells]
  simp [Value.formed, Program.keyLits, Tryd.underlying27, Tryd.underlying25, Tryd.underlying5, Tryd.underlying22, Tryd.underlying23, Value.cells, c27, c25, c5, c22, c23, w1, w2, w3, w4, w5]
  rw [if_pos (by decide)]
  exact ⟨_, rfl⟩

theorem key9 (s : ByteArray) (h : s.size ≤ 100000) : ∃ l, keyOf Tryd.prog 9 (.string s) = some l := ⟨_, Go.WideMaps.keyOf_string_mk Tryd.underlying9 (by simp only [maxLen]; omega)⟩

theorem zero143 (w : World) : (zeroValue 143).run Tryd.prog w = .ok (.agg #[]) w := by kernel_rfl

theorem sameKey_self {l : Lit} (h : WideAt.IsKeyLit l) : l.sameKey l = true := by
  have h1 := has_setOf (H := Unit) (.agg []) l [l] (by simpa using h)
  have h2 : has (setOf (H := Unit) (.agg []) [l]) l = true := has_put_same (isMap_empty (H := Unit)) h (.agg [])
  rw [h2] at h1
  simpa using h1.symm

/-- a set in memory: nil, or a map with just these keys -/
def SetIs {α : Type} (enc : α → Value) (w : World) (K : TypeId) (o : Option Nat) (xs : List α) : Prop :=
  ∃ ls : List Lit, xs.map (fun x => keyOf Tryd.prog K (enc x)) = ls.map some ∧ (o = none → xs = []) ∧ ∀ b, o = some b → w.ownsMap Tryd.prog K (unitElem (H := Unit)) b ls.length (setOf (.agg []) ls)

theorem SetIs.nil {α : Type} (enc : α → Value) (w : World) (K : TypeId) : SetIs enc w K none [] := ⟨[], rfl, fun _ => rfl, fun b e => by cases e⟩

theorem SetIs.lt {α : Type} {enc : α → Value} {w : World} {K : TypeId} {o : Option Nat} {xs : List α} (h : SetIs enc w K o xs) {b : Nat} (e : o = some b) : b < w.heap.size := by
  obtain ⟨ls, _, _, h3⟩ := h
  exact (h3 b e).lt

theorem SetIs.kept {α : Type} {enc : α → Value} {S : Nat → Prop} {w w' : World} {K : TypeId} {o : Option Nat} {xs : List α} (h : SetIs enc w K o xs) (hk : Kept S w w') (hS : ∀ b, o = some b → ¬ S b) : SetIs enc w' K o xs := by
  obtain ⟨ls, h1, h2, h3⟩ := h
  refine ⟨ls, h1, h2, fun b e => ?_⟩
  have hlt := (h3 b e).lt
  obtain ⟨es, clock, hb, r⟩ := h3 b e
  exact ⟨es, clock, by rw [hk.block b hlt (hS b e)]; exact hb, r⟩

theorem lits_len {α : Type} {f : α → Option Lit} {xs : List α} {ls : List Lit} (h : xs.map f = ls.map some) : ls.length = xs.length := by
  have := congrArg List.length h; simpa using this.symm

theorem lits_mem {α : Type} {f : α → Option Lit} {xs : List α} {ls : List Lit} (h : xs.map f = ls.map some) {l : Lit} : l ∈ ls ↔ ∃ x ∈ xs, f x = some l := by
  constructor
  · intro hl
    have : some l ∈ ls.map some := List.mem_map.2 ⟨l, hl, rfl⟩
    rw [← h] at this
    obtain ⟨x, hx, e⟩ := List.mem_map.1 this
    exact ⟨x, hx, e⟩
  · rintro ⟨x, hx, e⟩
    have : some l ∈ xs.map f := List.mem_map.2 ⟨x, hx, e⟩
    rw [h] at this
    obtain ⟨l', hl', e'⟩ := List.mem_map.1 this
    injection e' with e'
    rw [← e']; exact hl'

/-- is it on the list? -/
def memB {α : Type} [DecidableEq α] (x : α) (xs : List α) : Bool := decide (x ∈ xs)

theorem SetIs.look {α : Type} [DecidableEq α] {enc : α → Value} {w : World} {K T : TypeId} {o : Option Nat} {xs : List α} (h : SetIs enc w K o xs) (law : Keyed Tryd.prog K) (ht : Tryd.prog.underlying T = some (.map K 143)) (hinj : ∀ x y, enc x = enc y → x = y) (x : α) {l : Lit} (hx : keyOf Tryd.prog K (enc x) = some l) :
    (Instr.lookup T (.map o) (enc x) true).run Tryd.prog w = .ok (.tuple #[.agg #[], .bool (memB x xs)]) w := by
  obtain ⟨ls, h1, h2, h3⟩ := h
  cases o with
  | none =>
    obtain rfl := h2 rfl
    have := Maps.look_nil (w := w) true law ht (zero143 w) hx
    rw [this]; simp [memB]
  | some b =>
    obtain ⟨v, ps, hrun, hv⟩ := (h3 b rfl).look_ok law ht (zero143 w) unitElem_mk hx
    obtain ⟨rfl, _⟩ := unitElem_inv hv
    rw [hrun]
    have hk : ∀ y ∈ ls, WideAt.IsKeyLit y := fun y hy => by
      obtain ⟨z, _, e⟩ := (lits_mem h1).1 hy
      exact law.key e
    rw [has_setOf _ _ _ hk]
    suffices e : (ls.any fun y => y.sameKey l) = memB x xs by rw [e]
    unfold memB
    by_cases hm : x ∈ xs
    · rw [decide_eq_true hm, List.any_eq_true]
      exact ⟨l, (lits_mem h1).2 ⟨x, hm, hx⟩, sameKey_self (law.key hx)⟩
    · rw [decide_eq_false hm, List.any_eq_false]
      intro y hy hs
      apply hm
      have e : y = l := Classical.byContradiction fun hne => by rw [sameKey_ne hne] at hs; cases hs
      subst e
      obtain ⟨z, hz, e⟩ := (lits_mem h1).1 hy
      rw [hinj x z (law.inj hx e)]; exact hz

theorem SetIs.put {α : Type} {enc : α → Value} {w' : World} {K : TypeId} {b n : Nat} {xs : List α} {ls : List Lit} (h1 : xs.map (fun x => keyOf Tryd.prog K (enc x)) = ls.map some) {x : α} {l : Lit} (hx : keyOf Tryd.prog K (enc x) = some l) (hn : n = ls.length)
    (hown : w'.ownsMap Tryd.prog K (unitElem (H := Unit)) b (n + 1) ((setOf (.agg []) ls).put l (.agg []))) : SetIs enc w' K (some b) (xs ++ [x]) := by
  refine ⟨ls ++ [l], by simp [h1, hx], (fun e => by cases e), fun b' e => ?_⟩
  injection e with e
  subst e
  rw [setOf_snoc]
  subst hn
  simpa using hown

def kyV (k : Ky) : Value := .agg k.cells.toArray
def rqV (r : Rq) : Value := .agg r.cells.toArray
theorem kyV_inj (x y : Ky) (h : kyV x = kyV y) : x = y := by
  obtain ⟨a, b⟩ := x; obtain ⟨c, d⟩ := y
  simp [kyV, Ky.cells] at h
  simp [h]
theorem rqV_inj (x y : Rq) (h : rqV x = rqV y) : x = y := by
  obtain ⟨a1, a2, a3, a4, a5⟩ := x; obtain ⟨b1, b2, b3, b4, b5⟩ := y
  simp [rqV, Rq.cells] at h
  simp [h]
def stV (l : List UInt8) : Value := .string ⟨l.toArray⟩
theorem stV_inj (x y : List UInt8) (h : stV x = stV y) : x = y := by
  unfold stV at h
  injection h with h
  injection h with h
  exact List.toArray_inj h

set_option maxHeartbeats 1000000 in
theorem has88 (w : World) (o : Option Nat) (xs : List Ky) (k : Ky) (hk : k.ok) (h : SetIs kyV w 59 o xs) : Calls Tryd.prog 88 #[.map o, .agg k.cells.toArray] w fun e w' => e = .returned (.bool (memB k xs)) ∧ Below w.heap.size w w' := by
  obtain ⟨l, hl⟩ := key59 k hk
  have hb : ∀ ob, Below w.heap.size w (w.alloc ob) := fun ob => (Below.refl _ _).alloc (Nat.le_refl _) _
  have hrun : ∀ ob, (Instr.lookup 101 (.map o) (.agg k.cells.toArray) true).run Tryd.prog (w.alloc ob) = .ok (.tuple #[.agg #[], .bool (memB k xs)]) (w.alloc ob) := fun ob =>
    (h.kept (Kept.ofBelow (S := fun _ => False) (hb ob)) (fun _ _ h => h)).look law59 Tryd.underlying101 kyV_inj k hl
  generalize memB k xs = db at *
  simp only [Ky.cells] at hrun ⊢
  clear h hl
  go_enter Tryd.func88, Tryd.ntmps88
  go_wp2_with fail
  go_ret
  refine ⟨rfl, ?_⟩
  first | exact ((Below.refl _ _).alloc (Nat.le_refl _) _).alloc (by simp) _ | exact (((Below.refl _ _).alloc (Nat.le_refl _) _).alloc (by simp) _).alloc (by simp; omega) _

set_option maxHeartbeats 1000000 in
theorem has58 (w : World) (o : Option Nat) (xs : List Rq) (k : Rq) (hk : k.ok) (h : SetIs rqV w 27 o xs) : Calls Tryd.prog 58 #[.map o, .agg k.cells.toArray] w fun e w' => e = .returned (.bool (memB k xs)) ∧ Below w.heap.size w w' := by
  obtain ⟨l, hl⟩ := key27 k hk
  have hb : ∀ ob, Below w.heap.size w (w.alloc ob) := fun ob => (Below.refl _ _).alloc (Nat.le_refl _) _
  have hrun : ∀ ob, (Instr.lookup 103 (.map o) (.agg k.cells.toArray) true).run Tryd.prog (w.alloc ob) = .ok (.tuple #[.agg #[], .bool (memB k xs)]) (w.alloc ob) := fun ob =>
    (h.kept (Kept.ofBelow (S := fun _ => False) (hb ob)) (fun _ _ h => h)).look law27 Tryd.underlying103 rqV_inj k hl
  generalize memB k xs = db at *
  simp only [Rq.cells] at hrun ⊢
  clear h hl
  go_enter Tryd.func58, Tryd.ntmps58
  go_wp2_with fail
  go_ret
  refine ⟨rfl, ?_⟩
  exact ((Below.refl _ _).alloc (Nat.le_refl _) _).alloc (by simp) _

set_option maxHeartbeats 1000000 in
theorem has59 (w : World) (o : Option Nat) (xs : List (List UInt8)) (k : List UInt8) (hk : k.length ≤ 100000) (h : SetIs stV w 9 o xs) : Calls Tryd.prog 59 #[.map o, .string ⟨k.toArray⟩] w fun e w' => e = .returned (.bool (memB k xs)) ∧ Below w.heap.size w w' := by
  obtain ⟨l, hl⟩ := key9 ⟨k.toArray⟩ (by simpa [ByteArray.size] using hk)
  have hrun : (Instr.lookup 105 (.map o) (.string ⟨k.toArray⟩) true).run Tryd.prog w = .ok (.tuple #[.agg #[], .bool (memB k xs)]) w := h.look law9 Tryd.underlying105 stV_inj k hl
  generalize memB k xs = db at *
  generalize (⟨k.toArray⟩ : ByteArray) = ks at *
  clear h hl
  go_enter Tryd.func59, Tryd.ntmps59
  go_wp2_with fail
  go_ret
  exact ⟨rfl, (Below.refl _ _).alloc (Nat.le_refl _) _⟩
end Go.Proofs.YtigpfaecbmnklaaDoor
