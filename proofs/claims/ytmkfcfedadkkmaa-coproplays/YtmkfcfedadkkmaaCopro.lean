/- A coprocessor in memory, the program's and the document's: what each call on it tells and leaves. -/
import Derived.Test.YtmkfcfedadkkmaaRows
import Derived.WalkKit
import Derived.WalkSpells
import Derived.WalkLawsBesides
import Derived.OwnWalk
import Derived.Below
import Derived.OneCell
import Derived.Lib.Hide
import Derived.Deep.RegionWith
namespace Go.Proofs.Ytmkfcfedadkkmaa
open Go.RowKit
set_option maxRecDepth 100000

/-- the blocks in S aside, what was there is as it was -/
structure Kept (S : Nat → Prop) (w w' : World) : Prop where
  os : w'.os = w.os
  tape : w'.tape = w.tape
  output : w'.output = w.output
  size : w.heap.size ≤ w'.heap.size
  block : ∀ k, k < w.heap.size → ¬ S k → w'.heap[k]? = w.heap[k]?

theorem Kept.refl (S : Nat → Prop) (w : World) : Kept S w w := ⟨rfl, rfl, rfl, Nat.le_refl _, fun _ _ _ => rfl⟩

theorem Kept.trans {S T : Nat → Prop} {a b c : World} (h : Kept S a b) (k : Kept T b c) (hT : ∀ i, i < a.heap.size → T i → S i) : Kept S a c :=
  ⟨k.os.trans h.os, k.tape.trans h.tape, k.output.trans h.output, Nat.le_trans h.size k.size,
    fun i hi hs => (k.block i (Nat.lt_of_lt_of_le hi h.size) (fun ht => hs (hT i hi ht))).trans (h.block i hi hs)⟩

theorem Kept.drew {S : Nat → Prop} {a w : World} (h : Kept S a w) : Kept S a w.drew := ⟨h.os, h.tape, h.output, h.size, h.block⟩

theorem Kept.alloc {S : Nat → Prop} {a w : World} (h : Kept S a w) (o : Obj) : Kept S a (w.alloc o) :=
  h.trans (T := fun _ => False) ⟨rfl, rfl, rfl, by simp, fun k hk _ => Below.heap_alloc _ _ _ hk⟩ (fun _ _ h => h.elim)

theorem Kept.setCell {S : Nat → Prop} {a w : World} (h : Kept S a w) (p : Addr) (u : Value) (hp : p.block < a.heap.size → S p.block) : Kept S a (w.setCell p u) :=
  h.trans (T := fun k => k = p.block) ⟨rfl, rfl, rfl, by simp [World.setCell], fun k _ hk => Below.heap_setCell _ _ _ _ hk⟩ (fun i hi e => by subst e; exact hp hi)

theorem Kept.below {S : Nat → Prop} {a w : World} {B : Nat} (h : Kept S a w) (hB : B ≤ a.heap.size) (hS : ∀ k, S k → B ≤ k) : Below B a w :=
  ⟨h.os, h.tape, h.output, h.size, fun k hk => h.block k (by omega) (fun hs => by have := hS k hs; omega)⟩

/-- what a coprocessor holds; p: the epochs of its peers -/
structure Cp where
  id : Int
  e : Int
  v : Int
  p : Nat → Int
  h : Bool

def Cp.cells (c : Cp) : Array Value := #[.int .u8 c.id, .int .u8 c.e, .int .u32 c.v, .int .u8 (c.p 0), .int .u8 (c.p 1), .int .u8 (c.p 2), .int .u8 (c.p 3), .bool c.h]
/-- at block B lies a coprocessor (T: the program's type or the document's) -/
def At (T : TypeId) (w : World) (B : Nat) (c : Cp) : Prop := w.heap[B]? = some (.cells c.cells T (0, 0))

theorem At.cell {T : TypeId} {w : World} {B : Nat} {c : Cp} (h : At T w B c) (i : Nat) : w.cell? ⟨B, i, none⟩ = c.cells[i]? := by unfold At at h; simp [World.cell?, h]
theorem At.free {T : TypeId} {w : World} {B : Nat} {c : Cp} (h : At T w B c) (i : Nat) : w.frozen? ⟨B, i, none⟩ = false := by unfold At at h; simp [World.frozen?, h]
theorem At.lt {T : TypeId} {w : World} {B : Nat} {c : Cp} (h : At T w B c) : B < w.heap.size := lt_of_block h
theorem At.drew {T : TypeId} {w : World} {B : Nat} {c : Cp} (h : At T w B c) : At T w.drew B c := h
theorem At.kept {T : TypeId} {S : Nat → Prop} {w w' : World} {B : Nat} {c : Cp} (h : At T w B c) (k : Kept S w w') (hS : ¬ S B) : At T w' B c := (k.block B h.lt hS).trans h
theorem At.set {T : TypeId} {w : World} {B : Nat} {c c' : Cp} (h : At T w B c) (i : Nat) (u : Value) (e : c.cells.setIfInBounds i u = c'.cells) : At T (w.setCell ⟨B, i, none⟩ u) B c' := by
  unfold At at h ⊢
  rw [← e]
  exact heap_setCell_same _ _ _ _ _ _ h

def Cp.new (id : Int) : Cp := ⟨id, 1, 0, fun _ => 1, false⟩
/-- what a coprocessor can hold -/
structure Cp.Ok (c : Cp) : Prop where
  id : 0 ≤ c.id ∧ c.id ≤ 255
  e : 1 ≤ c.e ∧ c.e ≤ 200
  v : 0 ≤ c.v ∧ c.v ≤ 1048576
  p : ∀ j, 1 ≤ c.p j ∧ c.p j ≤ 200
  h : c.h = true → c.e = 200

def Cp.next (c : Cp) : Cp := if c.e = 200 then { c with h := true } else { c with e := c.e + 1 }
def Cp.raise (c : Cp) (x : Int) : Cp := if c.h then c else { c with v := max c.v (min x 1048576) }
def Cp.peer (c : Cp) (k : Int) : Int := if k = c.id then c.e else if k < 4 then c.p k.toNat else 0
def Cp.canMeet (c : Cp) (k x : Int) : Bool := !c.h && k != c.id && decide (k < 4) && decide (c.p k.toNat < x) && decide (x ≤ 200)
def Cp.meet (c : Cp) (k x : Int) : Cp := if c.canMeet k x then { c with p := fun j => if j = k.toNat then x else c.p j } else c

set_option maxHeartbeats 1000000 in
theorem id_any (w : World) (B : Nat) (c : Cp) (h : At 48 w B c) : Calls Try.prog 19 #[.pointer (some ⟨B, 0, none⟩)] w fun e w' => e = .returned (.int .u8 c.id) ∧ w = w' := by
  have h0 : w.cell? ⟨B, 0, none⟩ = some (.int .u8 c.id) := h.cell 0
  clear h
  go_enter Try.func19, Try.ntmps19
  go_wp2
  go_ret
  exact ⟨rfl, rfl⟩

set_option maxHeartbeats 1000000 in
theorem epoch_any (w : World) (B : Nat) (c : Cp) (h : At 48 w B c) : Calls Try.prog 12 #[.pointer (some ⟨B, 0, none⟩)] w fun e w' => e = .returned (.int .u8 c.e) ∧ w = w' := by
  have h0 : w.cell? ⟨B, 1, none⟩ = some (.int .u8 c.e) := h.cell 1
  clear h
  go_enter Try.func12, Try.ntmps12
  go_wp2
  go_ret
  exact ⟨rfl, rfl⟩

set_option maxHeartbeats 1000000 in
theorem view_any (w : World) (B : Nat) (c : Cp) (h : At 48 w B c) : Calls Try.prog 13 #[.pointer (some ⟨B, 0, none⟩)] w fun e w' => e = .returned (.int .u32 c.v) ∧ w = w' := by
  have h0 : w.cell? ⟨B, 2, none⟩ = some (.int .u32 c.v) := h.cell 2
  clear h
  go_enter Try.func13, Try.ntmps13
  go_wp2
  go_ret
  exact ⟨rfl, rfl⟩

set_option maxHeartbeats 1000000 in
theorem halted_any (w : World) (B : Nat) (c : Cp) (h : At 48 w B c) : Calls Try.prog 18 #[.pointer (some ⟨B, 0, none⟩)] w fun e w' => e = .returned (.bool c.h) ∧ w = w' := by
  have h0 : w.cell? ⟨B, 7, none⟩ = some (.bool c.h) := h.cell 7
  clear h
  go_enter Try.func18, Try.ntmps18
  go_wp2
  go_ret
  exact ⟨rfl, rfl⟩

set_option maxHeartbeats 1000000 in
theorem next_any (w : World) (B : Nat) (c : Cp) (h : At 48 w B c) (ok : c.Ok) : Calls Try.prog 10 #[.pointer (some ⟨B, 0, none⟩)] w fun e w' => e = .returned (.int .i64 (if c.e = 200 then 50 else 0)) ∧ At 48 w' B c.next ∧ Kept (fun k => k = B) w w' := by
  have h1 : w.cell? ⟨B, 1, none⟩ = some (.int .u8 c.e) := h.cell 1
  have h7 : w.cell? ⟨B, 7, none⟩ = some (.bool c.h) := h.cell 7
  have f1 := h.free 1
  have f4 := h.free 7
  have hb := ok.e
  have HA := Lib.hid h
  clear h ok
  unfold Cp.next
  by_cases he : c.e = 200
  · rw [if_pos he, if_pos he]
    have HE := Lib.hid he
    have e1 : (c.e == 200) = true := by simp [he]
    clear he
    go_enter Try.func10, Try.ntmps10
    go_wp2
    go_ret
    exact ⟨rfl, HA.out.set 7 _ rfl, (Kept.refl _ w).setCell _ _ (fun _ => rfl)⟩
  · rw [if_neg he, if_neg he]
    have e1 : (c.e == 200) = false := by simp [he]
    clear he
    go_enter Try.func10, Try.ntmps10
    go_wp2
    go_ret
    refine ⟨rfl, HA.out.set 1 _ ?_, (Kept.refl _ w).setCell _ _ (fun _ => rfl)⟩
    rfl

set_option maxHeartbeats 1000000 in
theorem raise_any (w : World) (B : Nat) (c : Cp) (x : Int) (h : At 48 w B c) (ok : c.Ok) (hx : 0 ≤ x ∧ x ≤ 4294967295) : Calls Try.prog 14 #[.pointer (some ⟨B, 0, none⟩), .int .u32 x] w fun e w' => e = .returned (.tuple #[]) ∧ At 48 w' B (c.raise x) ∧ Kept (fun k => k = B) w w' := by
  have h1 : w.cell? ⟨B, 2, none⟩ = some (.int .u32 c.v) := h.cell 2
  have h2 : w.cell? ⟨B, 7, none⟩ = some (.bool c.h) := h.cell 7
  have f1 := h.free 2
  have hb := ok.v
  have HA := Lib.hid h
  clear h ok
  unfold Cp.raise
  obtain ⟨ci, ce, cv, cp, ch⟩ := c
  cases ch
  · simp only [] at *
    go_enter Try.func14, Try.ntmps14
    go_wp2
    all_goals
      go_end0
      refine ⟨rfl, HA.out.set 2 _ ?_, (Kept.refl _ w).setCell _ _ (fun _ => rfl)⟩
      simp [Cp.cells]
      omega
  · simp only [] at *
    go_enter Try.func14, Try.ntmps14
    go_wp2
    go_end0
    exact ⟨rfl, HA.out, Kept.refl _ w⟩

set_option maxHeartbeats 1000000 in
theorem refRaise_any (w : World) (B : Nat) (c : Cp) (x : Int) (h : At 39 w B c) (ok : c.Ok) (hx : 0 ≤ x ∧ x ≤ 4294967295) : Calls Try.prog 15 #[.pointer (some ⟨B, 0, none⟩), .int .u32 x] w fun e w' => e = .returned (.tuple #[]) ∧ At 39 w' B (c.raise x) ∧ Kept (fun k => k = B) w w' := by
  have h1 : w.cell? ⟨B, 2, none⟩ = some (.int .u32 c.v) := h.cell 2
  have h2 : w.cell? ⟨B, 7, none⟩ = some (.bool c.h) := h.cell 7
  have f1 := h.free 2
  have hb := ok.v
  have HA := Lib.hid h
  clear h ok
  unfold Cp.raise
  obtain ⟨ci, ce, cv, cp, ch⟩ := c
  cases ch
  · simp only [] at *
    go_enter Try.func15, Try.ntmps15
    go_wp2
    all_goals
      go_end0
      refine ⟨rfl, HA.out.set 2 _ ?_, (Kept.refl _ w).setCell _ _ (fun _ => rfl)⟩
      simp [Cp.cells]
      omega
  · simp only [] at *
    go_enter Try.func15, Try.ntmps15
    go_wp2
    go_end0
    exact ⟨rfl, HA.out, Kept.refl _ w⟩

set_option maxHeartbeats 1000000 in
theorem peer_any (w : World) (B : Nat) (c : Cp) (k : Int) (h : At 48 w B c) (hk : 0 ≤ k ∧ k ≤ 255) : Calls Try.prog 20 #[.pointer (some ⟨B, 0, none⟩), .int .u8 k] w fun e w' => e = .returned (.int .u8 (c.peer k)) ∧ w = w' := by
  have h0 : w.cell? ⟨B, 0, none⟩ = some (.int .u8 c.id) := h.cell 0
  have h1 : w.cell? ⟨B, 1, none⟩ = some (.int .u8 c.e) := h.cell 1
  have h3 : w.cell? ⟨B, 3, none⟩ = some (.int .u8 (c.p 0)) := h.cell 3
  have h4 : w.cell? ⟨B, 4, none⟩ = some (.int .u8 (c.p 1)) := h.cell 4
  have h5 : w.cell? ⟨B, 5, none⟩ = some (.int .u8 (c.p 2)) := h.cell 5
  have h6 : w.cell? ⟨B, 6, none⟩ = some (.int .u8 (c.p 3)) := h.cell 6
  clear h
  unfold Cp.peer
  by_cases he : k = c.id
  · rw [if_pos he]
    have e1 : (k == c.id) = true := by simp [he]
    clear he
    go_enter Try.func20, Try.ntmps20
    go_wp2
    go_ret
    exact ⟨rfl, rfl⟩
  · rw [if_neg he]
    by_cases hl : k < 4
    · rw [if_pos hl]
      have hc : k = 0 ∨ k = 1 ∨ k = 2 ∨ k = 3 := by omega
      have e1 : (k == c.id) = false := by simp [he]
      clear he hl hk
      rcases hc with rfl | rfl | rfl | rfl
      all_goals
        go_enter Try.func20, Try.ntmps20
        go_wp2
        go_ret
        exact ⟨rfl, rfl⟩
    · rw [if_neg hl]
      have e1 : (k == c.id) = false := by simp [he]
      clear he
      go_enter Try.func20, Try.ntmps20
      go_wp2
      go_ret
      exact ⟨rfl, rfl⟩

set_option maxHeartbeats 1000000 in
theorem refPeer_any (w : World) (B : Nat) (c : Cp) (k : Int) (h : At 39 w B c) (hk : 0 ≤ k ∧ k ≤ 255) : Calls Try.prog 21 #[.pointer (some ⟨B, 0, none⟩), .int .u8 k] w fun e w' => e = .returned (.int .u8 (c.peer k)) ∧ w = w' := by
  have h0 : w.cell? ⟨B, 0, none⟩ = some (.int .u8 c.id) := h.cell 0
  have h1 : w.cell? ⟨B, 1, none⟩ = some (.int .u8 c.e) := h.cell 1
  have h3 : w.cell? ⟨B, 3, none⟩ = some (.int .u8 (c.p 0)) := h.cell 3
  have h4 : w.cell? ⟨B, 4, none⟩ = some (.int .u8 (c.p 1)) := h.cell 4
  have h5 : w.cell? ⟨B, 5, none⟩ = some (.int .u8 (c.p 2)) := h.cell 5
  have h6 : w.cell? ⟨B, 6, none⟩ = some (.int .u8 (c.p 3)) := h.cell 6
  clear h
  unfold Cp.peer
  by_cases he : k = c.id
  · rw [if_pos he]
    have e1 : (k == c.id) = true := by simp [he]
    clear he
    go_enter Try.func21, Try.ntmps21
    go_wp2
    go_ret
    exact ⟨rfl, rfl⟩
  · rw [if_neg he]
    by_cases hl : k < 4
    · rw [if_pos hl]
      have hc : k = 0 ∨ k = 1 ∨ k = 2 ∨ k = 3 := by omega
      have e1 : (k == c.id) = false := by simp [he]
      clear he hl hk
      rcases hc with rfl | rfl | rfl | rfl
      all_goals
        go_enter Try.func21, Try.ntmps21
        go_wp2
        go_ret
        exact ⟨rfl, rfl⟩
    · rw [if_neg hl]
      have e1 : (k == c.id) = false := by simp [he]
      clear he
      go_enter Try.func21, Try.ntmps21
      go_wp2
      go_ret
      exact ⟨rfl, rfl⟩

set_option maxHeartbeats 1000000 in
theorem meet_at (w : World) (B : Nat) (c : Cp) (k : Nat) (x : Int) (h : At 48 w B c) (ok : c.Ok) (hk : k = 0 ∨ k = 1 ∨ k = 2 ∨ k = 3) (hx : 0 ≤ x ∧ x ≤ 255) (e0 : c.h = false) (e1 : ((k : Int) == c.id) = false) (e2 : c.p k < x) (e3 : x ≤ 200) :
    Calls Try.prog 16 #[.pointer (some ⟨B, 0, none⟩), .int .u8 k, .int .u8 x] w fun e w' => e = .returned (.bool true) ∧ w.setCell ⟨B, 3 + k, none⟩ (.int .u8 x) = w' := by
  have h0 : w.cell? ⟨B, 0, none⟩ = some (.int .u8 c.id) := h.cell 0
  have h3 : w.cell? ⟨B, 3, none⟩ = some (.int .u8 (c.p 0)) := h.cell 3
  have h4 : w.cell? ⟨B, 4, none⟩ = some (.int .u8 (c.p 1)) := h.cell 4
  have h5 : w.cell? ⟨B, 5, none⟩ = some (.int .u8 (c.p 2)) := h.cell 5
  have h6 : w.cell? ⟨B, 6, none⟩ = some (.int .u8 (c.p 3)) := h.cell 6
  have h7 : w.cell? ⟨B, 7, none⟩ = some (.bool false) := (h.cell 7).trans (by simp [Cp.cells, e0])
  have hb := ok.p k
  have f3 := h.free 3
  have f4 := h.free 4
  have f5 := h.free 5
  have f6 := h.free 6
  clear h ok e0
  rcases hk with rfl | rfl | rfl | rfl
  · replace e1 : ((0 : Int) == c.id) = false := e1
    go_enter Try.func16, Try.ntmps16
    go_wp2
    go_ret
    exact ⟨rfl, rfl⟩
  · replace e1 : ((1 : Int) == c.id) = false := e1
    go_enter Try.func16, Try.ntmps16
    go_wp2
    go_ret
    exact ⟨rfl, rfl⟩
  · replace e1 : ((2 : Int) == c.id) = false := e1
    go_enter Try.func16, Try.ntmps16
    go_wp2
    go_ret
    exact ⟨rfl, rfl⟩
  · replace e1 : ((3 : Int) == c.id) = false := e1
    go_enter Try.func16, Try.ntmps16
    go_wp2
    go_ret
    exact ⟨rfl, rfl⟩

set_option maxHeartbeats 1000000 in
theorem meet_no (w : World) (B : Nat) (c : Cp) (k x : Int) (h : At 48 w B c) (ok : c.Ok) (hk : 0 ≤ k ∧ k ≤ 255) (_hx : 0 ≤ x ∧ x ≤ 255)
    (hn : c.h = true ∨ (c.h = false ∧ (k == c.id) = true) ∨ (c.h = false ∧ (k == c.id) = false ∧ 4 ≤ k) ∨ (c.h = false ∧ (k == c.id) = false ∧ k < 4 ∧ x ≤ c.p k.toNat) ∨ (c.h = false ∧ (k == c.id) = false ∧ k < 4 ∧ c.p k.toNat < x ∧ 200 < x)) :
    Calls Try.prog 16 #[.pointer (some ⟨B, 0, none⟩), .int .u8 k, .int .u8 x] w fun e w' => e = .returned (.bool false) ∧ w = w' := by
  have h0 : w.cell? ⟨B, 0, none⟩ = some (.int .u8 c.id) := h.cell 0
  have h3 : w.cell? ⟨B, 3, none⟩ = some (.int .u8 (c.p 0)) := h.cell 3
  have h4 : w.cell? ⟨B, 4, none⟩ = some (.int .u8 (c.p 1)) := h.cell 4
  have h5 : w.cell? ⟨B, 5, none⟩ = some (.int .u8 (c.p 2)) := h.cell 5
  have h6 : w.cell? ⟨B, 6, none⟩ = some (.int .u8 (c.p 3)) := h.cell 6
  have h7 : w.cell? ⟨B, 7, none⟩ = some (.bool c.h) := h.cell 7
  have hb0 := ok.p 0
  have hb1 := ok.p 1
  have hb2 := ok.p 2
  have hb3 := ok.p 3
  clear h ok
  rcases hn with e0 | ⟨e0, e1⟩ | ⟨e0, e1, e2⟩ | ⟨e0, e1, e2, e3⟩ | ⟨e0, e1, e2, e3, e4⟩
  · rw [e0] at h7
    clear e0
    go_enter Try.func16, Try.ntmps16
    go_wp2
    go_ret
    exact ⟨rfl, rfl⟩
  · rw [e0] at h7
    clear e0
    go_enter Try.func16, Try.ntmps16
    go_wp2
    go_ret
    exact ⟨rfl, rfl⟩
  · rw [e0] at h7
    clear e0
    go_enter Try.func16, Try.ntmps16
    go_wp2
    go_ret
    exact ⟨rfl, rfl⟩
  · rw [e0] at h7
    clear e0
    have hc : k = 0 ∨ k = 1 ∨ k = 2 ∨ k = 3 := by omega
    clear hk e2
    rcases hc with rfl | rfl | rfl | rfl
    all_goals
      simp only [show (0 : Int).toNat = 0 from rfl, show (1 : Int).toNat = 1 from rfl, show (2 : Int).toNat = 2 from rfl, show (3 : Int).toNat = 3 from rfl] at e3
      go_enter Try.func16, Try.ntmps16
      go_wp2
      go_ret
      exact ⟨rfl, rfl⟩
  · rw [e0] at h7
    clear e0
    have hc : k = 0 ∨ k = 1 ∨ k = 2 ∨ k = 3 := by omega
    clear hk e2
    rcases hc with rfl | rfl | rfl | rfl
    all_goals
      simp only [show (0 : Int).toNat = 0 from rfl, show (1 : Int).toNat = 1 from rfl, show (2 : Int).toNat = 2 from rfl, show (3 : Int).toNat = 3 from rfl] at e3
      go_enter Try.func16, Try.ntmps16
      go_wp2
      go_ret
      exact ⟨rfl, rfl⟩

theorem meet_any (w : World) (B : Nat) (c : Cp) (k x : Int) (h : At 48 w B c) (ok : c.Ok) (hk : 0 ≤ k ∧ k ≤ 255) (hx : 0 ≤ x ∧ x ≤ 255) :
    Calls Try.prog 16 #[.pointer (some ⟨B, 0, none⟩), .int .u8 k, .int .u8 x] w fun e w' => e = .returned (.bool (c.canMeet k x)) ∧ At 48 w' B (c.meet k x) ∧ Kept (fun k => k = B) w w' := by
  unfold Cp.meet
  by_cases hc : c.canMeet k x = true
  · rw [hc, if_pos rfl]
    unfold Cp.canMeet at hc
    simp only [Bool.and_eq_true, Bool.not_eq_true', bne_iff_ne, ne_eq, decide_eq_true_eq] at hc
    obtain ⟨⟨⟨⟨a1, a2⟩, a3⟩, a4⟩, a5⟩ := hc
    obtain ⟨n, rfl⟩ := Int.eq_ofNat_of_zero_le hk.1
    have hn : n = 0 ∨ n = 1 ∨ n = 2 ∨ n = 3 := by omega
    refine (meet_at w B c n x h ok hn hx a1 (by simpa using a2) a4 a5).mono ?_
    rintro e w' ⟨rfl, rfl⟩
    refine ⟨rfl, h.set _ _ ?_, (Kept.refl _ w).setCell _ _ (fun _ => rfl)⟩
    rcases hn with rfl | rfl | rfl | rfl <;> rfl
  · have hf : c.canMeet k x = false := by simpa using hc
    rw [hf, if_neg (by decide)]
    refine (meet_no w B c k x h ok hk hx ?_).mono ?_
    · clear hc
      unfold Cp.canMeet at hf
      cases hh : c.h
      · right
        cases hi : (k == c.id)
        · right
          by_cases h4 : k < 4
          · right
            by_cases h5 : c.p k.toNat < x
            · right
              refine ⟨rfl, rfl, h4, h5, ?_⟩
              have hne : ¬ k = c.id := by simpa using hi
              simp [hh, hne, h4, h5] at hf
              exact hf
            · left; exact ⟨rfl, rfl, h4, by omega⟩
          · left; exact ⟨rfl, rfl, by omega⟩
        · left; exact ⟨rfl, rfl⟩
      · left; rfl
    · rintro e w' ⟨rfl, rfl⟩
      exact ⟨rfl, h, Kept.refl _ _⟩

set_option maxHeartbeats 1000000 in
theorem refMeet_at (w : World) (B : Nat) (c : Cp) (k : Nat) (x : Int) (h : At 39 w B c) (ok : c.Ok) (hk : k = 0 ∨ k = 1 ∨ k = 2 ∨ k = 3) (hx : 0 ≤ x ∧ x ≤ 255) (e0 : c.h = false) (e1 : ((k : Int) == c.id) = false) (e2 : c.p k < x) (e3 : x ≤ 200) :
    Calls Try.prog 17 #[.pointer (some ⟨B, 0, none⟩), .int .u8 k, .int .u8 x] w fun e w' => e = .returned (.bool true) ∧ w.setCell ⟨B, 3 + k, none⟩ (.int .u8 x) = w' := by
  have h0 : w.cell? ⟨B, 0, none⟩ = some (.int .u8 c.id) := h.cell 0
  have h3 : w.cell? ⟨B, 3, none⟩ = some (.int .u8 (c.p 0)) := h.cell 3
  have h4 : w.cell? ⟨B, 4, none⟩ = some (.int .u8 (c.p 1)) := h.cell 4
  have h5 : w.cell? ⟨B, 5, none⟩ = some (.int .u8 (c.p 2)) := h.cell 5
  have h6 : w.cell? ⟨B, 6, none⟩ = some (.int .u8 (c.p 3)) := h.cell 6
  have h7 : w.cell? ⟨B, 7, none⟩ = some (.bool false) := (h.cell 7).trans (by simp [Cp.cells, e0])
  have hb := ok.p k
  have f3 := h.free 3
  have f4 := h.free 4
  have f5 := h.free 5
  have f6 := h.free 6
  clear h ok e0
  rcases hk with rfl | rfl | rfl | rfl
  · replace e1 : ((0 : Int) == c.id) = false := e1
    go_enter Try.func17, Try.ntmps17
    go_wp2
    go_ret
    exact ⟨rfl, rfl⟩
  · replace e1 : ((1 : Int) == c.id) = false := e1
    go_enter Try.func17, Try.ntmps17
    go_wp2
    go_ret
    exact ⟨rfl, rfl⟩
  · replace e1 : ((2 : Int) == c.id) = false := e1
    go_enter Try.func17, Try.ntmps17
    go_wp2
    go_ret
    exact ⟨rfl, rfl⟩
  · replace e1 : ((3 : Int) == c.id) = false := e1
    go_enter Try.func17, Try.ntmps17
    go_wp2
    go_ret
    exact ⟨rfl, rfl⟩

set_option maxHeartbeats 1000000 in
theorem refMeet_no (w : World) (B : Nat) (c : Cp) (k x : Int) (h : At 39 w B c) (ok : c.Ok) (hk : 0 ≤ k ∧ k ≤ 255) (hx : 0 ≤ x ∧ x ≤ 255)
    (hn : c.h = true ∨ (c.h = false ∧ (k == c.id) = true) ∨ (c.h = false ∧ (k == c.id) = false ∧ 4 ≤ k) ∨ (c.h = false ∧ (k == c.id) = false ∧ k < 4 ∧ x ≤ c.p k.toNat) ∨ (c.h = false ∧ (k == c.id) = false ∧ k < 4 ∧ c.p k.toNat < x ∧ 200 < x)) :
    Calls Try.prog 17 #[.pointer (some ⟨B, 0, none⟩), .int .u8 k, .int .u8 x] w fun e w' => e = .returned (.bool false) ∧ w = w' := by
  have h0 : w.cell? ⟨B, 0, none⟩ = some (.int .u8 c.id) := h.cell 0
  have h3 : w.cell? ⟨B, 3, none⟩ = some (.int .u8 (c.p 0)) := h.cell 3
  have h4 : w.cell? ⟨B, 4, none⟩ = some (.int .u8 (c.p 1)) := h.cell 4
  have h5 : w.cell? ⟨B, 5, none⟩ = some (.int .u8 (c.p 2)) := h.cell 5
  have h6 : w.cell? ⟨B, 6, none⟩ = some (.int .u8 (c.p 3)) := h.cell 6
  have h7 : w.cell? ⟨B, 7, none⟩ = some (.bool c.h) := h.cell 7
  have hb0 := ok.p 0
  have hb1 := ok.p 1
  have hb2 := ok.p 2
  have hb3 := ok.p 3
  clear h ok
  rcases hn with e0 | ⟨e0, e1⟩ | ⟨e0, e1, e2⟩ | ⟨e0, e1, e2, e3⟩ | ⟨e0, e1, e2, e3, e4⟩
  · rw [e0] at h7
    clear e0
    go_enter Try.func17, Try.ntmps17
    go_wp2
    go_ret
    exact ⟨rfl, rfl⟩
  · rw [e0] at h7
    clear e0
    go_enter Try.func17, Try.ntmps17
    go_wp2
    go_ret
    exact ⟨rfl, rfl⟩
  · rw [e0] at h7
    clear e0
    go_enter Try.func17, Try.ntmps17
    go_wp2
    go_ret
    exact ⟨rfl, rfl⟩
  · rw [e0] at h7
    clear e0
    have hc : k = 0 ∨ k = 1 ∨ k = 2 ∨ k = 3 := by omega
    clear hk e2
    rcases hc with rfl | rfl | rfl | rfl
    all_goals
      simp only [show (0 : Int).toNat = 0 from rfl, show (1 : Int).toNat = 1 from rfl, show (2 : Int).toNat = 2 from rfl, show (3 : Int).toNat = 3 from rfl] at e3
      by_cases hx1 : x < 1
      · go_enter Try.func17, Try.ntmps17
        go_wp2
        go_ret
        exact ⟨rfl, rfl⟩
      go_enter Try.func17, Try.ntmps17
      go_wp2
      go_ret
      exact ⟨rfl, rfl⟩
  · rw [e0] at h7
    clear e0
    have hc : k = 0 ∨ k = 1 ∨ k = 2 ∨ k = 3 := by omega
    clear hk e2
    rcases hc with rfl | rfl | rfl | rfl
    all_goals
      simp only [show (0 : Int).toNat = 0 from rfl, show (1 : Int).toNat = 1 from rfl, show (2 : Int).toNat = 2 from rfl, show (3 : Int).toNat = 3 from rfl] at e3
      go_enter Try.func17, Try.ntmps17
      go_wp2
      go_ret
      exact ⟨rfl, rfl⟩

theorem refMeet_any (w : World) (B : Nat) (c : Cp) (k x : Int) (h : At 39 w B c) (ok : c.Ok) (hk : 0 ≤ k ∧ k ≤ 255) (hx : 0 ≤ x ∧ x ≤ 255) :
    Calls Try.prog 17 #[.pointer (some ⟨B, 0, none⟩), .int .u8 k, .int .u8 x] w fun e w' => e = .returned (.bool (c.canMeet k x)) ∧ At 39 w' B (c.meet k x) ∧ Kept (fun k => k = B) w w' := by
  unfold Cp.meet
  by_cases hc : c.canMeet k x = true
  · rw [hc, if_pos rfl]
    unfold Cp.canMeet at hc
    simp only [Bool.and_eq_true, Bool.not_eq_true', bne_iff_ne, ne_eq, decide_eq_true_eq] at hc
    obtain ⟨⟨⟨⟨a1, a2⟩, a3⟩, a4⟩, a5⟩ := hc
    obtain ⟨n, rfl⟩ := Int.eq_ofNat_of_zero_le hk.1
    have hn : n = 0 ∨ n = 1 ∨ n = 2 ∨ n = 3 := by omega
    refine (refMeet_at w B c n x h ok hn hx a1 (by simpa using a2) a4 a5).mono ?_
    rintro e w' ⟨rfl, rfl⟩
    refine ⟨rfl, h.set _ _ ?_, (Kept.refl _ w).setCell _ _ (fun _ => rfl)⟩
    rcases hn with rfl | rfl | rfl | rfl <;> rfl
  · have hf : c.canMeet k x = false := by simpa using hc
    rw [hf, if_neg (by decide)]
    refine (refMeet_no w B c k x h ok hk hx ?_).mono ?_
    · clear hc
      unfold Cp.canMeet at hf
      cases hh : c.h
      · right
        cases hi : (k == c.id)
        · right
          by_cases h4 : k < 4
          · right
            by_cases h5 : c.p k.toNat < x
            · right
              refine ⟨rfl, rfl, h4, h5, ?_⟩
              have hne : ¬ k = c.id := by simpa using hi
              simp [hh, hne, h4, h5] at hf
              exact hf
            · left; exact ⟨rfl, rfl, h4, by omega⟩
          · left; exact ⟨rfl, rfl, by omega⟩
        · left; exact ⟨rfl, rfl⟩
      · left; rfl
    · rintro e w' ⟨rfl, rfl⟩
      exact ⟨rfl, h, Kept.refl _ _⟩

set_option maxHeartbeats 1000000 in
theorem refNext_any (w : World) (B : Nat) (c : Cp) (h : At 39 w B c) (ok : c.Ok) : Calls Try.prog 11 #[.pointer (some ⟨B, 0, none⟩)] w fun e w' => e = .returned (.bool (decide (c.e < 200))) ∧ At 39 w' B c.next ∧ Kept (fun k => k = B) w w' := by
  have h1 : w.cell? ⟨B, 1, none⟩ = some (.int .u8 c.e) := h.cell 1
  have h7 : w.cell? ⟨B, 7, none⟩ = some (.bool c.h) := h.cell 7
  have f1 := h.free 1
  have f7 := h.free 7
  have hb := ok.e
  have hh := ok.h
  have HA := Lib.hid h
  clear h ok
  unfold Cp.next
  by_cases he : c.e = 200
  · rw [if_pos he]
    have hd : decide (c.e < 200) = false := by simp [he]
    rw [hd]
    have h200 : 200 ≤ c.e := by omega
    clear he hd hh
    cases hc : c.h
    all_goals
      rw [hc] at h7
      clear hc
      go_enter Try.func11, Try.ntmps11
      go_wp2
      go_ret
      exact ⟨rfl, HA.out.set 7 _ rfl, (Kept.refl _ w).setCell _ _ (fun _ => rfl)⟩
  · rw [if_neg he]
    have hlt : c.e < 200 := by omega
    have hd : decide (c.e < 200) = true := by simp [hlt]
    rw [hd]
    have hc : c.h = false := by
      cases hc : c.h
      · rfl
      · exact absurd (hh hc) he
    rw [hc] at h7
    clear he hd hh hc
    go_enter Try.func11, Try.ntmps11
    go_wp2
    go_ret
    exact ⟨rfl, HA.out.set 1 _ rfl, (Kept.refl _ w).setCell _ _ (fun _ => rfl)⟩

set_option maxHeartbeats 1000000 in
theorem refNew_any (w : World) (id : Int) : Calls Try.prog 9 #[.int .u8 id] w fun e w' => e = .returned (.pointer (some ⟨w.heap.size, 0, none⟩)) ∧ At 39 w' w.heap.size (Cp.new id) ∧ Kept (fun _ => False) w w' := by
  go_enter Try.func9, Try.ntmps9
  go_wp2
  go_ret
  exact ⟨rfl, heap_alloc_new _ _, (Kept.refl _ w).alloc _⟩
end Go.Proofs.Ytmkfcfedadkkmaa
