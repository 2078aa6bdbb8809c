/- The law's known answers. -/
import Derived.Test.YtphakceboohbhaaApp
namespace Go.Proofs.Ytphakceboohbhaa
open Go.RowKit
set_option maxRecDepth 100000

def s0 : Sv := ⟨nul, nul, nul⟩
theorem new_ms (w : World) : Calls Try.prog 9 #[] w fun e w' => e = .returned (.pointer (some ⟨w.heap.size, 0, none⟩)) ∧ Ms w' w.heap.size s0 ∧ Below w.heap.size w w' :=
  (map_new w).mono fun e w' h => ⟨h.1, by rw [← h.2]; exact mp_new w, by rw [← h.2]; exact (Below.refl _ w).alloc (Nat.le_refl _) _⟩

theorem hPut_any (w : World) (c t y v : Int) : Calls Try.prog 22 #[.int .u8 c, .int .u32 t, .int .u8 y, .int .u16 v] w fun e w' => e = .returned (.agg (Rq.cells ⟨c, t, 1, y, v⟩).toArray) ∧ Below w.heap.size w w' := by
  simp only [Rq.cells]
  go_enter Try.func22, Try.ntmps22
  go_wp2_with fail
  exact bodyPost_ret (v := .agg #[.int .u8 c, .int .u32 t, .int .u8 1, .int .u8 y, .int .u16 v]) (by simp [results, Try.results22, go_sem]) rfl ⟨rfl, (Below.refl _ _).alloc (Nat.le_refl _) _⟩

def GV (s : Sv) : Prop := ∀ i, 0 ≤ s.V i ∧ s.V i ≤ 65535
theorem gv0 : GV s0 := fun _ => by simp [s0, nul]
theorem GV.ap {s : Sv} (h : GV s) {r : Rq} (hr : r.ok) : GV (apS s r) := by
  unfold apS
  split
  · intro i
    show 0 ≤ upd s.V _ _ i ∧ upd s.V _ _ i ≤ 65535
    unfold upd
    split
    · have := hr.2.2.2.2
      have := h r.y.toNat
      unfold doV
      split
      · assumption
      · split <;> omega
    · exact h i
  · exact h

def r1 : Rq := ⟨1, 1, 1, 3, 9⟩
def r2 : Rq := ⟨1, 2, 1, 3, 4⟩
def r3 : Rq := ⟨1, 2, 1, 3, 7⟩
def s1 : Sv := apS s0 r1
def s2 : Sv := apS s1 r2
def s3 : Sv := apS s2 r3
def s4 : Sv := apS s3 r1
theorem ok1 : r1.ok := by unfold Rq.ok r1; decide
theorem ok2 : r2.ok := by unfold Rq.ok r2; decide
theorem ok3 : r3.ok := by unfold Rq.ok r3; decide
theorem ok0 : Rq.zero.ok := by unfold Rq.ok Rq.zero; decide
theorem kn1 : apR s0 r1 = 0 ∧ apB s0 r1 = true ∧ apR s1 r2 = 9 ∧ apB s1 r2 = true ∧ apR s2 r3 = 9 ∧ apB s2 r3 = true ∧ apB s3 r1 = false ∧ apR s3 r1 = 0 ∧ s4.V 3 = 4 ∧ svNew s4 Rq.zero = false := by decide +kernel

theorem apK (w : World) (B : Nat) (s s' : Sv) (r : Rq) (x : Int) (b : Bool) (hr : r.ok) (h : Ms w B s) (hg : GV s) (eS : apS s r = s') (eR : apR s r = x) (eB : apB s r = b) :
    Calls Try.prog 13 #[.pointer (some ⟨B, 0, none⟩), .agg #[.int .u8 r.c, .int .u32 r.t, .int .u8 r.k, .int .u8 r.y, .int .u16 r.v]] w fun e w' => e = .returned (.tuple #[.int .u32 x, .bool b]) ∧ Kept (fun i => i = B) w w' ∧ Ms w' B s' := by
  subst eS eR eB
  exact apply_any w B s r hr h hg
/-- the map at A, the first request at X, over a world w -/
def KI (w wr : World) (A X : Nat) (s : Sv) : Prop := Ms wr A s ∧ BoxR wr X r1 ∧ Below w.heap.size w wr ∧ w.heap.size ≤ A ∧ A ≠ X
theorem KI.ap {w wr w' : World} {A X : Nat} {s s' : Sv} (h : KI w wr A X s) (k : Kept (fun i => i = A) wr w') (m : Ms w' A s') : KI w w' A X s' :=
  ⟨m, h.2.1.kept k (fun e => h.2.2.2.2 e.symm), h.2.2.1.trans (k.below h.2.2.1.size (fun i e => by subst e; exact h.2.2.2.1)), h.2.2.2⟩
theorem KI.put {w wr w' : World} {A X : Nat} {s : Sv} (h : KI w wr A X s) (b : Below wr.heap.size wr w') : KI w w' A X s :=
  ⟨h.1.below b h.1.lt, h.2.1.below b h.2.1.lt, h.2.2.1.trans (b.mono h.2.2.1.size), h.2.2.2⟩

set_option maxHeartbeats 4000000 in
theorem known_any (w : World) : Calls Try.prog 8 #[] w fun e w' => e = .returned (.bool true) ∧ Below w.heap.size w w' := by
  have NW := Lib.hid (new_ms w)
  have KN := Lib.hid kn1
  have g1 : GV s1 := gv0.ap ok1
  have g2 : GV s2 := g1.ap ok2
  have g3 : GV s3 := g2.ap ok3
  have G := Lib.hid (And.intro g1 (And.intro g2 (And.intro g3 (g3.ap ok1))))
  clear g1 g2 g3
  go_enter Try.func8, Try.ntmps8
  go_wp2_with fail
  refine NW.out.mono ?_
  rintro e w1 ⟨rfl, m1, b1⟩
  obtain ⟨A, hA⟩ : ∃ A, A = w.heap.size := ⟨_, rfl⟩
  rw [← hA] at m1 ⊢
  have M1 := Lib.hid (And.intro m1 (And.intro b1 hA))
  clear m1 b1 NW hA
  have PU := Lib.hid (hPut_any w1 1 1 3 9)
  go_wp2_with fail
  refine PU.out.mono ?_
  rintro e w2 ⟨rfl, b2⟩
  have b2' : Below w.heap.size w w2 := M1.out.2.1.trans (b2.mono M1.out.2.1.size)
  have b3 : Below w2.heap.size w2 (w2.alloc (.cells r1.cells.toArray 38)) := (Below.refl _ w2).alloc (Nat.le_refl _) _
  have m2 := M1.out.1.below b2 M1.out.1.lt
  have K3 : KI w (w2.alloc (.cells r1.cells.toArray 38)) A w2.heap.size s0 := ⟨m2.below b3 m2.lt, box_new w2 r1, b2'.trans (b3.mono b2'.size), by rw [M1.out.2.2]; exact Nat.le_refl _, by have := m2.lt; omega⟩
  have AP := Lib.hid (apK _ A s0 s1 r1 0 true ok1 K3.1 gv0 rfl KN.out.1 KN.out.2.1)
  replace K3 := Lib.hid K3
  clear b2' b3 m2 b2 M1 PU
  simp only [Rq.cells]
  simp only [Rq.cells, r1] at AP
  go_wp2_with fail
  generalize w2.heap.size = X at *
  refine AP.out.mono ?_
  rintro e w4 ⟨rfl, k4, m4⟩
  have K4 := Lib.hid (K3.out.ap k4 m4)
  clear AP k4 m4 K3
  have PU := Lib.hid (hPut_any w4 1 2 3 4)
  go_wp2_with fail
  refine PU.out.mono ?_
  rintro e w5 ⟨rfl, b5⟩
  have K5 := Lib.hid (K4.out.put b5)
  clear b5 PU K4
  have AP := Lib.hid (apK w5 A s1 s2 r2 9 true ok2 K5.out.1 G.out.1 rfl KN.out.2.2.1 KN.out.2.2.2.1)
  simp only [Rq.cells]
  simp only [r2] at AP
  go_wp2_with fail
  refine AP.out.mono ?_
  rintro e w6 ⟨rfl, k6, m6⟩
  have K6 := Lib.hid (K5.out.ap k6 m6)
  clear AP k6 m6 K5
  have PU := Lib.hid (hPut_any w6 1 2 3 7)
  go_wp2_with fail
  refine PU.out.mono ?_
  rintro e w7 ⟨rfl, b7⟩
  have K7 := Lib.hid (K6.out.put b7)
  clear b7 PU K6
  have AP := Lib.hid (apK w7 A s2 s3 r3 9 true ok3 K7.out.1 G.out.2.1 rfl KN.out.2.2.2.2.1 KN.out.2.2.2.2.2.1)
  simp only [Rq.cells]
  simp only [r3] at AP
  go_wp2_with fail
  refine AP.out.mono ?_
  rintro e w8 ⟨rfl, k8, m8⟩
  have K8 := Lib.hid (K7.out.ap k8 m8)
  clear AP k8 m8 K7
  obtain ⟨q0, q1, q2, q3, q4⟩ := K8.out.2.1.cells
  simp only [r1] at q0 q1 q2 q3 q4
  have AP := Lib.hid (apK w8 A s3 s4 r1 0 false ok1 K8.out.1 G.out.2.2.1 rfl KN.out.2.2.2.2.2.2.2.1 KN.out.2.2.2.2.2.2.1)
  simp only [r1] at AP
  go_wp2_with fail
  refine AP.out.mono ?_
  rintro e w9 ⟨rfl, k9, m9⟩
  have K9 := Lib.hid (K8.out.ap k9 m9)
  clear AP k9 m9 K8 q0 q1 q2 q3 q4
  have GE := get_any w9 A 3 s4.V s4.T s4.R K9.out.1
  rw [if_pos (by decide), KN.out.2.2.2.2.2.2.2.2.1] at GE
  replace GE := Lib.hid GE
  have NN := new_svc w9 A s4 Rq.zero ok0 K9.out.1
  rw [KN.out.2.2.2.2.2.2.2.2.2] at NN
  simp only [Rq.cells, Rq.zero] at NN
  replace NN := Lib.hid NN
  go_wp2_with fail
  refine GE.out.mono ?_
  rintro e w10 ⟨rfl, rfl⟩
  go_wp2_with fail
  refine NN.out.mono ?_
  rintro e w11 ⟨rfl, b11⟩
  have K11 := Lib.hid (K9.out.put b11)
  clear b11 NN GE K9
  go_wp2_with fail
  go_ret
  exact ⟨rfl, K11.out.2.2.1⟩
end Go.Proofs.Ytphakceboohbhaa
