/- What is learnt; who can sign. -/
import Derived.Test.YtigpfaecbmnklaaDoorKnow2
import Derived.Test.YtigpfaecbmnklaaDoorKindsB
namespace Go.Proofs.YtigpfaecbmnklaaDoor
open Go.RowKit Go.Maps
set_option maxRecDepth 100000

/-- nothing but the four sets has changed since -/
structure KStep (H B : Nat) (w w' : World) : Prop where
  bel : Below H w w'
  stay : ∀ g A t fr, g ≠ B → w.heap[g]? = some (.cells A t fr) → w'.heap[g]? = some (.cells A t fr)
theorem KStep.refl (H B : Nat) (w : World) : KStep H B w w := ⟨Below.refl _ _, fun _ _ _ _ _ h => h⟩
theorem KStep.trans {H B : Nat} {a b c : World} (h : KStep H B a b) (k : KStep H B b c) : KStep H B a c := ⟨h.bel.trans k.bel, fun g A t fr hne hg => k.stay g A t fr hne (h.stay g A t fr hne hg)⟩
theorem KStep.of {H B : Nat} {w w' : World} (hb : Below w.heap.size w w') (hH : H ≤ w.heap.size) : KStep H B w w' := ⟨hb.mono hH, fun g _A _t _fr _ hg => (hb.block g (lt_of_block hg)).trans hg⟩
theorem Kw.le {H : Nat} {w : World} {B : Nat} {S : Kn} (h : Kw H w B S) : H ≤ w.heap.size := let ⟨_, h⟩ := h; Nat.le_trans h.hB (Nat.le_of_lt (lt_of_block h.box))
theorem Kw.lt {H : Nat} {w : World} {B : Nat} {S : Kn} (h : Kw H w B S) : B < w.heap.size := let ⟨_, h⟩ := h; lt_of_block h.box

theorem kw_k {H : Nat} {w w' : World} {B : Nat} {S : Kn} {o : Nat → Option Nat} {k : Ky} (h : KwAt H w B S o) (ha : Added kyV 59 w w' B 0 (knC o) (o 0) (S.k ++ [k])) : Kw H w' B { S with k := S.k ++ [k] } ∧ KStep H B w w' := by
  have hst := fun g A t fr (hne : g ≠ B) (hg : w.heap[g]? = some (.cells A t fr)) => added_stay h.k ha hg hne
  obtain ⟨b, h1, h2, h3, h4, h5, h6, h7⟩ := added_kept h ha (by decide)
  exact ⟨⟨_, ⟨h1, h2, h.r.kept h6 (fun c e => h7 1 (by decide) (by decide) c e), h.m.kept h6 (fun c e => h7 2 (by decide) (by decide) c e), h.v.kept h6 (fun c e => h7 3 (by decide) (by decide) c e), h.hB, h4, h5⟩⟩, h3, hst⟩
theorem kw_r {H : Nat} {w w' : World} {B : Nat} {S : Kn} {o : Nat → Option Nat} {k : Rq} (h : KwAt H w B S o) (ha : Added rqV 27 w w' B 1 (knC o) (o 1) (S.r ++ [k])) : Kw H w' B { S with r := S.r ++ [k] } ∧ KStep H B w w' := by
  have hst := fun g A t fr (hne : g ≠ B) (hg : w.heap[g]? = some (.cells A t fr)) => added_stay h.r ha hg hne
  obtain ⟨b, h1, h2, h3, h4, h5, h6, h7⟩ := added_kept h ha (by decide)
  exact ⟨⟨_, ⟨h1, h.k.kept h6 (fun c e => h7 0 (by decide) (by decide) c e), h2, h.m.kept h6 (fun c e => h7 2 (by decide) (by decide) c e), h.v.kept h6 (fun c e => h7 3 (by decide) (by decide) c e), h.hB, h4, h5⟩⟩, h3, hst⟩
theorem kw_m {H : Nat} {w w' : World} {B : Nat} {S : Kn} {o : Nat → Option Nat} {k : List UInt8} (h : KwAt H w B S o) (ha : Added stV 9 w w' B 2 (knC o) (o 2) (S.m ++ [k])) : Kw H w' B { S with m := S.m ++ [k] } ∧ KStep H B w w' := by
  have hst := fun g A t fr (hne : g ≠ B) (hg : w.heap[g]? = some (.cells A t fr)) => added_stay h.m ha hg hne
  obtain ⟨b, h1, h2, h3, h4, h5, h6, h7⟩ := added_kept h ha (by decide)
  exact ⟨⟨_, ⟨h1, h.k.kept h6 (fun c e => h7 0 (by decide) (by decide) c e), h.r.kept h6 (fun c e => h7 1 (by decide) (by decide) c e), h2, h.v.kept h6 (fun c e => h7 3 (by decide) (by decide) c e), h.hB, h4, h5⟩⟩, h3, hst⟩
theorem kw_v {H : Nat} {w w' : World} {B : Nat} {S : Kn} {o : Nat → Option Nat} {k : List UInt8} (h : KwAt H w B S o) (ha : Added stV 9 w w' B 3 (knC o) (o 3) (S.v ++ [k])) : Kw H w' B { S with v := S.v ++ [k] } ∧ KStep H B w w' := by
  have hst := fun g A t fr (hne : g ≠ B) (hg : w.heap[g]? = some (.cells A t fr)) => added_stay h.v ha hg hne
  obtain ⟨b, h1, h2, h3, h4, h5, h6, h7⟩ := added_kept h ha (by decide)
  exact ⟨⟨_, ⟨h1, h.k.kept h6 (fun c e => h7 0 (by decide) (by decide) c e), h.r.kept h6 (fun c e => h7 1 (by decide) (by decide) c e), h.m.kept h6 (fun c e => h7 2 (by decide) (by decide) c e), h2, h.hB, h4, h5⟩⟩, h3, hst⟩

/-- P4.1: a key is learnt -/
def learnB (k : Ky) : Bool := decide (k.o < 4) && (decide (1 ≤ k.e) && decide (k.e ≤ 200))
def learnK (S : Kn) (k : Ky) : Kn := if learnB k then { S with k := S.k ++ [k] } else S

set_option maxHeartbeats 2000000 in
theorem learn19 (H : Nat) (w : World) (B : Nat) (S : Kn) (h : Kw H w B S) (k : Ky) (hk : k.ok) (hl : S.k.length ≤ 100000) : Calls Tryd.prog 19 #[.pointer (some ⟨B, 0, none⟩), .agg k.cells.toArray] w fun e w' => e = .returned (.tuple #[]) ∧ Kw H w' B (learnK S k) ∧ KStep H B w w' := by
  have hHw := h.le
  obtain ⟨o, h⟩ := h
  obtain ⟨W, hW⟩ : ∃ W, W = w.alloc (.cells k.cells.toArray 59) := ⟨_, rfl⟩
  have hbl : Below w.heap.size w W := by rw [hW]; exact (Below.refl _ _).alloc (Nat.le_refl _) _
  have hWn : W.heap[w.heap.size]? = some (.cells k.cells.toArray 59 (0, 0)) := by rw [hW]; exact heap_alloc_new _ _
  have hgB : w.heap.size ≠ B := by have := lt_of_block h.box; omega
  have hKW := h.on hbl
  have CA := Lib.hid (add52 W.drew B 0 (knC o) (o 0) S.k k hk (box_drew2 hKW.box) rfl (hKW.on ((Below.refl W.heap.size W).drew)).k (fun e => (h.ne 0 B (by decide) e).1 rfl) hl)
  have LB := Lib.hid (fun (w' : World) (h' : w'.heap[w.heap.size]? = some (.cells k.cells.toArray 59 (0, 0))) => ky_load h')
  have STAY := Lib.hid (fun w2 (h1 : W.drew.heap[w.heap.size]? = some (.cells k.cells.toArray 59 (0, 0))) (ha : Added kyV 59 W.drew w2 B 0 (knC o) (o 0) (S.k ++ [k])) => added_stay (hKW.on ((Below.refl W.heap.size W).drew)).k ha h1 hgB)
  have FIN := Lib.hid (fun w2 (ha : Added kyV 59 W.drew w2 B 0 (knC o) (o 0) (S.k ++ [k])) => And.intro (kw_k (hKW.on ((Below.refl W.heap.size W).drew)) ha).1 ((KStep.of (B := B) (hbl.trans (Below.refl _ W).drew) hHw).trans (kw_k (hKW.on ((Below.refl W.heap.size W).drew)) ha).2))
  have NOP := Lib.hid (And.intro (show Kw H W B S from ⟨o, hKW⟩) (KStep.of (B := B) hbl hHw))
  have q0 : W.cell? ⟨w.heap.size, 0, none⟩ = some (.int .u8 k.o) := by rw [cell_of_row _ _ _ _ _ _ hWn]; rfl
  have q1 : W.cell? ⟨w.heap.size, 1, none⟩ = some (.int .u8 k.e) := by rw [cell_of_row _ _ _ _ _ _ hWn]; rfl
  have HWN := Lib.hid hWn
  obtain ⟨S', hS'⟩ : ∃ S', S' = learnK S k := ⟨_, rfl⟩
  rw [← hS']
  unfold learnK learnB at hS'
  have HS' := Lib.hid hS'
  simp only [Ky.cells] at hW ⊢
  have HW := Lib.hid hW
  clear hW hbl hWn h hS' hKW hgB
  go_enter Tryd.func19, Tryd.ntmps19
  go_upto_region 1 with fail
  rw [← HW.out]
  clear HW
  by_cases h1 : k.o < 4 ∧ 1 ≤ k.e ∧ k.e ≤ 200
  · obtain ⟨p1, p2, p3⟩ := h1
    have HP := Lib.hid (And.intro p1 (And.intro p2 p3))
    go_upto_region 2 with fail
    have eA : (#[.int .u8 k.o, .int .u8 k.e] : Array Value) = k.cells.toArray := rfl
    rw [eA]
    clear eA q0 q1
    generalize k.cells.toArray = ka at *
    obtain ⟨gx, hgx⟩ : ∃ g, g = w.heap.size := ⟨_, rfl⟩
    rw [← hgx] at LB STAY HWN ⊢
    have HGX := Lib.hid hgx
    clear hgx
    refine wp_region_held_drew (S := fun w' => w'.heap[gx]? = some (.cells ka 59 (0, 0))) (by kernel_rfl) (box_drew2 HWN.out) (fun hS => ?_)
    refine takeA (i := 0) (v := .pointer (some ⟨B, 0, none⟩)) ({ tmps := #[.pointer (some ⟨B, 0, none⟩), .agg ka, undef, .pointer (some ⟨gx, 0, none⟩), .pointer (some ⟨gx, 0, none⟩), .int .u8 k.o, .bool true, .bool true, .pointer (some ⟨gx, 1, none⟩), .int .u8 k.e, .bool true, .bool true, .bool true, .pointer (some ⟨gx, 1, none⟩), .int .u8 k.e, .bool true, .bool true, .pointer (some ⟨B, 0, none⟩), undef, undef, undef, undef], defers := [] }) rfl (by kernel_rfl) (by kernel_rfl) (by kernel_rfl) (fun _ _ _ h => h) (.inl ⟨rfl, fun _ _ => rfl⟩) hS rfl ?_
    refine takeA (i := 1) (v := .pointer (some ⟨B, 0, none⟩)) ({ tmps := #[.pointer (some ⟨B, 0, none⟩), .agg ka, undef, .pointer (some ⟨gx, 0, none⟩), .pointer (some ⟨gx, 0, none⟩), .int .u8 k.o, .bool true, .bool true, .pointer (some ⟨gx, 1, none⟩), .int .u8 k.e, .bool true, .bool true, .bool true, .pointer (some ⟨gx, 1, none⟩), .int .u8 k.e, .bool true, .bool true, .pointer (some ⟨B, 0, none⟩), .pointer (some ⟨B, 0, none⟩), undef, undef, undef], defers := [] }) rfl (by kernel_rfl) (by kernel_rfl) (by kernel_rfl) (fun _ _ _ h => h) (.inl ⟨rfl, fun w' _ => by go_simp⟩) hS rfl ?_
    refine takeA (i := 2) (v := .pointer (some ⟨B, 0, none⟩)) ({ tmps := #[.pointer (some ⟨B, 0, none⟩), .agg ka, undef, .pointer (some ⟨gx, 0, none⟩), .pointer (some ⟨gx, 0, none⟩), .int .u8 k.o, .bool true, .bool true, .pointer (some ⟨gx, 1, none⟩), .int .u8 k.e, .bool true, .bool true, .bool true, .pointer (some ⟨gx, 1, none⟩), .int .u8 k.e, .bool true, .bool true, .pointer (some ⟨B, 0, none⟩), .pointer (some ⟨B, 0, none⟩), .pointer (some ⟨B, 0, none⟩), undef, undef], defers := [] }) rfl (by kernel_rfl) (by kernel_rfl) (by kernel_rfl) (fun _ _ _ h => h) (.inl ⟨rfl, fun w' _ => by go_simp⟩) hS rfl ?_
    refine takeA (i := 3) (v := .agg ka) ({ tmps := #[.pointer (some ⟨B, 0, none⟩), .agg ka, undef, .pointer (some ⟨gx, 0, none⟩), .pointer (some ⟨gx, 0, none⟩), .int .u8 k.o, .bool true, .bool true, .pointer (some ⟨gx, 1, none⟩), .int .u8 k.e, .bool true, .bool true, .bool true, .pointer (some ⟨gx, 1, none⟩), .int .u8 k.e, .bool true, .bool true, .pointer (some ⟨B, 0, none⟩), .pointer (some ⟨B, 0, none⟩), .pointer (some ⟨B, 0, none⟩), .agg ka, undef], defers := [] }) rfl (by kernel_rfl) (by kernel_rfl) (by kernel_rfl) (fun _ _ _ h => h) (yi_load 59 (.tmp 3) _ rfl rfl rfl (fun w' h => LB.out w' h)) hS rfl ?_
    refine wpAnyH_ready (rs := [4]) (by kernel_rfl) (by simp) ?_
    refine AllReadyH.cons rfl (fun K hK => ?_) AllReadyH.nil
    rw [if_pos (by rfl)]
    go_simp
    refine Calls.mono (CA.out) ?_
    rintro e w2 ⟨rfl, hb⟩
    have HADD := Lib.hid hb
    refine hK.out ({ tmps := #[.pointer (some ⟨B, 0, none⟩), .agg ka, undef, .pointer (some ⟨gx, 0, none⟩), .pointer (some ⟨gx, 0, none⟩), .int .u8 k.o, .bool true, .bool true, .pointer (some ⟨gx, 1, none⟩), .int .u8 k.e, .bool true, .bool true, .bool true, .pointer (some ⟨gx, 1, none⟩), .int .u8 k.e, .bool true, .bool true, .pointer (some ⟨B, 0, none⟩), .pointer (some ⟨B, 0, none⟩), .pointer (some ⟨B, 0, none⟩), .agg ka, .tuple #[]], defers := [] }) w2 (STAY.out _ hS hb) (fun hS => ?_)
    clear hK K hb
    refine wpAnyH_done (by kernel_rfl) ?_ _
    go_wp2_with fail
    go_end0
    obtain ⟨p1, p2, p3⟩ := HP.out
    refine ⟨rfl, ?_⟩
    rw [HS'.out, if_pos (by simp [p1, p2, p3])]
    exact FIN.out _ HADD.out
  · have e : (decide (k.o < 4) && (decide (1 ≤ k.e) && decide (k.e ≤ 200))) = false := by
      rw [← Bool.not_eq_true]; simp; omega
    have HE := Lib.hid e
    clear e
    by_cases p1 : k.o < 4
    · by_cases p2 : 1 ≤ k.e
      · have p3 : ¬ k.e ≤ 200 := by omega
        go_wp2_with fail
        go_end0
        exact ⟨rfl, by rw [HS'.out, HE.out]; exact NOP.out⟩
      · go_wp2_with fail
        go_end0
        exact ⟨rfl, by rw [HS'.out, HE.out]; exact NOP.out⟩
    · go_wp2_with fail
      go_end0
      exact ⟨rfl, by rw [HS'.out, HE.out]; exact NOP.out⟩
end Go.Proofs.YtigpfaecbmnklaaDoor
