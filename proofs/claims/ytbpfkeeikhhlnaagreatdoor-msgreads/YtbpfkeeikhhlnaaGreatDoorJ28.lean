/- What comes in: a mark, an entry, a vote, a message. MsgTells: both bytes of a message, the program's and the document's. Whether it is a message hangs on what it holds alone. Its bytes are bytes, and fewer than may be. -/
import Derived.Test.YtbpfkeeikhhlnaaGreatDoorJ27
import Derived.Test.YtbpfkeeikhhlnaaGreatDoorJ11
namespace Go.Proofs.YtbpfkeeikhhlnaaGreatDoor
open Go.ChangeShapes Go.WideShapes Go.ChangeAt Go.RowKit

theorem RowU.split {α : Type} {w : World} {k : Nat} {enc : α → List Value} {v : Value} {xs : List α} (h : RowU w k enc v xs) : ∃ ao cap, v = .slice ao xs.length cap ∧ RowU w k enc (.slice ao xs.length cap) xs := by
  have h0 := h
  obtain ⟨ao, cap, rfl, _⟩ := h
  exact ⟨ao, cap, rfl, h0⟩
/-- of a short row -/
theorem RowU.row {α : Type} {w : World} {k : Nat} {enc : α → List Value} {v : Value} {xs : List α} (h : RowU w k enc v xs) (hl : xs.length ≤ 1000000) : Row w k enc v xs := by
  obtain ⟨ao, cap, e, h1, h2, _, h4⟩ := h
  exact ⟨ao, cap, e, h1, h2, hl, h4⟩
instance : Inhabited (Vt × Vc) := ⟨(Vt.zero, ⟨[], [], []⟩)⟩
def VtU (w : World) (v : Vt) (c : Vc) : Prop := RowU w 2 Mk.cells v.ms.val c.ms ∧ RowU w 7 En.cells v.p.val c.p ∧ RowU w 7 En.cells v.q.val c.q
theorem VtU.at {w : World} {v : Vt} {c : Vc} (h : VtU w v c) (hf : v.few) : VtAt w v c := by
  have e : ∀ {α : Type} {k : Nat} {enc : α → List Value} {s : Sl} {xs : List α}, RowU w k enc s.val xs → s.n = xs.length := fun h => by
    obtain ⟨ao, cap, e, _⟩ := h
    injection e
  have e1 := e h.1
  have e2 := e h.2.1
  have e3 := e h.2.2
  obtain ⟨f1, f2, f3⟩ := hf
  exact ⟨h.1.row (by omega), h.2.1.row (by omega), h.2.2.row (by omega)⟩
/-- a message as it comes in, its lists of whatever length -/
structure MgU (w : World) (m : Mg) (c : Mc) : Prop where
  vt : VtU w m.vt c.vt
  vs : RowU w 7 vcell m.vs.val c.vs
  vl : ∀ x ∈ c.vs, VtU w x.1 x.2
  sm : RowU w 1 (fun x => [Value.int .u64 x]) m.sm.val c.sm
  dn : m.dt.n = c.dt.length
  db : Bytes w m.dt.a c.dt
  dy : ∀ x ∈ c.dt, isByte x
  dc : c.dt.length ≤ m.dt.c
  dz : m.dt.a = none → m.dt.c = 0
/-- one that is looked at lies as the others do -/
theorem MgU.at {w : World} {m : Mg} {c : Mc} (h : MgU w m c) (h1 : m.vs.n ≤ 6) (h2 : m.sm.n ≤ 12) (h3 : m.dt.n ≤ 200) (h4 : m.vt.few) (h5 : ∀ x ∈ c.vs.map Prod.fst, x.few) : MgAt w m c := by
  have e : ∀ {α : Type} {k : Nat} {enc : α → List Value} {s : Sl} {xs : List α}, RowU w k enc s.val xs → s.n = xs.length := fun h => by
    obtain ⟨ao, cap, e, _⟩ := h
    injection e
  have e1 := e h.vs
  have e2 := e h.sm
  have e3 := h.dn
  exact ⟨h.vt.at h4, ⟨h.vs.row (by omega), fun x hx => (h.vl x hx).at (h5 _ (List.mem_map_of_mem hx))⟩, h.sm.row (by omega), h.dn, h.db, h.dz, h.dc, by omega, h.dy⟩
theorem MgU.votes {w : World} {m : Mg} {c : Mc} (h : MgU w m c) : RowU w 7 Vt.cells m.vs.val (c.vs.map Prod.fst) := by
  obtain ⟨ao, cap, e, h1, h2, h3, h4⟩ := h.vs
  refine ⟨ao, cap, by rw [List.length_map]; exact e, h1, by rw [List.length_map]; exact h2, h3, fun j x hj => ?_⟩
  rw [List.getElem?_map] at hj
  cases hx : c.vs[j]? with
  | none => rw [hx] at hj; cases hj
  | some y =>
    rw [hx] at hj
    injection hj with hj
    subst hj
    exact h4 j y hx
end Go.Proofs.YtbpfkeeikhhlnaaGreatDoor
namespace Go.Proofs.YtbpfkeeikhhlnaaGreatDoor
open Go.RowKit
set_option maxRecDepth 100000
def bytesM (m : Mg) (c : Mc) : List Int := if isM m c then encM m c else []
def errM (m : Mg) (c : Mc) : Int := if isM m c then 0 else 30
def EncE (w : World) (m : Mg) (c : Mc) (e : Ending) (w' : World) : Prop := ∃ ao z, e = .returned (.tuple #[.slice ao (bytesM m c).length z, .int .i64 (errM m c)]) ∧ (Bytes w' ao (bytesM m c) ∧ (ao = none → bytesM m c = [])) ∧ Below w.heap.size w w'
theorem encE {w w' : World} {m : Mg} {c : Mc} {e : Ending} (h : ((isM m c = false ∧ e = .returned (.tuple #[.slice none 0 0, .int .i64 30])) ∨ (isM m c = true ∧ ∃ ao k, e = .returned (.tuple #[.slice ao (encM m c).length k, .int .i64 0]) ∧ New w.heap.size w' ao k (encM m c))) ∧ Below w.heap.size w w') : EncE w m c e w' := by
  obtain ⟨⟨hi, rfl⟩ | ⟨hi, ao, k, rfl, hn⟩, hb⟩ := h
  · have e1 : bytesM m c = [] := by unfold bytesM; rw [hi]; rfl
    have e2 : errM m c = 30 := by unfold errM; rw [hi]; rfl
    refine ⟨none, 0, ?_, ?_, hb⟩
    · rw [e1, e2]; rfl
    · rw [e1]; exact ⟨fun i hx => absurd hx (by simp), fun _ => rfl⟩
  · have e1 : bytesM m c = encM m c := by unfold bytesM; rw [hi]; rfl
    have e2 : errM m c = 0 := by unfold errM; rw [hi]; rfl
    refine ⟨ao, k, ?_, ?_, hb⟩
    · rw [e1, e2]
    · rw [e1]; exact ⟨own_bytes hn.1, fun h => (hn.none h).1⟩
theorem MgOk.p1 {m : Mg} {c : Mc} (h : MgOk m c) : ∀ x ∈ c.vs, (∀ y ∈ x.2.p, 0 ≤ y.s ∧ y.rq.ok) ∧ ∀ y ∈ x.2.q, 0 ≤ y.s ∧ y.rq.ok :=
  fun x hx => ⟨fun y hy => ⟨((h.vs x hx).2.2.1 y hy).1.1, ((h.vs x hx).2.2.1 y hy).2.2⟩, fun y hy => ⟨((h.vs x hx).2.2.2 y hy).1.1, ((h.vs x hx).2.2.2 y hy).2.2⟩⟩
theorem VcOkR {c : Vc} (h : c.ok) : (∀ y ∈ c.p, 0 ≤ y.s ∧ y.rq.ok) ∧ ∀ y ∈ c.q, 0 ≤ y.s ∧ y.rq.ok :=
  ⟨fun y hy => ⟨(h.2.1 y hy).1.1, (h.2.1 y hy).2.2⟩, fun y hy => ⟨(h.2.2 y hy).1.1, (h.2.2 y hy).2.2⟩⟩
theorem VtR.of {v : Vt} {c : Vc} (hv : v.ok) (hc : c.ok) : VtR v c :=
  ⟨hv.2.2.1, hv.2.2.2, fun x hx => hc.1 x hx, fun x hx => hc.2.1 x hx, fun x hx => hc.2.2 x hx⟩
theorem byteR {x : Int} (h : isByte x) : 0 ≤ x ∧ x ≤ 255 := by unfold isByte at h; omega
theorem encD (w : World) (m : Mg) (c : Mc) (hm : MgAt w m c) (hok : MgOk m c) : Calls Tryz.prog 9 #[.agg m.cells.toArray] w (EncE w m c) :=
  Calls.mono (refEncode_any w m c hm hok.p1 (VcOkR hok.vt.2) (byteR hok.f) (byteR hok.t) ⟨hok.vw, hok.sq, hok.rs, hok.rq, VtR.of hok.vt.1 hok.vt.2, fun x hx => VtR.of (hok.vs x hx).1 (hok.vs x hx).2, hok.sm⟩) fun _ _ h => encE h
theorem RowU.below {α : Type} {w w' : World} {k : Nat} {enc : α → List Value} {v : Value} {xs : List α} (h : RowU w k enc v xs) (hb : Below w.heap.size w w') : RowU w' k enc v xs := by
  obtain ⟨ao, cap, rfl, h1, h2, h3, h4⟩ := h
  refine ⟨ao, cap, rfl, h1, h2, h3, fun j x hj => ?_⟩
  obtain ⟨b, off, e, hc⟩ := h4 j x hj
  refine ⟨b, off, e, fun i u hu => ?_⟩
  have := hc i u hu
  rw [hb.cell (cell_block this)]; exact this
theorem voteB_rel {a b : Vt} {ca cb : Vc} (h : toVp (a, ca) = toVp (b, cb)) : voteB a ca = voteB b cb := by
  simp only [toVp, Vp.mk.injEq] at h
  obtain ⟨h1, h2, h3, h4, h5⟩ := h
  unfold voteB
  rw [h1, h2, h3, h4, h5]
/-- the same, off what votes hold -/
def stepP (l : List Vp) (i : Nat) : Bool :=
  match l[i]? with
  | none => true
  | some x => match i with
    | 0 => true
    | j + 1 => match l[j]? with
      | none => true
      | some y => decide (y.f < x.f)
theorem stepB_map (l : List (Vt × Vc)) (i : Nat) : stepB vAny vAb l i = stepP (l.map toVp) i := by
  unfold stepB stepP
  rw [List.getElem?_map]
  cases h : l[i]? with
  | none => rfl
  | some x =>
    simp only [Option.map_some, vAny, Bool.true_and]
    cases i with
    | zero => rfl
    | succ j =>
      simp only []
      rw [List.getElem?_map]
      cases h2 : l[j]? with
      | none => rfl
      | some y => rfl
theorem vBad_any (n : Int) : ∀ xs ys : List (Vt × Vc), xs.map toVp = ys.map toVp → xs.any (vBad n) = ys.any (vBad n)
  | [], [], _ => rfl
  | [], y :: ys, h => by simp at h
  | x :: xs, [], h => by simp at h
  | x :: xs, y :: ys, h => by
    simp only [List.map_cons, List.cons.injEq] at h
    have ih := vBad_any n xs ys h.2
    have hv := voteB_rel (a := x.1) (ca := x.2) (b := y.1) (cb := y.2) h.1
    have hw : x.1.vw = y.1.vw := congrArg Vp.vw h.1
    simp only [List.any_cons, ih, vBad, hv, hw]
theorem fitVsB_rel {xs ys : List (Vt × Vc)} (n : Int) (h : xs.map toVp = ys.map toVp) : fitVsB xs n = fitVsB ys n := by
  have hl : xs.length = ys.length := by have := congrArg List.length h; simpa using this
  unfold fitVsB
  rw [hl, vBad_any n xs ys h]
  have hs : (List.range ys.length).all (stepB vAny vAb xs) = (List.range ys.length).all (stepB vAny vAb ys) := by
    congr 1
    funext i
    rw [stepB_map, stepB_map, h]
  rw [hs]
theorem isM_rel {w w' : World} {m m' : Mg} {c c' : Mc} (hm : MgAt w m c) (hm' : MgAt w' m' c') (h : toMq m' c' = toMq m c) : isM m' c' = isM m c := by
  have hw : m'.toWd = m.toWd := congrArg Mq.w h
  have hv : toVp (m'.vt, c'.vt) = toVp (m.vt, c.vt) := congrArg Mq.vt h
  have hvs : c'.vs.map toVp = c.vs.map toVp := congrArg Mq.vs h
  have hsm : c'.sm = c.sm := congrArg Mq.sm h
  have hdt : c'.dt = c.dt := congrArg Mq.dt h
  have hk : m'.k = m.k := congrArg Wd.k hw
  have hf : m'.f = m.f := congrArg Wd.f hw
  have ht : m'.t = m.t := congrArg Wd.t hw
  have he : m'.e = m.e := congrArg Wd.e hw
  have hvw : m'.vw = m.vw := congrArg Wd.vw hw
  have hsq : m'.sq = m.sq := congrArg Wd.sq hw
  have hrq : m'.rq = m.rq := congrArg Wd.rq hw
  have hct : m'.ct = m.ct := congrArg Wd.ct hw
  have hpg : m'.pg = m.pg := congrArg Wd.pg hw
  have hvf : m'.vt.f = m.vt.f := congrArg Vp.f hv
  have hve : m'.vt.e = m.vt.e := congrArg Vp.e hv
  have row_n : ∀ {w : World} {v : Sl} {xs : List Int}, Row w 1 (fun x => [Value.int .u64 x]) v.val xs → v.n = xs.length := fun hr => by
    obtain ⟨ao, cap, e, _⟩ := hr
    injection e
  have hsn : m'.sm.n = m.sm.n := by rw [row_n hm'.sm, row_n hm.sm, hsm]
  have hdn : m'.dt.n = m.dt.n := by rw [hm'.dt.1, hm.dt.1, hdt]
  have hbare : sameM m' c' (m'.bare (partsOf m.k)) (c'.bare (partsOf m.k)) = sameM m c (m.bare (partsOf m.k)) (c.bare (partsOf m.k)) := by
    have key : ∀ (m : Mg) (c : Mc) (ps : List Int), (∀ p ∈ ps, 0 ≤ p ∧ p ≤ 10) → toMq (m.bare ps) (c.bare ps) = ps.foldl (qStep (toMq m c)) (zeroQ m.k m.f m.t m.e) := fun m c ps hp => toMq_fold m c ps hp m.head Mc.nil
    rw [Bool.eq_iff_iff, sameM_iff, sameM_iff, key m' c' _ (partsOf_le _), key m c _ (partsOf_le _), h, hk, hf, ht, he]
  have hhead : headB m' = headB m := by unfold headB; rw [hk, hf, ht, he]
  have hreq : reqB m' = reqB m := by unfold reqB; rw [hk, hf, ht, hrq]
  have hfit : ∀ a b p, fitB m' a b p = fitB m a b p := fun a b p => by
    unfold fitB
    rw [hk, hvw, hsq, hreq, hct, he, hpg, hvf, hf, hve, hsn, hdn]
  unfold isM isB
  rw [hk, hvw, voteB_rel hv, fitVsB_rel m.vw hvs, hbare, hhead]
  have hall : (partsOf m.k).all (fitB m' (voteB m.vt c.vt) (fitVsB c.vs m.vw)) = (partsOf m.k).all (fitB m (voteB m.vt c.vt) (fitVsB c.vs m.vw)) := by
    congr 1
    funext p
    exact hfit _ _ p
  rw [hall]
def AllB (l : List Int) : Prop := ∀ x ∈ l, isByte x
theorem AllB.app {a b : List Int} (ha : AllB a) (hb : AllB b) : AllB (a ++ b) := fun x hx => by
  rw [List.mem_append] at hx
  rcases hx with hx | hx
  · exact ha x hx
  · exact hb x hx
theorem AllB.one {x : Int} (h : isByte x) : AllB [x] := fun y hy => by
  rw [List.mem_singleton] at hy
  subst hy
  exact h
theorem AllB.flat {α : Type} {f : α → List Int} {l : List α} (h : ∀ x ∈ l, AllB (f x)) : AllB (l.flatMap f) := fun y hy => by
  obtain ⟨x, hx, hy⟩ := List.mem_flatMap.1 hy
  exact h x hx y hy
theorem allB_b2 (x : Int) : AllB (b2 x) := fun y hy => by
  simp only [b2, List.mem_cons, List.not_mem_nil, or_false] at hy
  unfold isByte
  rcases hy with rfl | rfl <;> omega
theorem allB_b4 (x : Int) : AllB (b4 x) := fun y hy => by
  simp only [b4, List.mem_cons, List.not_mem_nil, or_false] at hy
  unfold isByte
  rcases hy with rfl | rfl | rfl | rfl <;> omega
theorem allB_be8 (x : Int) : AllB (be8 x) := fun y hy => by
  simp only [be8, List.mem_cons, List.not_mem_nil, or_false] at hy
  unfold isByte
  rcases hy with rfl | rfl | rfl | rfl | rfl | rfl | rfl | rfl <;> omega
theorem allB_rq (q : Rq) (h : q.ok) : AllB q.bytes := (AllB.one h.1).app ((allB_b4 _).app ((AllB.one h.2.2.1).app ((AllB.one h.2.2.2.1).app (allB_b2 _))))
theorem allB_en (x : En) (h : x.ok) : AllB (enB x) := (allB_b4 _).app ((allB_b4 _).app (allB_rq _ h.2.2))
theorem allB_mk (x : Mk) : AllB (mkB x) := (allB_b4 _).app (allB_be8 _)
theorem len_byte {n : Nat} (h : n ≤ 255) : isByte (n : Int) := by unfold isByte; omega
theorem allB_vote (v : Vt) (c : Vc) (hv : v.ok) (hc : c.ok) (hf : c.few) : AllB (voteY v c) := by
  obtain ⟨f1, f2, f3⟩ := hf
  exact (AllB.one hv.1).app ((AllB.one hv.2.1).app ((allB_b4 _).app ((allB_b4 _).app (((AllB.one (len_byte (by omega))).app (AllB.flat (fun x _ => allB_mk x))).app (((AllB.one (len_byte (by omega))).app (AllB.flat (fun x hx => allB_en x (hc.2.1 x hx)))).app ((AllB.one (len_byte (by omega))).app (AllB.flat (fun x hx => allB_en x (hc.2.2 x hx)))))))))
theorem allB_word (m : Mg) (c : Mc) (h : MgOk m c) (p : Int) : AllB (wordB m p) := by
  unfold wordB
  split
  · exact allB_b4 _
  split
  · exact allB_b4 _
  split
  · exact allB_rq _ h.rq
  split
  · exact allB_be8 _
  split
  · exact AllB.one h.ct
  split
  · exact AllB.one h.pg
  · exact allB_b4 _
theorem allB_enc {w : World} {m : Mg} {c : Mc} (hm : MgAt w m c) (hok : MgOk m c) (hi : isM m c = true) : AllB (encM m c) := by
  have hs := isM_short hm hi
  have hp : ∀ p ∈ partsOf m.k, AllB (partY m c p) := fun p hp => by
    obtain ⟨s7, s8, s9, s10⟩ := hs p hp
    unfold partY
    split
    · next e => exact allB_vote _ _ hok.vt.1 hok.vt.2 (s7 e)
    split
    · next _ e =>
      obtain ⟨h4, hf⟩ := s8 e
      exact (AllB.one (len_byte (by omega))).app (AllB.flat (fun x hx => allB_vote _ _ (hok.vs x hx).1 (hok.vs x hx).2 (hf x hx)))
    split
    · exact AllB.flat (fun x _ => allB_be8 x)
    split
    · next _ _ _ e =>
      have h64 := s10 e
      refine AllB.app (fun y hy => ?_) (fun x hx => hm.dt.2.2.2.2.2 x hx)
      simp only [List.mem_cons, List.not_mem_nil, or_false] at hy
      unfold isByte
      rcases hy with rfl | rfl <;> omega
    · exact allB_word m c hok p
  have hh : AllB [m.k, m.f, m.t, m.e] := fun x hx => by
    simp only [List.mem_cons, List.not_mem_nil, or_false] at hx
    rcases hx with rfl | rfl | rfl | rfl
    · exact hok.k
    · exact hok.f
    · exact hok.t
    · exact hok.e
  exact hh.app (AllB.flat hp)
end Go.Proofs.YtbpfkeeikhhlnaaGreatDoor
