/- What comes in: a mark, an entry, a vote, a message. MsgTells: both bytes of a message, the program's and the document's. -/
import Derived.Test.YtbpfkeeikhhlnaaGreatDoorC21
namespace Go.Proofs.YtbpfkeeikhhlnaaGreatDoor
open Go.ChangeShapes Go.WideShapes Go.ChangeAt Go.RowKit

theorem RowU.split {α : Type} {w : World} {k : Nat} {enc : α → List Value} {v : Value} {xs : List α} (h : RowU w k enc v xs) : ∃ ao cap, v = .slice ao xs.length cap ∧ RowU w k enc (.slice ao xs.length cap) xs := by
  have h0 := h
  obtain ⟨ao, cap, rfl, _⟩ := h
  exact ⟨ao, cap, rfl, h0⟩
/-- of a short row -/
theorem RowU.row {α : Type} {w : World} {k : Nat} {enc : α → List Value} {v : Value} {xs : List α} (h : RowU w k enc v xs) (hl : xs.length ≤ 1000000) : Row w k enc v xs := by
  obtain ⟨ao, cap, e, h1, h2, _, h4⟩ := h
  exact ⟨ao, cap, e, h1, h2, hl, h4⟩
instance : Inhabited (Vt × Vc) := ⟨(Vt.zero, ⟨[], [], []⟩)⟩
def VtU (w : World) (v : Vt) (c : Vc) : Prop := RowU w 2 Mk.cells v.ms.val c.ms ∧ RowU w 7 En.cells v.p.val c.p ∧ RowU w 7 En.cells v.q.val c.q
theorem VtU.at {w : World} {v : Vt} {c : Vc} (h : VtU w v c) (hf : v.few) : VtAt w v c := by
  have e : ∀ {α : Type} {k : Nat} {enc : α → List Value} {s : Sl} {xs : List α}, RowU w k enc s.val xs → s.n = xs.length := fun h => by
    obtain ⟨ao, cap, e, _⟩ := h
    injection e
  have e1 := e h.1
  have e2 := e h.2.1
  have e3 := e h.2.2
  obtain ⟨f1, f2, f3⟩ := hf
  exact ⟨h.1.row (by omega), h.2.1.row (by omega), h.2.2.row (by omega)⟩
/-- a message as it comes in, its lists of whatever length -/
structure MgU (w : World) (m : Mg) (c : Mc) : Prop where
  vt : VtU w m.vt c.vt
  vs : RowU w 7 vcell m.vs.val c.vs
  vl : ∀ x ∈ c.vs, VtU w x.1 x.2
  sm : RowU w 1 (fun x => [Value.int .u64 x]) m.sm.val c.sm
  dn : m.dt.n = c.dt.length
  db : Bytes w m.dt.a c.dt
  dy : ∀ x ∈ c.dt, isByte x
  dc : c.dt.length ≤ m.dt.c
  dz : m.dt.a = none → m.dt.c = 0
/-- one that is looked at lies as the others do -/
theorem MgU.at {w : World} {m : Mg} {c : Mc} (h : MgU w m c) (h1 : m.vs.n ≤ 6) (h2 : m.sm.n ≤ 12) (h3 : m.dt.n ≤ 200) (h4 : m.vt.few) (h5 : ∀ x ∈ c.vs.map Prod.fst, x.few) : MgAt w m c := by
  have e : ∀ {α : Type} {k : Nat} {enc : α → List Value} {s : Sl} {xs : List α}, RowU w k enc s.val xs → s.n = xs.length := fun h => by
    obtain ⟨ao, cap, e, _⟩ := h
    injection e
  have e1 := e h.vs
  have e2 := e h.sm
  have e3 := h.dn
  exact ⟨h.vt.at h4, ⟨h.vs.row (by omega), fun x hx => (h.vl x hx).at (h5 _ (List.mem_map_of_mem hx))⟩, h.sm.row (by omega), h.dn, h.db, h.dz, h.dc, by omega, h.dy⟩
theorem MgU.votes {w : World} {m : Mg} {c : Mc} (h : MgU w m c) : RowU w 7 Vt.cells m.vs.val (c.vs.map Prod.fst) := by
  obtain ⟨ao, cap, e, h1, h2, h3, h4⟩ := h.vs
  refine ⟨ao, cap, by rw [List.length_map]; exact e, h1, by rw [List.length_map]; exact h2, h3, fun j x hj => ?_⟩
  rw [List.getElem?_map] at hj
  cases hx : c.vs[j]? with
  | none => rw [hx] at hj; cases hj
  | some y =>
    rw [hx] at hj
    injection hj with hj
    subst hj
    exact h4 j y hx
end Go.Proofs.YtbpfkeeikhhlnaaGreatDoor
namespace Go.Proofs.YtbpfkeeikhhlnaaGreatDoor
open Go.RowKit
set_option maxRecDepth 100000

def bytesM (m : Mg) (c : Mc) : List Int := if isM m c then encM m c else []
def errM (m : Mg) (c : Mc) : Int := if isM m c then 0 else 30
def EncE (w : World) (m : Mg) (c : Mc) (e : Ending) (w' : World) : Prop := ∃ ao z, e = .returned (.tuple #[.slice ao (bytesM m c).length z, .int .i64 (errM m c)]) ∧ (Bytes w' ao (bytesM m c) ∧ (ao = none → bytesM m c = [])) ∧ Below w.heap.size w w'
theorem encE {w w' : World} {m : Mg} {c : Mc} {e : Ending} (h : ((isM m c = false ∧ e = .returned (.tuple #[.slice none 0 0, .int .i64 30])) ∨ (isM m c = true ∧ ∃ ao k, e = .returned (.tuple #[.slice ao (encM m c).length k, .int .i64 0]) ∧ New w.heap.size w' ao k (encM m c))) ∧ Below w.heap.size w w') : EncE w m c e w' := by
  obtain ⟨⟨hi, rfl⟩ | ⟨hi, ao, k, rfl, hn⟩, hb⟩ := h
  · have e1 : bytesM m c = [] := by unfold bytesM; rw [hi]; rfl
    have e2 : errM m c = 30 := by unfold errM; rw [hi]; rfl
    refine ⟨none, 0, ?_, ?_, hb⟩
    · rw [e1, e2]; rfl
    · rw [e1]; exact ⟨fun i hx => absurd hx (by simp), fun _ => rfl⟩
  · have e1 : bytesM m c = encM m c := by unfold bytesM; rw [hi]; rfl
    have e2 : errM m c = 0 := by unfold errM; rw [hi]; rfl
    refine ⟨ao, k, ?_, ?_, hb⟩
    · rw [e1, e2]
    · rw [e1]; exact ⟨own_bytes hn.1, fun h => (hn.none h).1⟩
theorem MgOk.p1 {m : Mg} {c : Mc} (h : MgOk m c) : ∀ x ∈ c.vs, (∀ y ∈ x.2.p, 0 ≤ y.s ∧ y.rq.ok) ∧ ∀ y ∈ x.2.q, 0 ≤ y.s ∧ y.rq.ok :=
  fun x hx => ⟨fun y hy => ⟨((h.vs x hx).2.2.1 y hy).1.1, ((h.vs x hx).2.2.1 y hy).2.2⟩, fun y hy => ⟨((h.vs x hx).2.2.2 y hy).1.1, ((h.vs x hx).2.2.2 y hy).2.2⟩⟩
theorem VcOkR {c : Vc} (h : c.ok) : (∀ y ∈ c.p, 0 ≤ y.s ∧ y.rq.ok) ∧ ∀ y ∈ c.q, 0 ≤ y.s ∧ y.rq.ok :=
  ⟨fun y hy => ⟨(h.2.1 y hy).1.1, (h.2.1 y hy).2.2⟩, fun y hy => ⟨(h.2.2 y hy).1.1, (h.2.2 y hy).2.2⟩⟩
theorem VtR.of {v : Vt} {c : Vc} (hv : v.ok) (hc : c.ok) : VtR v c :=
  ⟨hv.2.2.1, hv.2.2.2, fun x hx => hc.1 x hx, fun x hx => hc.2.1 x hx, fun x hx => hc.2.2 x hx⟩
theorem byteR {x : Int} (h : isByte x) : 0 ≤ x ∧ x ≤ 255 := by unfold isByte at h; omega
theorem encD (w : World) (m : Mg) (c : Mc) (hm : MgAt w m c) (hok : MgOk m c) : Calls Tryz.prog 9 #[.agg m.cells.toArray] w (EncE w m c) :=
  Calls.mono (refEncode_any w m c hm hok.p1 (VcOkR hok.vt.2) (byteR hok.f) (byteR hok.t) ⟨hok.vw, hok.sq, hok.rs, hok.rq, VtR.of hok.vt.1 hok.vt.2, fun x hx => VtR.of (hok.vs x hx).1 (hok.vs x hx).2, hok.sm⟩) fun _ _ h => encE h
theorem RowU.below {α : Type} {w w' : World} {k : Nat} {enc : α → List Value} {v : Value} {xs : List α} (h : RowU w k enc v xs) (hb : Below w.heap.size w w') : RowU w' k enc v xs := by
  obtain ⟨ao, cap, rfl, h1, h2, h3, h4⟩ := h
  refine ⟨ao, cap, rfl, h1, h2, h3, fun j x hj => ?_⟩
  obtain ⟨b, off, e, hc⟩ := h4 j x hj
  refine ⟨b, off, e, fun i u hu => ?_⟩
  have := hc i u hu
  rw [hb.cell (cell_block this)]; exact this
end Go.Proofs.YtbpfkeeikhhlnaaGreatDoor
