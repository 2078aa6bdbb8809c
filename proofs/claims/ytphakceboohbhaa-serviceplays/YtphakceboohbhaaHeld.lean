/- Laws for a region that draws its order: an operation that yields is taken first. -/
import Derived.Test.YtphakceboohbhaaBase
import Derived.Deep.RegionHeld3
namespace Go.Proofs.Ytphakceboohbhaa
open Go.RowKit

theorem takeA {P : Program} {ops : Array Oper} {Q : Exit → Act → World → Prop} {md : Region.Mode} {S : World → Prop} {i : Nat} {oi : Oper} {v : Value} {fuel : Nat} {listed : Array Bool} {a : Act} {w : World} (a' : Act) (hi : ops[i]? = some oi)
    (hs : Region.noSelect ops = true) (hf : Region.free md ops listed i = true) (hr : (Region.ready md ops listed).contains i = true)
    (hQ : ∀ c a w, Q (.panic c) (a.put oi.dst v) w → Q (.panic c) a w) (hy : YieldsIf P ops S oi v a) (hS : S w) (ha : a.put oi.dst v = a')
    (h : wpAnyH P md ops Q S fuel (listed.setIfInBounds i true) a' w) : wpAnyH P md ops Q S (fuel + 1) listed a w :=
  wpAnyH_take hi hs hf hr hQ hy hS (ha ▸ h)

theorem yi_load {P : Program} {ops : Array Oper} {S : World → Prop} {o : Oper} {v : Value} {a : Act} (ty : TypeId) (x : Operand) (p : Value) (hw : Region.wanted o (yielded ops a.tmps) = true) (ho : o.op = .load ty x) (hx : a.eval x = p)
    (h : ∀ w, S w → (Instr.loadAt ty p).run P w = .ok v w) : YieldsIf P ops S o v a := by
  refine .inl ⟨hw, fun w hS => ?_⟩
  unfold execOp
  simp only [ho, hx, Sem.run_bind, h w hS, Result.andThen_ok, Sem.run_pure]

theorem yi_conv {P : Program} {ops : Array Oper} {S : World → Prop} {o : Oper} {v : Value} {a : Act} (s d : TypeId) (x : Operand) (p : Value) (hw : Region.wanted o (yielded ops a.tmps) = true) (ho : o.op = .convert s d x) (hx : a.eval x = p)
    (h : ∀ w, S w → (convert s d p).run P w = .ok v w) : YieldsIf P ops S o v a := by
  refine .inl ⟨hw, fun w hS => ?_⟩
  unfold execOp
  simp only [ho, hx, Sem.run_bind, h w hS, Result.andThen_ok, Sem.run_pure]

theorem yi_bin {P : Program} {ops : Array Oper} {S : World → Prop} {o : Oper} {v : Value} {a : Act} (op : BinOp) (t t2 : TypeId) (x y : Operand) (p q : Value) (hw : Region.wanted o (yielded ops a.tmps) = true) (ho : o.op = .binOp op t x y t2) (hx : a.eval x = p) (hy : a.eval y = q)
    (hg : ∀ w, (eqGuard op t x y p q).run P w = .ok () w) (h : ∀ w, S w → (binOp op t p q).run P w = .ok v w) : YieldsIf P ops S o v a := by
  refine .inl ⟨hw, fun w hS => ?_⟩
  unfold execOp
  simp only [ho, hx, hy, Sem.run_bind, hg, h w hS, Result.andThen_ok, Sem.run_pure]
end Go.Proofs.Ytphakceboohbhaa
