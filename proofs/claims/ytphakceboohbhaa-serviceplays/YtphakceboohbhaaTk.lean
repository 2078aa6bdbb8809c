/- Laws that walk a region operation by operation, the frames found by themselves. -/
import Derived.Test.YtphakceboohbhaaHeld
import Derived.WalkKit
namespace Go.Proofs.Ytphakceboohbhaa
open Go.RowKit
set_option maxRecDepth 100000

theorem tk {P : Program} {ops : Array Oper} {Q : Exit → Act → World → Prop} {md : Region.Mode} {S : World → Prop} {oi : Oper} {fuel d : Nat} {listed : Array Bool} {t t' : Array Value} {df : List Deferred} {w : World} (i : Nat) (v : Value) (hi : ops[i]? = some oi) (hy : YieldsIf P ops S oi v ⟨t, df⟩) (hS : S w)
    (h : wpAnyH P md ops Q S fuel (listed.setIfInBounds i true) ⟨t', df⟩ w) (hd : oi.dst = some d := by rfl) (hs : Region.noSelect ops = true := by kernel_rfl) (hf : Region.free md ops listed i = true := by kernel_rfl) (hr : (Region.ready md ops listed).contains i = true := by kernel_rfl)
    (hQ : ∀ c a w, Q (.panic c) (a.put oi.dst v) w → Q (.panic c) a w := by exact fun _ _ _ h => h) (ha : t.setIfInBounds d v = t' := by simp only [List.setIfInBounds_toArray, List.set_cons_succ, List.set_cons_zero]; rfl) : wpAnyH P md ops Q S (fuel + 1) listed ⟨t, df⟩ w := by
  refine wpAnyH_take hi hs hf hr hQ hy hS ?_
  rw [hd]; subst ha; exact h

theorem tm {P : Program} {ops : Array Oper} {Q : Exit → Act → World → Prop} {md : Region.Mode} {S : World → Prop} {oi : Oper} {fuel d : Nat} {listed : Array Bool} {t t' : Array Value} {df : List Deferred} {w : World} (i : Nat) (v : Value) (hi : ops[i]? = some oi) (hS : S w)
    (h : wpAnyH P md ops Q S fuel (listed.setIfInBounds i true) ⟨t', df⟩ w) (hy : YieldsIf P ops S oi v ⟨t, df⟩ := by exact .inl ⟨rfl, fun _ _ => rfl⟩) (hd : oi.dst = some d := by rfl) (hs : Region.noSelect ops = true := by kernel_rfl) (hf : Region.free md ops listed i = true := by kernel_rfl) (hr : (Region.ready md ops listed).contains i = true := by kernel_rfl)
    (hQ : ∀ c a w, Q (.panic c) (a.put oi.dst v) w → Q (.panic c) a w := by exact fun _ _ _ h => h) (ha : t.setIfInBounds d v = t' := by simp only [List.setIfInBounds_toArray, List.set_cons_succ, List.set_cons_zero]; rfl) : wpAnyH P md ops Q S (fuel + 1) listed ⟨t, df⟩ w := by
  refine wpAnyH_take hi hs hf hr hQ hy hS ?_
  rw [hd]; subst ha; exact h

theorem tg {P : Program} {ops : Array Oper} {Q : Exit → Act → World → Prop} {md : Region.Mode} {S : World → Prop} {oi : Oper} {fuel d : Nat} {listed : Array Bool} {t t' : Array Value} {df : List Deferred} {w : World} (i : Nat) (v : Value) (hi : ops[i]? = some oi) (hS : S w)
    (h : wpAnyH P md ops Q S fuel (listed.setIfInBounds i true) ⟨t', df⟩ w) (hy : YieldsIf P ops S oi v ⟨t, df⟩ := by exact .inl ⟨rfl, fun _ _ => by go_simp⟩) (hd : oi.dst = some d := by rfl) (hs : Region.noSelect ops = true := by kernel_rfl) (hf : Region.free md ops listed i = true := by kernel_rfl) (hr : (Region.ready md ops listed).contains i = true := by kernel_rfl)
    (hQ : ∀ c a w, Q (.panic c) (a.put oi.dst v) w → Q (.panic c) a w := by exact fun _ _ _ h => h) (ha : t.setIfInBounds d v = t' := by simp only [List.setIfInBounds_toArray, List.set_cons_succ, List.set_cons_zero]; rfl) : wpAnyH P md ops Q S (fuel + 1) listed ⟨t, df⟩ w := by
  refine wpAnyH_take hi hs hf hr hQ hy hS ?_
  rw [hd]; subst ha; exact h

theorem tn {P : Program} {ops : Array Oper} {Q : Exit → Act → World → Prop} {md : Region.Mode} {S : World → Prop} {oi : Oper} {fuel d : Nat} {listed : Array Bool} {t t' : Array Value} {df : List Deferred} {w : World} (i : Nat) (hi : ops[i]? = some oi) (hS : S w)
    (h : wpAnyH P md ops Q S fuel (listed.setIfInBounds i true) ⟨t', df⟩ w) (hy : YieldsIf P ops S oi undef ⟨t, df⟩ := by exact .inr ⟨rfl, rfl⟩) (hd : oi.dst = some d := by rfl) (hs : Region.noSelect ops = true := by kernel_rfl) (hf : Region.free md ops listed i = true := by kernel_rfl) (hr : (Region.ready md ops listed).contains i = true := by kernel_rfl)
    (hQ : ∀ c a w, Q (.panic c) (a.put oi.dst undef) w → Q (.panic c) a w := by exact fun _ _ _ h => h) (ha : t.setIfInBounds d undef = t' := by simp only [List.setIfInBounds_toArray, List.set_cons_succ, List.set_cons_zero]; rfl) : wpAnyH P md ops Q S (fuel + 1) listed ⟨t, df⟩ w := by
  refine wpAnyH_take hi hs hf hr hQ hy hS ?_
  rw [hd]; subst ha; exact h

theorem wv {P : Program} {ops : Array Oper} {Q : Exit → Act → World → Prop} {o : Oper} {rest : List Oper} {t t' : Array Value} {df : List Deferred} {d : Nat} {w : World} (v : Value) (w1 : World) (h : (execOp (Act.mk t df).eval o).run P w = .ok (.value v) w1) (k : wpList P ops Q rest ⟨t', df⟩ w1)
    (hgd : o.guard = none := by rfl) (hd : o.dst = some d := by rfl) (ha : t.setIfInBounds d v = t' := by simp only [List.setIfInBounds_toArray, List.set_cons_succ, List.set_cons_zero]; rfl) : wpList P ops Q (o :: rest) ⟨t, df⟩ w :=
  wpList_plain hgd fun K hK => by
    unfold Oper.wp; rw [h]; refine hK _ _ ?_
    subst ha; rw [hd]; exact k

end Go.Proofs.Ytphakceboohbhaa
