/- append of bytes within a statement whose order is left open, beside a writer. -/
import Derived.Test.YthnebpbmhgmcmaaEnc
namespace Go.Proofs.Ythnebpbmhgmcmaa
open Go.RowKit

theorem BothX.drew {H : Nat} {w0 w : World} {B : Nat} {v : Value} {xs ys : List Int} {X : Nat} {o : Obj} (h : BothX H w0 w B v xs ys X o) : BothX H w0 w.drew B v xs ys X o := by
  obtain ⟨g, h1, h2, h3, h4, h5, h6, h7, h8, h9, h10, h11⟩ := h
  exact ⟨g, h1.kept (Kept.refl (fun _ => False) w).drew (fun h => h) (fun _ _ h => h), h2.drew, h3, h4, h5.drew, h6, h7, h8, h9, h10, h11⟩

theorem run_app (w : World) (ty : TypeId) (v : Value) (n : Nat) (xs : List Int) (hown : w.ownsRow 0 5 1 v n (vals xs))
    (bo : Option Addr) (m c : Nat) (news : List Int) (hl : news.length = m) (hb : Bytes w bo news) (hnone : bo = none → m = 0 ∧ c = 0) (hbig : n + m ≤ 10000000) :
    ∃ ao' c' w', (Builtin.append_ #[26, 26] ty #[v, .slice bo m c]).run Try.prog w = .ok (.slice ao' (n + m) c') w' ∧ w'.ownsRow 0 5 1 (.slice ao' (n + m) c') (n + m) (vals (xs ++ news)) ∧ Kept (fun k => some k = v.ownBlock) w w' ∧
      ((Value.slice ao' (n + m) c').ownBlock = v.ownBlock ∨ (Value.slice ao' (n + m) c').ownBlock = some w.heap.size) := by
  obtain ⟨i0, hi0, hz0, hz1, hz2⟩ := info_parts byte_info
  cases bo with
  | none =>
    obtain ⟨rfl, rfl⟩ := hnone rfl
    obtain rfl : news = [] := List.eq_nil_of_length_eq_zero hl
    have hrun := run_append_owned_none (P := Try.prog) (w := w) 0 26 ty 5 i0 1 Try.underlying26 hi0 v n (vals xs) hown
    obtain ⟨ao', cap', rfl, _⟩ := own_form hown
    exact ⟨ao', cap', w, hrun, by simpa using hown, Kept.refl _ _, .inl rfl⟩
  | some ad =>
    obtain ⟨v', w', hrun, h2, h3, _, h5⟩ := run_append_own_at (P := Try.prog) w 0 26 ty 5 i0 _ 1 1 Try.underlying26 hi0 hz0 hz1 hz2 rfl (by omega) v n (vals xs) hown ad m c (vals news) (by simp [vals, hl]) (by
      intro j u hu
      obtain ⟨hj, rfl⟩ := List.getElem?_eq_some_iff.1 hu
      simp only [vals, List.length_map] at hj
      obtain ⟨ad', e1, e2⟩ := hb j hj
      injection e1 with e1; subst e1
      rw [e2]; simp [vals, List.getElem?_eq_getElem hj]) (vals_one news) (by simp only [maxLen]; omega) (by omega) (Nat.zero_le _)
    have hv : vals xs ++ vals news = vals (xs ++ news) := by simp [vals]
    rw [hv] at h2
    obtain ⟨ao', cap', rfl, _⟩ := own_form h2
    exact ⟨ao', cap', w', hrun, h2, Kept.ofGrown h3, h5⟩

theorem step_app {ops : Array Oper} {o : Oper} {a : Act} {K : Act → World → Prop} {Q : Exit → Act → World → Prop} {E : Prop} {H : Nat} {w0 w : World} {B n c : Nat} {ao : Option Addr} {xs ys : List Int} {X : Nat} {obj : Obj} (hgd : o.guard = none) (s x : Operand)
    (ho : o.op = .call { callee := .builtin .append, args := #[s, x], argTypes := #[26, 26] })
    (h : BothX H w0 w B (.slice ao n c) xs ys X obj) (hn : ys.length = n) (hs : a.eval s = .slice ao n c) (bo : Option Addr) (m bc : Nat) (news : List Int) (hx : a.eval x = .slice bo m bc)
    (hl : news.length = m) (hb : Bytes w bo news) (hnone : bo = none → m = 0 ∧ bc = 0) (hbig : n + m ≤ 10000000)
    (hK : ∀ ao' c' w', BothX H w0 w' B (.slice ao' (n + m) c') xs (ys ++ news) X obj → K (a.put o.dst (.slice ao' (n + m) c')) w') :
    if Region.wanted o (yielded ops a.tmps) = true then Oper.wp Try.prog o a w K Q else E := by
  have hw : Region.wanted o (yielded ops a.tmps) = true := by simp [Region.wanted, hgd]
  rw [if_pos hw]
  have h' := h
  obtain ⟨g, h1, h2, h3, h4, h5, _⟩ := h
  rw [hn] at h5
  obtain ⟨ao', c', w', hrun, ho', hk', hg'⟩ := run_app w o.type (.slice ao n c) n ys h5 bo m bc news hl hb hnone hbig
  have hlen : (ys ++ news).length = n + m := by rw [List.length_append, hl, hn]
  have hend := h'.grow (v' := .slice ao' (n + m) c') (ys' := ys ++ news) (by rw [hlen]; exact ho') hk' (hg'.elim .inl (fun e => .inr ⟨_, e, Nat.le_refl _⟩))
  unfold Oper.wp execOp
  simp only [ho, resolve, invoke, builtin, Sem.run_bind, Sem.run_pure, Result.andThen_ok, List.map_toArray, List.map_cons, List.map_nil, hs, hx, hrun]
  exact hK ao' c' w' hend

theorem Both.below {H : Nat} {w0 w w' : World} {B : Nat} {v : Value} {xs ys : List Int} (h : Both H w0 w B v xs ys) (hk : Below w.heap.size w w') : Both H w0 w' B v xs ys := by
  obtain ⟨g, h1, h2, h3, h4, h5, h6, h7⟩ := h
  have hlt := h1.lt
  exact ⟨g, h1.below hk, h2.trans (hk.mono (by omega)), h3, h4, own_kept h5 (Kept.ofBelow (S := fun _ => False) hk) (fun _ _ h => h), h6, h7⟩

theorem Both.drew {H : Nat} {w0 w : World} {B : Nat} {v : Value} {xs ys : List Int} (h : Both H w0 w B v xs ys) : Both H w0 w.drew B v xs ys := h.below (Below.refl _ _).drew

theorem Both.str {H : Nat} {w0 w : World} {B n c : Nat} {ao : Option Addr} {xs ys : List Int} (h : Both H w0 w B (.slice ao n c) xs ys) (hn : n = ys.length) : (convert 26 9 (.slice ao n c)).run Try.prog w = .ok (.string (strOfNums ys)) w := by
  subst hn
  obtain ⟨g, h1, h2, h3, h4, h5, _⟩ := h
  refine str_bytes (own_bytes h5) (fun e => ?_)
  subst e
  obtain ⟨ao', c', e, h⟩ := own_form h5
  injection e with e1 e2 e3
  subst e1
  exact List.eq_nil_of_length_eq_zero (h rfl).1

theorem all_both {H : Nat} {w0 w : World} {B : Nat} {v : Value} {xs ys : List Int} (h : Both H w0 w B v xs ys) (n : Nat) (hn : n = xs.length) (hl : n ≤ 900000) :
    Calls Try.prog 16 #[.pointer (some ⟨B, 0, none⟩)] w fun e w' => ∃ ao' c', e = .returned (.slice ao' n c') ∧ (New w.heap.size w' ao' c' xs ∧ (convert 26 9 (.slice ao' n c')).run Try.prog w' = .ok (.string (strOfNums xs)) w') ∧ Both H w0 w' B v xs ys := by
  have h' := h
  subst hn
  obtain ⟨g, h1, h2, h3, h4, h5, _⟩ := h
  refine (all_any w B g xs h1 (by omega)).mono ?_
  rintro e w' ⟨ao', c', rfl, hn, hk⟩
  exact ⟨ao', c', rfl, ⟨hn, str_new hn⟩, h'.below hk⟩

theorem be_byte (x : Int) (m : Nat) : ∀ y ∈ be x m, isByte y := by
  induction m with
  | zero => intro y hy; simp [be] at hy
  | succ m ih =>
    intro y hy
    simp only [be, List.mem_cons] at hy
    rcases hy with rfl | hy
    · exact isByte_mod _
    · exact ih y hy

theorem enc1_byte (x : It) (h : ∀ y ∈ x.bs, isByte y) : ∀ y ∈ enc1 x, isByte y := by
  unfold enc1
  repeat' split
  · exact be_byte _ _
  · exact be_byte _ _
  · exact be_byte _ _
  · exact be_byte _ _
  · intro y hy
    rcases List.mem_append.1 hy with hy | hy
    · exact be_byte _ _ y hy
    · exact h y hy

theorem encs_byte (its : List It) (h : ∀ x ∈ its, ∀ y ∈ x.bs, isByte y) : ∀ y ∈ encs its, isByte y := by
  induction its with
  | nil => intro y hy; simp [encs] at hy
  | cons x l ih =>
    intro y hy
    rcases List.mem_append.1 hy with hy | hy
    · exact enc1_byte x (h x (by simp)) y hy
    · exact ih (fun z hz => h z (by simp [hz])) y hy

theorem Items.byte {w : World} {a : Option Addr} {its : List It} (h : Items w a its) : ∀ y ∈ encs its, isByte y := by
  refine encs_byte its (fun x hx => ?_)
  obtain ⟨i, hi, rfl⟩ := List.getElem_of_mem hx
  obtain ⟨b, off, _, h⟩ := h i hi
  exact h.byte

theorem encs_drop (its : List It) (k : Nat) (x : It) (hk : k < its.length) (hx : x = its[k]) : encs (its.drop k) = enc1 x ++ encs (its.drop (k + 1)) := by
  rw [List.drop_eq_getElem_cons hk, ← hx]; rfl

theorem encs_len (its : List It) (h : ∀ x ∈ its, x.bs.length ≤ 300) : (encs its).length ≤ 302 * its.length := by
  induction its with
  | nil => simp [encs]
  | cons x l ih =>
    have h1 : (enc1 x).length ≤ 302 := by
      have := h x (by simp)
      unfold enc1
      repeat' split
      all_goals simp [be_length]
      omega
    have h2 := ih (fun z hz => h z (by simp [hz]))
    simp only [encs, List.length_append, List.length_cons]
    omega

/-- what is read of what was written -/
theorem rd_one (n : Int) (r : List Int) : (be (n % 256) 1 ++ r).getD 0 0 = n % 256 := by simp [be, byteAt]
theorem rd_two (n : Int) (r : List Int) : rd16 (be (IntKind.u16.wrap n) 2 ++ r) = IntKind.u16.wrap n := by
  rw [u16_wrap]
  simp only [rd16, be, byteAt, List.cons_append, List.nil_append, List.getD_cons_zero, List.getD_cons_succ, Nat.reduceMul, Int.reducePow]
  omega
theorem rd_four (n : Int) (r : List Int) : rd32 (be (n % 4294967296) 4 ++ r) = n % 4294967296 := by
  simp only [rd32, be, byteAt, List.cons_append, List.nil_append, List.getD_cons_zero, List.getD_cons_succ, Nat.reduceMul, Int.reducePow]
  omega
theorem rd_eight (n : Int) (h : 0 ≤ n ∧ n ≤ 18446744073709551615) (r : List Int) : rd64 (be n 8 ++ r) = n := by
  simp only [rd64, packI, be, byteAt, List.cons_append, List.nil_append, List.getD_cons_zero, List.getD_cons_succ, Nat.reduceMul, Int.reducePow]
  omega
theorem rd_len (m : Nat) (h : m ≤ 300) (r : List Int) : rd16 (be (m : Int) 2 ++ r) = (m : Int) := by
  simp only [rd16, be, byteAt, List.cons_append, List.nil_append, List.getD_cons_zero, List.getD_cons_succ, Nat.reduceMul, Int.reducePow]
  omega
theorem be_drop (x : Int) (m : Nat) (r : List Int) : (be x m ++ r).drop m = r := by
  rw [List.drop_append_of_le_length (by rw [be_length]; exact Nat.le_refl _), List.drop_of_length_le (by rw [be_length]; exact Nat.le_refl _), List.nil_append]

theorem Lft.alloc {H : Nat} {w0 w : World} {R : Nat} {l : List Int} (h : Lft H w0 w R l) (o : Obj) : Lft H w0 (w.alloc o) R l := h.below ((Below.refl _ _).alloc (Nat.le_refl _) o)

/-- behind a reading call: what is left; the thing that is looked at lies where it lay -/
theorem lft_read {H : Nat} {w0 w w' : World} {R : Nat} {l l' : List Int} {o : Obj} (h : Lft H w0 w R l) (hr : Rd w' R l') (hk : Kept (fun k => k = R) (w.alloc o) w') : Lft H w0 w' R l' ∧ w'.heap[w.heap.size]? = some o := by
  refine ⟨(h.alloc o).step hr hk, ?_⟩
  have := h.1.lt
  rw [hk.block w.heap.size (by simp) (by omega)]
  exact heap_alloc_new w o

theorem encs_split (its : List It) (k : Nat) : (encs its).length = (encs (its.take k)).length + (encs (its.drop k)).length := by
  rw [← List.length_append, ← encs_append, List.take_append_drop]

theorem take_bytes (m : Nat) (bs r : List Int) (h : bs.length = m) : (((be (m : Int) 2 ++ bs) ++ r).drop 2).take m = bs := by
  rw [List.append_assoc, be_drop, ← h, List.take_append_of_le_length (Nat.le_refl _), List.take_length]
theorem drop_bytes (m : Nat) (bs r : List Int) (h : bs.length = m) : ((be (m : Int) 2 ++ bs) ++ r).drop (2 + m) = r := by
  rw [← List.drop_drop, List.append_assoc, be_drop, ← h, List.drop_append_of_le_length (Nat.le_refl _), List.drop_length, List.nil_append]
end Go.Proofs.Ythnebpbmhgmcmaa
