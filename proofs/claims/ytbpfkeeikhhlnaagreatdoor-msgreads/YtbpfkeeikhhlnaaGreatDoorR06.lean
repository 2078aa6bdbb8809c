/- A message that is read well stood there. The document's reading of a message, and that it is the program's where that ends well. The document's getRest: what a checkpoint, a question for a page, sums and a page hold behind their number. The document's getRest of a page. What the document reads is in range. The document's getRest of a page whose bytes are there. -/
import Derived.Test.YtbpfkeeikhhlnaaGreatDoorR05
import Derived.Test.YtbpfkeeikhhlnaaGreatDoorC07
import Derived.Test.YtbpfkeeikhhlnaaGreatDoorR01
namespace Go.Proofs.YtbpfkeeikhhlnaaGreatDoor
open Go.RowKit
set_option maxRecDepth 100000

/-- the bytes of a part of what was read -/
def partQ (q : Mq) (p : Int) : List Int :=
  if p = 0 then b4 q.w.vw else if p = 1 then b4 q.w.sq else if p = 2 then q.w.rq.bytes else if p = 3 then be8 q.w.ro else if p = 4 then [q.w.ct] else if p = 5 then [q.w.pg]
  else if p = 6 then b4 q.w.rs else if p = 7 then vpY q.vt else if p = 8 then [(q.vs.length : Int)] ++ q.vs.flatMap vpY else if p = 9 then q.sm.flatMap be8 else lenBytes q.dt
theorem encDt : Enc pDt lenBytes := by
  refine ⟨fun s hf => ?_, fun s hs hf => ?_, fun s hs => ?_⟩
  · unfold pDt at hf
    by_cases h0 : s.f = 0
    · exact h0
    · rw [if_neg h0] at hf; exact absurd hf h0
  · unfold pDt at hf ⊢
    by_cases h0 : s.f = 0
    · rw [if_pos h0] at hf ⊢
      by_cases h2 : 2 ≤ s.l.length
      · rw [if_pos h2] at hf ⊢
        by_cases h64 : 64 < rd16 s.l
        · rw [if_pos h64] at hf; simp at hf
        · rw [if_neg h64] at hf ⊢
          by_cases hn : 2 + (rd16 s.l).toNat ≤ s.l.length
          · rw [if_pos hn]
            have e := enc16.was s hs (by unfold p16 gN; rw [if_pos h0, if_pos h2])
            unfold p16 gN at e
            rw [if_pos h0, if_pos h2] at e
            simp only at e ⊢
            have hr : 0 ≤ rd16 s.l := by
              have a := hs.at 0
              have b := hs.at 1
              unfold isByte at a b
              unfold rd16
              omega
            have hlen : ((s.l.drop 2).take (rd16 s.l).toNat).length = (rd16 s.l).toNat := by rw [List.length_take, List.length_drop]; omega
            unfold lenBytes
            rw [hlen, show ((rd16 s.l).toNat : Int) = rd16 s.l from by omega, List.append_assoc, ← List.drop_drop, List.take_append_drop]
            exact e
          · rw [if_neg hn] at hf; simp at hf
      · rw [if_neg h2] at hf; simp at hf
    · rw [if_neg h0] at hf; exact absurd hf h0
  · unfold pDt
    (repeat' split) <;> first | exact hs | (intro x hx; exact hs x (List.mem_of_mem_drop hx))
theorem enc9 : Enc (fun s => pL p64 8 8 s) (fun l => l.flatMap be8) := by
  refine ⟨fun s hf => ?_, fun s hs hf => ?_, fun s hs => ?_⟩
  · simp only [pL] at hf
    by_cases h0 : s.f = 0
    · exact h0
    · rw [if_neg h0] at hf; exact absurd hf h0
  · simp only [pL] at hf ⊢
    by_cases h0 : s.f = 0
    · rw [if_pos h0, if_pos (Nat.le_refl _)] at hf ⊢
      exact (encN enc64 8).was s hs hf
    · rw [if_neg h0] at hf; exact absurd hf h0
  · simp only [pL]
    split
    · rw [if_pos (Nat.le_refl _)]; exact (encN enc64 8).ok s hs
    · exact hs
theorem part_was (p : Int) (x : Mq) (s : Sr) (hs : SrOk s) (hf : (pPart p x s).2.f = 0) : s.f = 0 ∧ s.l = partQ (pPart p x s).1 p ++ (pPart p x s).2.l ∧ SrOk (pPart p x s).2 := by
  unfold pPart partQ at *
  by_cases h0 : p = 0
  · simp only [h0, if_true] at hf ⊢; exact ⟨enc32.back _ hf, enc32.was _ hs hf, enc32.ok _ hs⟩
  by_cases h1 : p = 1
  · simp [h1] at hf ⊢; exact ⟨enc32.back _ hf, enc32.was _ hs hf, enc32.ok _ hs⟩
  by_cases h2 : p = 2
  · simp [h2] at hf ⊢; exact ⟨encRq.back _ hf, encRq.was _ hs hf, encRq.ok _ hs⟩
  by_cases h3 : p = 3
  · simp [h3] at hf ⊢; exact ⟨enc64.back _ hf, enc64.was _ hs hf, enc64.ok _ hs⟩
  by_cases h4 : p = 4
  · simp [h4] at hf ⊢; exact ⟨enc8.back _ hf, enc8.was _ hs hf, enc8.ok _ hs⟩
  by_cases h5 : p = 5
  · simp [h5] at hf ⊢; exact ⟨enc8.back _ hf, enc8.was _ hs hf, enc8.ok _ hs⟩
  by_cases h6 : p = 6
  · simp [h6] at hf ⊢; exact ⟨enc32.back _ hf, enc32.was _ hs hf, enc32.ok _ hs⟩
  by_cases h7 : p = 7
  · simp [h7] at hf ⊢; exact ⟨encVt.back _ hf, encVt.was _ hs hf, encVt.ok _ hs⟩
  by_cases h8 : p = 8
  · simp only [h8, if_true, if_false, show ¬ (8 : Int) = 0 from by decide, show ¬ (8 : Int) = 1 from by decide, show ¬ (8 : Int) = 2 from by decide, show ¬ (8 : Int) = 3 from by decide, show ¬ (8 : Int) = 4 from by decide, show ¬ (8 : Int) = 5 from by decide, show ¬ (8 : Int) = 6 from by decide, show ¬ (8 : Int) = 7 from by decide] at hf ⊢
    exact ⟨(encL encVt 4).back _ hf, (encL encVt 4).was _ hs hf, (encL encVt 4).ok _ hs⟩
  by_cases h9 : p = 9
  · simp only [h9, if_true, if_false, show ¬ (9 : Int) = 0 from by decide, show ¬ (9 : Int) = 1 from by decide, show ¬ (9 : Int) = 2 from by decide, show ¬ (9 : Int) = 3 from by decide, show ¬ (9 : Int) = 4 from by decide, show ¬ (9 : Int) = 5 from by decide, show ¬ (9 : Int) = 6 from by decide, show ¬ (9 : Int) = 7 from by decide, show ¬ (9 : Int) = 8 from by decide] at hf ⊢
    exact ⟨enc9.back _ hf, enc9.was _ hs hf, enc9.ok _ hs⟩
  simp only [h0, h1, h2, h3, h4, h5, h6, h7, h8, h9, if_false] at hf ⊢
  exact ⟨encDt.back _ hf, encDt.was _ hs hf, encDt.ok _ hs⟩
theorem pPart_sr (p : Int) (x : Mq) (s : Sr) (hs : SrOk s) : SrOk (pPart p x s).2 := by
  unfold pPart
  by_cases h0 : p = 0
  · subst h0
    simp only [if_true]
    exact enc32.ok _ hs
  by_cases h1 : p = 1
  · subst h1
    simp only [if_true, if_false, show ¬ (1 : Int) = 0 from by decide]
    exact enc32.ok _ hs
  by_cases h2 : p = 2
  · subst h2
    simp only [if_true, if_false, show ¬ (2 : Int) = 0 from by decide, show ¬ (2 : Int) = 1 from by decide]
    exact encRq.ok _ hs
  by_cases h3 : p = 3
  · subst h3
    simp only [if_true, if_false, show ¬ (3 : Int) = 0 from by decide, show ¬ (3 : Int) = 1 from by decide, show ¬ (3 : Int) = 2 from by decide]
    exact enc64.ok _ hs
  by_cases h4 : p = 4
  · subst h4
    simp only [if_true, if_false, show ¬ (4 : Int) = 0 from by decide, show ¬ (4 : Int) = 1 from by decide, show ¬ (4 : Int) = 2 from by decide, show ¬ (4 : Int) = 3 from by decide]
    exact enc8.ok _ hs
  by_cases h5 : p = 5
  · subst h5
    simp only [if_true, if_false, show ¬ (5 : Int) = 0 from by decide, show ¬ (5 : Int) = 1 from by decide, show ¬ (5 : Int) = 2 from by decide, show ¬ (5 : Int) = 3 from by decide, show ¬ (5 : Int) = 4 from by decide]
    exact enc8.ok _ hs
  by_cases h6 : p = 6
  · subst h6
    simp only [if_true, if_false, show ¬ (6 : Int) = 0 from by decide, show ¬ (6 : Int) = 1 from by decide, show ¬ (6 : Int) = 2 from by decide, show ¬ (6 : Int) = 3 from by decide, show ¬ (6 : Int) = 4 from by decide, show ¬ (6 : Int) = 5 from by decide]
    exact enc32.ok _ hs
  by_cases h7 : p = 7
  · subst h7
    simp only [if_true, if_false, show ¬ (7 : Int) = 0 from by decide, show ¬ (7 : Int) = 1 from by decide, show ¬ (7 : Int) = 2 from by decide, show ¬ (7 : Int) = 3 from by decide, show ¬ (7 : Int) = 4 from by decide, show ¬ (7 : Int) = 5 from by decide, show ¬ (7 : Int) = 6 from by decide]
    exact encVt.ok _ hs
  by_cases h8 : p = 8
  · subst h8
    simp only [if_true, if_false, show ¬ (8 : Int) = 0 from by decide, show ¬ (8 : Int) = 1 from by decide, show ¬ (8 : Int) = 2 from by decide, show ¬ (8 : Int) = 3 from by decide, show ¬ (8 : Int) = 4 from by decide, show ¬ (8 : Int) = 5 from by decide, show ¬ (8 : Int) = 6 from by decide, show ¬ (8 : Int) = 7 from by decide]
    exact (encL encVt 4).ok _ hs
  by_cases h9 : p = 9
  · subst h9
    simp only [if_true, if_false, show ¬ (9 : Int) = 0 from by decide, show ¬ (9 : Int) = 1 from by decide, show ¬ (9 : Int) = 2 from by decide, show ¬ (9 : Int) = 3 from by decide, show ¬ (9 : Int) = 4 from by decide, show ¬ (9 : Int) = 5 from by decide, show ¬ (9 : Int) = 6 from by decide, show ¬ (9 : Int) = 7 from by decide, show ¬ (9 : Int) = 8 from by decide]
    exact enc9.ok _ hs
  simp only [h0, h1, h2, h3, h4, h5, h6, h7, h8, h9, if_false]
  exact encDt.ok _ hs
theorem part_keeps (p p' : Int) (x : Mq) (s : Sr) (h : p ≠ p') (hp : 0 ≤ p ∧ p ≤ 10) (hp' : 0 ≤ p' ∧ p' ≤ 10) : partQ (pPart p x s).1 p' = partQ x p' := by
  have e : p = 0 ∨ p = 1 ∨ p = 2 ∨ p = 3 ∨ p = 4 ∨ p = 5 ∨ p = 6 ∨ p = 7 ∨ p = 8 ∨ p = 9 ∨ p = 10 := by omega
  have e' : p' = 0 ∨ p' = 1 ∨ p' = 2 ∨ p' = 3 ∨ p' = 4 ∨ p' = 5 ∨ p' = 6 ∨ p' = 7 ∨ p' = 8 ∨ p' = 9 ∨ p' = 10 := by omega
  rcases e with rfl | rfl | rfl | rfl | rfl | rfl | rfl | rfl | rfl | rfl | rfl <;> rcases e' with rfl | rfl | rfl | rfl | rfl | rfl | rfl | rfl | rfl | rfl | rfl <;> first | exact absurd rfl h | rfl
theorem fold_keeps (p : Int) (hp : 0 ≤ p ∧ p ≤ 10) : ∀ (ps : List Int) (y : Mq × Sr), (∀ q ∈ ps, 0 ≤ q ∧ q ≤ 10) → p ∉ ps → partQ (pFold ps y).1 p = partQ y.1 p
  | [], _, _, _ => rfl
  | q :: ps, y, hr, hn => by
    have ih := fold_keeps p hp ps (pPart q y.1 y.2) (fun r h => hr r (List.mem_cons_of_mem _ h)) (fun h => hn (List.mem_cons_of_mem _ h))
    have e : pFold (q :: ps) y = pFold ps (pPart q y.1 y.2) := rfl
    rw [e, ih]
    exact part_keeps q p y.1 y.2 (fun h => hn (by rw [h]; exact List.mem_cons_self ..)) (hr q (List.mem_cons_self ..)) hp
theorem fold_back : ∀ (ps : List Int) (y : Mq × Sr), SrOk y.2 → (pFold ps y).2.f = 0 → y.2.f = 0
  | [], _, _, h => h
  | q :: ps, y, hs, h => by
    have e : pFold (q :: ps) y = pFold ps (pPart q y.1 y.2) := rfl
    rw [e] at h
    by_cases h1 : (pPart q y.1 y.2).2.f = 0
    · exact (part_was q y.1 y.2 hs h1).1
    · exact absurd (fold_back ps _ (pPart_sr q y.1 y.2 hs) h) h1
theorem fold_was : ∀ (ps : List Int) (y : Mq × Sr), (∀ q ∈ ps, 0 ≤ q ∧ q ≤ 10) → ps.Nodup → SrOk y.2 → (pFold ps y).2.f = 0 → y.2.l = ps.flatMap (partQ (pFold ps y).1) ++ (pFold ps y).2.l
  | [], y, _, _, _, _ => by simp [pFold]
  | q :: ps, y, hr, hn, hs, hf => by
    have e : pFold (q :: ps) y = pFold ps (pPart q y.1 y.2) := rfl
    rw [List.nodup_cons] at hn
    rw [e] at hf ⊢
    have h1 := fold_back ps _ (pPart_sr q y.1 y.2 hs) hf
    obtain ⟨-, h2, h3⟩ := part_was q y.1 y.2 hs h1
    have ih := fold_was ps (pPart q y.1 y.2) (fun r h => hr r (List.mem_cons_of_mem _ h)) hn.2 h3 hf
    rw [List.flatMap_cons, fold_keeps q (hr q (List.mem_cons_self ..)) ps _ (fun r h => hr r (List.mem_cons_of_mem _ h)) hn.1, List.append_assoc, ← ih]
    exact h2
theorem part_head (p : Int) (x : Mq) (s : Sr) : (pPart p x s).1.w.k = x.w.k ∧ (pPart p x s).1.w.f = x.w.f ∧ (pPart p x s).1.w.t = x.w.t ∧ (pPart p x s).1.w.e = x.w.e := by
  unfold pPart
  (repeat' split) <;> exact ⟨rfl, rfl, rfl, rfl⟩
theorem fold_head : ∀ (ps : List Int) (y : Mq × Sr), (pFold ps y).1.w.k = y.1.w.k ∧ (pFold ps y).1.w.f = y.1.w.f ∧ (pFold ps y).1.w.t = y.1.w.t ∧ (pFold ps y).1.w.e = y.1.w.e
  | [], _ => ⟨rfl, rfl, rfl, rfl⟩
  | q :: ps, y => by
    have e : pFold (q :: ps) y = pFold ps (pPart q y.1 y.2) := rfl
    have h1 := fold_head ps (pPart q y.1 y.2)
    have h2 := part_head q y.1 y.2
    rw [e, h1.1, h1.2.1, h1.2.2.1, h1.2.2.2]
    exact h2
theorem parts_nodup (k : Int) : (partsOf k).Nodup := by
  by_cases h1 : k = 1
  · subst h1; decide
  by_cases h2 : k = 2
  · subst h2; decide
  by_cases h3 : k = 3
  · subst h3; decide
  by_cases h4 : k = 4
  · subst h4; decide
  by_cases h5 : k = 5
  · subst h5; decide
  by_cases h6 : k = 6
  · subst h6; decide
  by_cases h7 : k = 7
  · subst h7; decide
  by_cases h8 : k = 8
  · subst h8; decide
  by_cases h9 : k = 9
  · subst h9; decide
  by_cases h10 : k = 10
  · subst h10; decide
  by_cases h11 : k = 11
  · subst h11; decide
  by_cases h12 : k = 12
  · subst h12; decide
  by_cases h13 : k = 13
  · subst h13; decide
  by_cases h14 : k = 14
  · subst h14; decide
  have e0 : partsOf k = [] := by unfold partsOf; simp [h1, h2, h3, h4, h5, h6, h7, h8, h9, h10, h11, h12, h13, h14]
  rw [e0]; exact List.nodup_nil
/-- what was read well stood there, behind it what is left -/
theorem all_was (b : List Int) (hb : ∀ x ∈ b, isByte x) (hf : (pAll b).2.f = 0) : b = [(pAll b).1.w.k, (pAll b).1.w.f, (pAll b).1.w.t, (pAll b).1.w.e] ++ (partsOf (pAll b).1.w.k).flatMap (partQ (pAll b).1) ++ (pAll b).2.l := by
  have hs : SrOk ⟨b, 0⟩ := hb
  have h1 := enc8.ok _ hs
  have h2 := enc8.ok _ h1
  have h3 := enc8.ok _ h2
  have h4 := enc8.ok _ h3
  unfold pAll at hf ⊢
  have hd := fold_head (partsOf (p8 ⟨b, 0⟩).1) (pHd ⟨b, 0⟩)
  have f4 := fold_back _ (pHd ⟨b, 0⟩) h4 hf
  have hw := fold_was _ (pHd ⟨b, 0⟩) (partsOf_le _) (parts_nodup _) h4 hf
  have f3 := enc8.back _ f4
  have f2 := enc8.back _ f3
  have f1 := enc8.back _ f2
  have w1 := enc8.was _ hs f1
  have w2 := enc8.was _ h1 f2
  have w3 := enc8.was _ h2 f3
  have w4 := enc8.was _ h3 f4
  rw [hd.1, hd.2.1, hd.2.2.1, hd.2.2.2, List.append_assoc]
  have hk : (pHd ⟨b, 0⟩).1.w.k = (p8 ⟨b, 0⟩).1 := rfl
  rw [hk, ← hw]
  show b = [(p8 ⟨b, 0⟩).1, (p8 (p8 ⟨b, 0⟩).2).1, (p8 (p8 (p8 ⟨b, 0⟩).2).2).1, (p8 (p8 (p8 (p8 ⟨b, 0⟩).2).2).2).1] ++ (p8 (p8 (p8 (p8 ⟨b, 0⟩).2).2).2).2.l
  simp only [List.cons_append, List.nil_append] at w1 w2 w3 w4 ⊢
  rw [← w4, ← w3, ← w2, ← w1]
theorem part_msg (m : Mg) (c : Mc) (p : Int) (hp : 0 ≤ p ∧ p ≤ 10) : partQ (toMq m c) p = partY m c p := by
  have e : p = 0 ∨ p = 1 ∨ p = 2 ∨ p = 3 ∨ p = 4 ∨ p = 5 ∨ p = 6 ∨ p = 7 ∨ p = 8 ∨ p = 9 ∨ p = 10 := by omega
  rcases e with rfl | rfl | rfl | rfl | rfl | rfl | rfl | rfl | rfl | rfl | rfl <;> first | rfl | skip
  · simp only [partQ, partY, votesY, toMq]
    simp [List.flatMap_map, vpY, toVp, voteY]
/-- bytes that are read as a message are its bytes -/
theorem enc_of_read (b : List Int) (hb : ∀ x ∈ b, isByte x) (m : Mg) (c : Mc) (h : pAll b = (toMq m c, ⟨[], 0⟩)) : b = encM m c := by
  have hw := all_was b hb (by rw [h])
  rw [h, List.append_nil] at hw
  rw [hw]
  unfold encM encUp
  have hk : (toMq m c).w.k = m.k := rfl
  have hf : (toMq m c).w.f = m.f := rfl
  have ht : (toMq m c).w.t = m.t := rfl
  have he : (toMq m c).w.e = m.e := rfl
  rw [hk, hf, ht, he]
  congr 1
  have : ∀ ps : List Int, (∀ p ∈ ps, 0 ≤ p ∧ p ≤ 10) → ps.flatMap (partQ (toMq m c)) = ps.flatMap (partY m c) := by
    intro ps
    induction ps with
    | nil => intro _; rfl
    | cons p r ih =>
      intro h
      rw [List.flatMap_cons, List.flatMap_cons, part_msg m c p (h p (List.mem_cons_self ..)), ih (fun q hq => h q (List.mem_cons_of_mem _ hq))]
  exact this _ (partsOf_le _)

/-- data as the document reads it: as many as are said, if they are there -/
def dDt (s : Sr) : List Int × Sr :=
  if (p16 s).2.f = 0 then (if (p16 s).1.toNat ≤ (p16 s).2.l.length then ((p16 s).2.l.take (p16 s).1.toNat, ⟨(p16 s).2.l.drop (p16 s).1.toNat, 0⟩) else ([], ⟨(p16 s).2.l, 20⟩)) else ([], (p16 s).2)
/-- a part as the document reads it -/
def dPart (p : Int) (x : Mq) (s : Sr) : Mq × Sr :=
  if p = 7 then ({ x with vt := (dVt s).1 }, (dVt s).2)
  else if p = 8 then ({ x with vs := (dL dVt (p8 s).2 (p8 s).1.toNat).1 }, (dL dVt (p8 s).2 (p8 s).1.toNat).2)
  else if p = 9 then ({ x with sm := (pN p64 s 8).1 }, (pN p64 s 8).2)
  else if p = 10 then ({ x with dt := (dDt s).1 }, (dDt s).2)
  else pPart p x s
def dFold (ps : List Int) (y : Mq × Sr) : Mq × Sr := ps.foldl (fun y p => dPart p y.1 y.2) y
theorem dDt_pDt (s : Sr) (hf : (pDt s).2.f = 0) : dDt s = pDt s := by
  have h0 := encDt.back s hf
  unfold dDt p16 gN pDt at *
  rw [if_pos h0] at hf ⊢
  by_cases h2 : 2 ≤ s.l.length
  · rw [if_pos h2] at hf ⊢
    simp only [if_true] at hf ⊢
    rw [if_pos h0]
    rw [if_pos h2]
    by_cases h64 : 64 < rd16 s.l
    · rw [if_pos h64] at hf; simp at hf
    · rw [if_neg h64] at hf ⊢
      by_cases hn : 2 + (rd16 s.l).toNat ≤ s.l.length
      · rw [if_pos hn, if_pos (by rw [List.length_drop]; omega), List.drop_drop]
      · rw [if_neg hn] at hf; simp at hf
  · rw [if_neg h2] at hf; simp at hf
/-- lists of things that are read alike where that ends well -/
theorem dL_ext {α : Type} {one two : Sr → α × Sr} {e : α → List Int} (h : Enc one e) (he : ∀ s, (one s).2.f = 0 → two s = one s) (s : Sr) : ∀ n, (pN one s n).2.f = 0 → dL two s n = pN one s n
  | 0, _ => rfl
  | n + 1, hf => by
    have h1 : (pN one s n).2.f = 0 := h.back _ hf
    have ih := dL_ext h he s n h1
    rw [dL_next (by rw [ih]; exact h1), ih, he _ hf]
    rfl
theorem dPart_pPart (p : Int) (x : Mq) (s : Sr) (hf : (pPart p x s).2.f = 0) : dPart p x s = pPart p x s := by
  unfold dPart
  by_cases h7 : p = 7
  · subst h7
    have e : pPart 7 x s = ({ x with vt := (pVt s).1 }, (pVt s).2) := rfl
    rw [e] at hf ⊢
    rw [if_pos rfl, dVt_pVt s hf]
  rw [if_neg h7]
  by_cases h8 : p = 8
  · subst h8
    have e : pPart 8 x s = ({ x with vs := (pL pVt (p8 s).1.toNat 4 (p8 s).2).1 }, (pL pVt (p8 s).1.toNat 4 (p8 s).2).2) := rfl
    rw [e] at hf ⊢
    rw [if_pos rfl]
    have hx : dL dVt (p8 s).2 (p8 s).1.toNat = pL pVt (p8 s).1.toNat 4 (p8 s).2 := by
      have hf2 : (pL pVt (p8 s).1.toNat 4 (p8 s).2).2.f = 0 := hf
      unfold pL at hf2 ⊢
      by_cases h0 : (p8 s).2.f = 0
      · rw [if_pos h0] at hf2 ⊢
        by_cases hm : (p8 s).1.toNat ≤ 4
        · rw [if_pos hm] at hf2 ⊢; exact dL_ext encVt dVt_pVt _ _ hf2
        · rw [if_neg hm] at hf2; simp at hf2
      · rw [if_neg h0] at hf2; exact absurd hf2 h0
    rw [hx]
  rw [if_neg h8]
  by_cases h9 : p = 9
  · subst h9
    have e : pPart 9 x s = ({ x with sm := (pL p64 8 8 s).1 }, (pL p64 8 8 s).2) := rfl
    rw [e] at hf ⊢
    rw [if_pos rfl]
    have h0 := enc9.back s hf
    have hx : pL p64 8 8 s = pN p64 s 8 := by unfold pL; rw [if_pos h0, if_pos (Nat.le_refl _)]
    rw [hx]
  rw [if_neg h9]
  by_cases h10 : p = 10
  · subst h10
    have e : pPart 10 x s = ({ x with dt := (pDt s).1 }, (pDt s).2) := rfl
    rw [e] at hf ⊢
    rw [if_pos rfl, dDt_pDt s hf]
  rw [if_neg h10]
theorem dFold_pFold : ∀ (ps : List Int) (y : Mq × Sr), (∀ q ∈ ps, 0 ≤ q ∧ q ≤ 10) → SrOk y.2 → (pFold ps y).2.f = 0 → dFold ps y = pFold ps y
  | [], _, _, _, _ => rfl
  | q :: ps, y, hr, hs, hf => by
    have e : pFold (q :: ps) y = pFold ps (pPart q y.1 y.2) := rfl
    have e' : dFold (q :: ps) y = dFold ps (dPart q y.1 y.2) := rfl
    rw [e] at hf ⊢
    have h1 := fold_back ps _ (pPart_sr q y.1 y.2 hs) hf
    rw [e', dPart_pPart q y.1 y.2 h1]
    exact dFold_pFold ps _ (fun r h => hr r (List.mem_cons_of_mem _ h)) (pPart_sr q y.1 y.2 hs) hf
/-- all of it as the document reads it (a kind that is none: its number alone) -/
def dAll (l : List Int) : Mq × Sr := dFold (partsOf (p8 ⟨l, 0⟩).1) (pHd ⟨l, 0⟩)
theorem dAll_pAll (b : List Int) (hb : ∀ x ∈ b, isByte x) (hf : (pAll b).2.f = 0) : dAll b = pAll b := by
  have hs : SrOk ⟨b, 0⟩ := hb
  exact dFold_pFold _ _ (partsOf_le _) (enc8.ok _ (enc8.ok _ (enc8.ok _ (enc8.ok _ hs)))) hf

theorem mx_cell {wx : World} {E : Nat} {m : Mg} (h : wx.heap[E]? = some (.cells m.cells.toArray 37 (0, 0))) (i : Nat) : wx.cell? ⟨E, i, none⟩ = m.cells[i]? := by
  rw [cell_of_row wx E i _ 37 (0, 0) h]; simp
/-- the message at M, the reader at X -/
structure MX (w wr : World) (X M : Nat) (m : Mg) (s : Sr) : Prop where
  kept : Kept (fun k => k = X ∨ k = M) w wr
  box : wr.heap[M]? = some (.cells m.cells.toArray 37 (0, 0))
  rd : Ds wr X s
  lt : X < M
theorem MX.call {w wr w' : World} {X M : Nat} {m : Mg} {s s' : Sr} (h : MX w wr X M m s) (hd : Ds w' X s') (hk : Kept (fun k => k = X) wr w') : MX w w' X M m s' := by
  have h1 := h.lt
  refine ⟨h.kept.trans hk (fun _ _ e => .inl e), ?_, hd, h1⟩
  rw [hk.block M (lt_of_block h.box) (by omega)]; exact h.box
theorem MX.set {w wr : World} {X M : Nat} {m m' : Mg} {s : Sr} (h : MX w wr X M m s) (i : Nat) (v : Value) (hv : m.cells.toArray.setIfInBounds i v = m'.cells.toArray) : MX w (wr.setCell ⟨M, i, none⟩ v) X M m' s := by
  have h1 := h.lt
  refine ⟨h.kept.setCell _ _ (fun _ => .inr rfl), ?_, h.rd.kept (S := fun k => k = M) ((Kept.refl _ _).setCell _ _ (fun _ => rfl)) (fun k hk e => by omega), h1⟩
  rw [heap_setCell_same wr M i _ 37 _ h.box, hv]

set_option maxHeartbeats 1600000 in
theorem rest5 (w : World) (X M : Nat) (m : Mg) (s : Sr) (h : MX w w X M m s) (hk : m.k = 5) :
    Calls Tryz.prog 65 #[.pointer (some ⟨X, 0, none⟩), .pointer (some ⟨M, 0, none⟩)] w fun e w' => e = .returned (.tuple #[]) ∧ MX w w' X M { m with ro := (p64 s).1 } (p64 s).2 := by
  have c0 := mx_cell h.box 0
  simp only [Mg.cells, List.getElem?_cons_zero] at c0
  rw [hk] at c0
  have H := Lib.hid h
  clear h hk
  go_enter Tryz.func65, Tryz.ntmps65
  go_wp2_with fail
  refine (rget8 w X s H.out.rd).mono ?_
  rintro e1 w1 ⟨rfl, d1, k1⟩
  have H1 := H.out.call d1 k1
  have c7 := mx_cell H1.box 11
  have f7 := frozen_of_row w1 M 11 _ 37 H1.box
  simp only [Mg.cells, List.getElem?_cons_zero, List.getElem?_cons_succ] at c7
  have H2 := Lib.hid (H1.set (m' := { m with ro := (p64 s).1 }) 11 (.int .u64 (p64 s).1) rfl)
  clear H1 d1 k1 c0
  go_wp2_with fail
  go_end0
  exact ⟨rfl, H2.out⟩
set_option maxHeartbeats 1600000 in
theorem rest11 (w : World) (X M : Nat) (m : Mg) (s : Sr) (h : MX w w X M m s) (hk : m.k = 11) :
    Calls Tryz.prog 65 #[.pointer (some ⟨X, 0, none⟩), .pointer (some ⟨M, 0, none⟩)] w fun e w' => e = .returned (.tuple #[]) ∧ MX w w' X M { m with pg := (p8 s).1 } (p8 s).2 := by
  have c0 := mx_cell h.box 0
  simp only [Mg.cells, List.getElem?_cons_zero] at c0
  rw [hk] at c0
  have H := Lib.hid h
  clear h hk
  go_enter Tryz.func65, Tryz.ntmps65
  go_wp2_with fail
  refine (rget1 w X s H.out.rd).mono ?_
  rintro e1 w1 ⟨rfl, d1, k1⟩
  have r1 := p8_in H.out.rd.ok
  have H1 := H.out.call d1 k1
  have c7 := mx_cell H1.box 13
  have f7 := frozen_of_row w1 M 13 _ 37 H1.box
  simp only [Mg.cells, List.getElem?_cons_zero, List.getElem?_cons_succ] at c7
  have H2 := Lib.hid (H1.set (m' := { m with pg := (p8 s).1 }) 13 (.int .u8 (p8 s).1) rfl)
  clear H1 d1 k1 c0
  go_wp2_with fail
  go_end0
  exact ⟨rfl, H2.out⟩
set_option maxHeartbeats 1600000 in
theorem rest0 (w : World) (X M : Nat) (m : Mg) (s : Sr) (h : MX w w X M m s) (h5 : m.k ≠ 5) (h11 : m.k ≠ 11) (h12 : m.k ≠ 12) (h13 : m.k ≠ 13) :
    Calls Tryz.prog 65 #[.pointer (some ⟨X, 0, none⟩), .pointer (some ⟨M, 0, none⟩)] w fun e w' => e = .returned (.tuple #[]) ∧ MX w w' X M m s := by
  have c0 := mx_cell h.box 0
  simp only [Mg.cells, List.getElem?_cons_zero] at c0
  have b5 : (m.k == 5) = false := by simpa using h5
  have b11 : (m.k == 11) = false := by simpa using h11
  have b12 : (m.k == 12) = false := by simpa using h12
  have b13 : (m.k == 13) = false := by simpa using h13
  have H := Lib.hid h
  clear h h5 h11 h12 h13
  go_enter Tryz.func65, Tryz.ntmps65
  go_wp2_with fail
  go_end0
  exact ⟨rfl, H.out⟩

theorem dDt_long {s : Sr} (h : ¬ (p16 s).1.toNat ≤ (p16 s).2.l.length) : dDt s = ([], ⟨(p16 s).2.l, 20⟩) := by
  unfold dDt
  by_cases h0 : (p16 s).2.f = 0
  · rw [if_pos h0, if_neg h]
  · exfalso
    apply h
    have : (p16 s).1 = 0 := by
      unfold p16 gN at h0 ⊢
      by_cases hf : s.f = 0
      · rw [if_pos hf] at h0 ⊢
        by_cases hl : 2 ≤ s.l.length
        · rw [if_pos hl] at h0; exact absurd rfl h0
        · rw [if_neg hl]
      · rw [if_neg hf]
    rw [this]; simp
set_option maxHeartbeats 1600000 in
theorem rest13_long (w : World) (X M : Nat) (m : Mg) (s : Sr) (h : MX w w X M m s) (hk : m.k = 13) (hd : m.dt = ⟨none, 0, 0⟩) (hlen : (p16 (p8 s).2).2.l.length < (p16 (p8 s).2).1.toNat) :
    Calls Tryz.prog 65 #[.pointer (some ⟨X, 0, none⟩), .pointer (some ⟨M, 0, none⟩)] w fun e w' => ∃ (v : Sl), e = .returned (.tuple #[]) ∧ MX w w' X M { m with pg := (p8 s).1, dt := v } (dDt (p8 s).2).2 ∧ w'.ownsRow 0 5 1 v.val v.n (vals (dDt (p8 s).2).1) ∧ (∀ b, v.val.ownBlock = some b → w.heap.size ≤ b) := by
  have c0 := mx_cell h.box 0
  simp only [Mg.cells, List.getElem?_cons_zero] at c0
  rw [hk] at c0
  have H := Lib.hid h
  have HD := Lib.hid hd
  clear h hk hd
  go_enter Tryz.func65, Tryz.ntmps65
  go_wp2_with fail
  refine (rget1 w X s H.out.rd).mono ?_
  rintro e1 w1 ⟨rfl, d1, k1⟩
  have r1 := p8_in H.out.rd.ok
  have H1 := H.out.call d1 k1
  have c7 := mx_cell H1.box 13
  have f7 := frozen_of_row w1 M 13 _ 37 H1.box
  simp only [Mg.cells, List.getElem?_cons_zero, List.getElem?_cons_succ] at c7
  have H2 := Lib.hid (H1.set (m' := { m with pg := (p8 s).1 }) 13 (.int .u8 (p8 s).1) rfl)
  clear H1 d1 k1 c0
  go_wp2_with fail
  generalize w1.setCell ⟨M, 13, none⟩ (.int .u8 (p8 s).1) = w2 at *
  clear c7 f7 r1
  refine (rget2 w2 X (p8 s).2 H2.out.rd).mono ?_
  rintro e3 w3 ⟨rfl, d3, k3⟩
  have r3 := p16_in H2.out.rd.ok
  have H3 := H2.out.call d3 k3
  have hlong := @dDt_long (p8 s).2
  obtain ⟨b, hb⟩ : ∃ b, b = p16 (p8 s).2 := ⟨_, rfl⟩
  have HB := Lib.hid hb
  rw [← hb] at d3 r3 H3 hlong hlen ⊢
  obtain ⟨n, hn⟩ : ∃ n : Nat, b.1 = (n : Int) := ⟨b.1.toNat, by omega⟩
  rw [hn, Int.toNat_natCast] at hlong hlen
  rw [hn] at r3 ⊢
  have hn2 : n ≤ 65535 := by omega
  obtain ⟨A, lc, hbx, hB, hl, hlt, hby, hf⟩ := H3.rd.rd
  have e1 : b.2.dr.1 = b.2.l := rfl
  rw [e1] at hbx hB hl hlt hby
  have q0 : w3.cell? ⟨X, 0, none⟩ = some (.slice A b.2.l.length lc) := by rw [cell_of_row w3 X 0 _ _ _ hbx]; rfl
  obtain ⟨L, hL⟩ : ∃ L, L = b.2.l.length := ⟨_, rfl⟩
  have hL2 : L ≤ 100000 := by have := H3.rd.len; omega
  rw [← hL] at q0
  have HH := Lib.hid (And.intro hbx (And.intro hB (And.intro hl (And.intro hlt (And.intro hby hf)))))
  have H4 := Lib.hid H3
  have HL := Lib.hid hL
  have HLG := Lib.hid hlong
  have hgt : L < n := by omega
  clear hbx hB hl hlt hby hf d3 k3 H3 hn hL hlong H2 hb e1 hlen
  · have g1 : (L : Int) < n := by omega
    have q1 := H4.out.rd.short
    have f1 : w3.frozen? ⟨X, 1, none⟩ = false := frozen_of_row w3 X 1 _ _ HH.out.1
    clear q0
    have q0 : w3.cell? ⟨X, 0, none⟩ = some (.slice A L lc) := by rw [cell_of_row w3 X 0 _ _ _ HH.out.1, HL.out]; rfl
    have hnl : ¬ n ≤ b.2.l.length := by have := HL.out; omega
    have H5 : MX w (w3.setCell ⟨X, 1, none⟩ (.bool true)) X M { m with pg := (p8 s).1, dt := ⟨none, 0, 0⟩ } ⟨b.2.l, 20⟩ := by
      have hm : ({ m with pg := (p8 s).1, dt := ⟨none, 0, 0⟩ } : Mg) = { m with pg := (p8 s).1 } := by rw [← HD.out]
      rw [hm]
      have hlt := H4.out.lt
      obtain ⟨hbx, hB, hl, hlt', hby, hf⟩ := HH.out
      have hkx : Kept (fun k => k = X) w3 (w3.setCell ⟨X, 1, none⟩ (.bool true)) := (Kept.refl _ _).setCell _ _ (fun _ => rfl)
      refine H4.out.call ⟨⟨A, lc, ?_, bytes_kept hB hkx (fun ad e hp h => by have := hlt' ad e hp; omega), hl, hlt', hby, hf⟩, .inr rfl, H4.out.rd.len⟩ hkx
      rw [heap_setCell_same w3 X 1 _ 101 _ hbx]; rfl
    have hnil : ((w3.setCell ⟨X, 1, none⟩ (.bool true))).ownsRow 0 5 1 (.slice none 0 0) 0 (vals []) := ⟨by simp [vals], .inl ⟨rfl, rfl⟩⟩
    have H6 := Lib.hid (And.intro H5 (And.intro hnil (HLG.out hnl)))
    clear H5 hnil hnl
    go_wp2_with fail
    (try simp only [Exit.inBlock, Exit.then])
    refine bodyPost_ret (results_none rfl _ _ _) rfl ?_
    rw [H6.out.2.2]
    exact ⟨⟨none, 0, 0⟩, rfl, H6.out.1, H6.out.2.1, fun b hb => by simp [Value.ownBlock] at hb⟩

def VpOk (v : Vp) : Prop := (0 ≤ v.f ∧ v.f ≤ 255) ∧ (0 ≤ v.e ∧ v.e ≤ 255) ∧ (0 ≤ v.vw ∧ v.vw ≤ 4294967295) ∧ (0 ≤ v.lo ∧ v.lo ≤ 4294967295) ∧ v.c.ok
structure QOk (x : Mq) : Prop where
  k : isByte x.w.k
  f : isByte x.w.f
  t : isByte x.w.t
  e : isByte x.w.e
  ct : isByte x.w.ct
  pg : isByte x.w.pg
  vw : 0 ≤ x.w.vw ∧ x.w.vw ≤ 4294967295
  sq : 0 ≤ x.w.sq ∧ x.w.sq ≤ 4294967295
  rq : x.w.rq.ok
  ro : 0 ≤ x.w.ro ∧ x.w.ro ≤ 18446744073709551615
  rs : 0 ≤ x.w.rs ∧ x.w.rs ≤ 4294967295
  vt : VpOk x.vt
  vs : ∀ v ∈ x.vs, VpOk v
  sm : ∀ u ∈ x.sm, 0 ≤ u ∧ u ≤ 18446744073709551615
theorem dL_ok {α : Type} {one : Sr → α × Sr} {P : α → Prop} (h1 : ∀ s, SrOk s → P (one s).1 ∧ SrOk (one s).2) (s : Sr) (h : SrOk s) : ∀ j, (∀ x ∈ (dL one s j).1, P x) ∧ SrOk (dL one s j).2
  | 0 => ⟨fun x hx => (by cases hx), h⟩
  | j + 1 => by
    obtain ⟨a, b⟩ := dL_ok h1 s h j
    by_cases h0 : (dL one s j).2.f = 0
    · rw [dL_next h0]
      obtain ⟨c, d⟩ := h1 _ b
      refine ⟨fun x hx => ?_, d⟩
      simp only [List.mem_append, List.mem_singleton] at hx
      rcases hx with hx | rfl
      · exact a x hx
      · exact c
    · rw [show dL one s (j + 1) = dL one s j from by rw [dL, if_neg h0]]
      exact ⟨a, b⟩
theorem dL_len {α : Type} {one : Sr → α × Sr} (s : Sr) : ∀ j, (dL one s j).1.length ≤ j
  | 0 => by simp [dL]
  | j + 1 => by
    have ih := dL_len (one := one) s j
    rw [dL]
    split
    · simp; omega
    · omega
theorem p64_in {s : Sr} (h : SrOk s) : 0 ≤ (p64 s).1 ∧ (p64 s).1 ≤ 18446744073709551615 := gN_in 8 _ 0 18446744073709551615 (by decide) (by
  have a := two_bytes (h.at 0) (h.at 1)
  have b := two_bytes (h.at 2) (h.at 3)
  have c := two_bytes (h.at 4) (h.at 5)
  have d := two_bytes (h.at 6) (h.at 7)
  unfold rd64 packI
  omega)
theorem pMk_rg {s : Sr} (h : SrOk s) : (pMk s).1.ok ∧ SrOk (pMk s).2 := ⟨⟨p32_in h, p64_in (gN_ok 4 _ h)⟩, pMk_ok h⟩
theorem pEn_rg {s : Sr} (h : SrOk s) : (pEn s).1.ok ∧ SrOk (pEn s).2 := ⟨⟨p32_in h, p32_in (gN_ok 4 _ h), (pEn_ok h).1⟩, (pEn_ok h).2⟩
theorem dVt_rg {s : Sr} (h : SrOk s) : VpOk (dVt s).1 ∧ SrOk (dVt s).2 := by
  obtain ⟨a, ha⟩ : ∃ a, a = p8 s := ⟨_, rfl⟩
  obtain ⟨b, hb⟩ : ∃ b, b = p8 a.2 := ⟨_, rfl⟩
  obtain ⟨c, hc⟩ : ∃ c, c = p32 b.2 := ⟨_, rfl⟩
  obtain ⟨d, hd⟩ : ∃ d, d = p32 c.2 := ⟨_, rfl⟩
  obtain ⟨nn, hnn⟩ : ∃ n, n = p8 d.2 := ⟨_, rfl⟩
  obtain ⟨x, hx⟩ : ∃ x, x = dL pMk nn.2 nn.1.toNat := ⟨_, rfl⟩
  obtain ⟨y, hy⟩ : ∃ y, y = dL pEn (p8 x.2).2 (p8 x.2).1.toNat := ⟨_, rfl⟩
  obtain ⟨z, hz⟩ : ∃ z, z = dL pEn (p8 y.2).2 (p8 y.2).1.toNat := ⟨_, rfl⟩
  have hres : dVt s = (⟨a.1, b.1, c.1, d.1, ⟨x.1, y.1, z.1⟩⟩, z.2) := by unfold dVt; rw [hz, hy, hx, hnn, hd, hc, hb, ha]
  have A : SrOk a.2 := by rw [ha]; exact gN_ok 1 _ h
  have B : SrOk b.2 := by rw [hb]; exact gN_ok 1 _ A
  have C : SrOk c.2 := by rw [hc]; exact gN_ok 4 _ B
  have D : SrOk d.2 := by rw [hd]; exact gN_ok 4 _ C
  have N : SrOk nn.2 := by rw [hnn]; exact gN_ok 1 _ D
  have X := dL_ok (one := pMk) (P := Mk.ok) (fun s hs => pMk_rg hs) nn.2 N nn.1.toNat
  rw [← hx] at X
  have Y := dL_ok (one := pEn) (P := En.ok) (fun s hs => pEn_rg hs) (p8 x.2).2 (gN_ok 1 _ X.2) (p8 x.2).1.toNat
  rw [← hy] at Y
  have Z := dL_ok (one := pEn) (P := En.ok) (fun s hs => pEn_rg hs) (p8 y.2).2 (gN_ok 1 _ Y.2) (p8 y.2).1.toNat
  rw [← hz] at Z
  rw [hres]
  exact ⟨⟨by rw [ha]; exact p8_in h, by rw [hb]; exact p8_in A, by rw [hc]; exact p32_in B, by rw [hd]; exact p32_in C, X.1, Y.1, Z.1⟩, Z.2⟩
theorem dDt_rg {s : Sr} (h : SrOk s) : (∀ x ∈ (dDt s).1, isByte x) ∧ SrOk (dDt s).2 := by
  have h2 : SrOk (p16 s).2 := gN_ok 2 _ h
  unfold dDt
  split
  · split
    · exact ⟨fun x hx => h2 x (List.mem_of_mem_take hx), fun x hx => h2 x (List.mem_of_mem_drop hx)⟩
    · exact ⟨fun x hx => (by cases hx), h2⟩
  · exact ⟨fun x hx => (by cases hx), h2⟩
theorem gN_short (k : Nat) (num : List Int → Int) (s : Sr) : (gN k num s).2.l.length ≤ s.l.length := by
  unfold gN
  split
  · split
    · simp
    · exact Nat.le_refl _
  · exact Nat.le_refl _
theorem dDt_short (s : Sr) : (dDt s).1.length ≤ s.l.length := by
  have := gN_short 2 rd16 s
  unfold dDt
  split
  · split
    · simp only [List.length_take]; unfold p16 at *; omega
    · simp
  · simp
theorem dPart_rg {x : Mq} {s : Sr} (p : Int) (hx : QOk x) (h : SrOk s) : QOk (dPart p x s).1 ∧ SrOk (dPart p x s).2 := by
  unfold dPart
  split
  · exact ⟨{ hx with vt := (dVt_rg h).1 }, (dVt_rg h).2⟩
  split
  · have := dL_ok (one := dVt) (P := VpOk) (fun s hs => dVt_rg hs) (p8 s).2 (gN_ok 1 _ h) (p8 s).1.toNat
    exact ⟨{ hx with vs := this.1 }, this.2⟩
  split
  · have := pN_ok (one := p64) (P := fun u => 0 ≤ u ∧ u ≤ 18446744073709551615) (fun s hs => ⟨p64_in hs, gN_ok 8 _ hs⟩) s h 8
    exact ⟨{ hx with sm := this.1 }, this.2⟩
  split
  · exact ⟨{ hx with }, (dDt_rg h).2⟩
  unfold pPart
  split
  · exact ⟨{ hx with vw := p32_in h }, gN_ok 4 _ h⟩
  split
  · exact ⟨{ hx with sq := p32_in h }, gN_ok 4 _ h⟩
  split
  · exact ⟨{ hx with rq := (pRq_ok h).1 }, (pRq_ok h).2⟩
  split
  · exact ⟨{ hx with ro := p64_in h }, gN_ok 8 _ h⟩
  split
  · exact ⟨{ hx with ct := p8_in h }, gN_ok 1 _ h⟩
  split
  · exact ⟨{ hx with pg := p8_in h }, gN_ok 1 _ h⟩
  split
  · exact ⟨{ hx with rs := p32_in h }, gN_ok 4 _ h⟩
  exact ⟨{ hx with }, pDt_ok h⟩
theorem zeroQ_ok {k f t e : Int} (hk : isByte k) (hf : isByte f) (ht : isByte t) (he : isByte e) : QOk (zeroQ k f t e) := by
  have z : ∀ n : Int, 0 ≤ n → (0 : Int) ≤ 0 ∧ (0 : Int) ≤ n := fun n h => ⟨Int.le_refl _, h⟩
  exact ⟨hk, hf, ht, he, z 255 (by decide), z 255 (by decide), z _ (by decide), z _ (by decide), ⟨z _ (by decide), z _ (by decide), z _ (by decide), z _ (by decide), z _ (by decide)⟩, z _ (by decide), z _ (by decide), ⟨z _ (by decide), z _ (by decide), z _ (by decide), z _ (by decide), ⟨fun x hx => (by cases hx), fun x hx => (by cases hx), fun x hx => (by cases hx)⟩⟩, fun x hx => (by cases hx), fun x hx => (by cases hx)⟩
theorem vp_mg {v : Vt} {c : Vc} {x : Vp} (h : VpOk x) (e : toVp (v, c) = x) : v.ok ∧ c.ok := by
  subst e
  exact ⟨⟨h.1, h.2.1, h.2.2.1, h.2.2.2.1⟩, h.2.2.2.2⟩
theorem QOk.mg {m : Mg} {c : Mc} {x : Mq} (h : QOk x) (r : RelQ m c x) : MgOk m c := by
  have e := r.wd
  obtain ⟨k, f, t, ee, ct, pg, vw, sq, rq, ro, rs, vt, vs, sm⟩ := h
  rw [← e] at k f t ee ct pg vw sq rq ro rs
  refine ⟨k, f, t, ee, ct, pg, vw, sq, rq, ro, rs, vp_mg vt r.vt, fun y hy => ?_, by rw [r.sm]; exact sm⟩
  exact vp_mg (vs _ (by rw [← r.vs]; exact List.mem_map_of_mem hy)) rfl

theorem dDt_fit {s : Sr} (h : (p16 s).1.toNat ≤ (p16 s).2.l.length) : dDt s = ((p16 s).2.l.take (p16 s).1.toNat, ⟨(p16 s).2.l.drop (p16 s).1.toNat, (p16 s).2.f⟩) := by
  unfold dDt
  by_cases h0 : (p16 s).2.f = 0
  · rw [if_pos h0, if_pos h, h0]
  · rw [if_neg h0]
    have : (p16 s).1 = 0 := by
      unfold p16 gN at h0 ⊢
      by_cases hf : s.f = 0
      · rw [if_pos hf] at h0 ⊢
        by_cases hl : 2 ≤ s.l.length
        · rw [if_pos hl] at h0; exact absurd rfl h0
        · rw [if_neg hl]
      · rw [if_neg hf]
    rw [this]; simp
theorem take_bytes {w : World} {ao : Option Addr} {l : List Int} (h : Bytes w ao l) (n : Nat) : Bytes w ao (l.take n) := fun i hi => by
  rw [List.length_take] at hi
  obtain ⟨ad, e, hc⟩ := h i (by omega)
  exact ⟨ad, e, by rw [hc]; simp [List.getD_eq_getElem?_getD, show i < n from by omega]⟩
set_option maxHeartbeats 3200000 in
theorem rest13_fit (w : World) (X M : Nat) (m : Mg) (s : Sr) (h : MX w w X M m s) (hk : m.k = 13) (_hd : m.dt = ⟨none, 0, 0⟩) (hlen : (p16 (p8 s).2).1.toNat ≤ (p16 (p8 s).2).2.l.length) :
    Calls Tryz.prog 65 #[.pointer (some ⟨X, 0, none⟩), .pointer (some ⟨M, 0, none⟩)] w fun e w' => ∃ (v : Sl), e = .returned (.tuple #[]) ∧ MX w w' X M { m with pg := (p8 s).1, dt := v } (dDt (p8 s).2).2 ∧ w'.ownsRow 0 5 1 v.val v.n (vals (dDt (p8 s).2).1) ∧ (∀ b, v.val.ownBlock = some b → w.heap.size ≤ b) := by
  have c0 := mx_cell h.box 0
  simp only [Mg.cells, List.getElem?_cons_zero] at c0
  rw [hk] at c0
  have H := Lib.hid h
  clear h hk
  go_enter Tryz.func65, Tryz.ntmps65
  go_wp2_with fail
  refine (rget1 w X s H.out.rd).mono ?_
  rintro e1 w1 ⟨rfl, d1, k1⟩
  have r1 := p8_in H.out.rd.ok
  have H1 := H.out.call d1 k1
  have c7 := mx_cell H1.box 13
  have f7 := frozen_of_row w1 M 13 _ 37 H1.box
  simp only [Mg.cells, List.getElem?_cons_zero, List.getElem?_cons_succ] at c7
  have H2 := Lib.hid (H1.set (m' := { m with pg := (p8 s).1 }) 13 (.int .u8 (p8 s).1) rfl)
  clear H1 d1 k1 c0
  go_wp2_with fail
  generalize w1.setCell ⟨M, 13, none⟩ (.int .u8 (p8 s).1) = w2 at *
  clear c7 f7 r1
  refine (rget2 w2 X (p8 s).2 H2.out.rd).mono ?_
  rintro e3 w3 ⟨rfl, d3, k3⟩
  have r3 := p16_in H2.out.rd.ok
  have H3 := H2.out.call d3 k3
  have hfit := @dDt_fit (p8 s).2 hlen
  obtain ⟨b, hb⟩ : ∃ b, b = p16 (p8 s).2 := ⟨_, rfl⟩
  rw [← hb] at d3 r3 H3 hfit hlen ⊢
  obtain ⟨n, hn⟩ : ∃ n : Nat, b.1 = (n : Int) := ⟨b.1.toNat, by omega⟩
  rw [hn, Int.toNat_natCast] at hfit hlen
  rw [hn] at r3 ⊢
  have hn2 : n ≤ 65535 := by omega
  obtain ⟨sl, sf, hsr⟩ : ∃ sl sf, b.2 = ⟨sl, sf⟩ := ⟨b.2.l, b.2.f, rfl⟩
  rw [hsr] at d3 H3 hfit hlen
  dsimp only at hfit hlen
  obtain ⟨A, lc, hbx, hB, hl, hlt, hby, hf, hno⟩ := H3.rd.rd
  have hsf := H3.rd.f
  have hlen4 := H3.rd.len
  dsimp only [Sr.dr] at hbx hB hl hlt hby hsf hlen4
  obtain ⟨L, hL⟩ : ∃ L, L = sl.length := ⟨_, rfl⟩
  rw [← hL] at hbx hl hlt hlen hlen4
  have q0 : w3.cell? ⟨X, 0, none⟩ = some (.slice A L lc) := by rw [cell_of_row w3 X 0 _ _ _ hbx]; rfl
  have g1 : (n : Int) ≤ L := by omega
  have g2 : ¬ (L : Int) < n := by omega
  have g3 : (n : Int) ≤ lc := by omega
  have HH := Lib.hid (And.intro hbx (And.intro hB (And.intro hl (And.intro hlt (And.intro hby (And.intro hf (And.intro hno (And.intro hsf hlen4))))))))
  have H4 := Lib.hid H3
  have HL := Lib.hid hL
  have HF := Lib.hid hfit
  clear hbx hB hl hlt hby hf hno hsf d3 k3 H3 hn hL H2 hb hsr hfit
  go_upto_region 15 with fail
  refine wp_region_lit ?_
  refine wv (.pointer (some ⟨M, 0, none⟩)) w3 (by go_simp) ?_
  refine wv (.pointer (some ⟨X, 0, none⟩)) w3 (by go_simp) ?_
  refine wv (.pointer (some ⟨X, 0, none⟩)) w3 (by go_simp) ?_
  refine wv (.pointer (some ⟨X, 0, none⟩)) w3 (by go_simp) ?_
  refine wv (.slice A L lc) w3 (by go_simp) ?_
  refine wv (.int .i64 n) w3 (by go_simp) ?_
  refine wv (.slice A n lc) w3 (by go_simp) ?_
  refine wpList_app w3 rfl (.const (.slice none 0 0)) (.tmp 69) rfl (.slice none 0 0) 0 [] rfl ⟨by simp [vals], .inl ⟨rfl, rfl⟩⟩ A n lc (sl.take n) rfl (by rw [List.length_take, ← HL.out]; omega) (take_bytes HH.out.2.1 n) (fun e => by have := HH.out.2.2.2.2.2.2.1 e; omega) (by omega) ?_
  intro ao' cap' w4 ho hk4 hg4
  simp only [Nat.zero_add, List.nil_append] at ho hg4 ⊢
  have k34 : Kept (fun _ => False) w3 w4 := hk4.mono (fun i hi e => by simp [Value.ownBlock] at e)
  have hX4 : w4.heap[X]? = some (.cells #[.slice A L lc, .bool (decide (sf ≠ 0))] 101 (0, 0)) := by rw [k34.block X (lt_of_block HH.out.1) (fun e => e)]; exact HH.out.1
  have H5 := H4.out.call (H4.out.rd.kept k34 (fun _ _ e => e)) (k34.mono (fun _ _ e => e.elim))
  have hg5 : ∀ b, (Value.slice ao' n cap').ownBlock = some b → w.heap.size ≤ b := fun b hb => by
    rcases hg4 with e | e
    · rw [e] at hb; cases hb
    · rw [e] at hb; injection hb with hb; have := H4.out.kept.size; omega
  have hend : ∀ A2 : Option Addr, Bytes w3 A2 (sl.drop n) → (∀ ad, A2 = some ad → 0 < (sl.drop n).length → ad.block < X) → (∀ ad, A2 = some ad → 0 < lc - n → ∃ b off, ad = ⟨b, off, none⟩) → (A2 = none → lc - n = 0) →
      MX w ((w4.setCell ⟨M, 24, none⟩ (.slice ao' n cap')).setCell ⟨X, 0, none⟩ (.slice A2 (L - n) (lc - n))) X M { m with pg := (p8 s).1, dt := ⟨ao', n, cap'⟩ } ⟨sl.drop n, sf⟩ ∧
      ((w4.setCell ⟨M, 24, none⟩ (.slice ao' n cap')).setCell ⟨X, 0, none⟩ (.slice A2 (L - n) (lc - n))).ownsRow 0 5 1 (.slice ao' n cap') n (vals (sl.take n)) := by
    intro A2 b2 l2 f2 n2
    have hXM := H5.lt
    have hMl := lt_of_block H4.out.box
    have hXw : X < w.heap.size := by have := H.out.rd.lt; exact this
    have hMw : M < w.heap.size := lt_of_block H.out.box
    have hk5 : Kept (fun k => k = M) w4 (w4.setCell ⟨M, 24, none⟩ (.slice ao' n cap')) := (Kept.refl _ _).setCell _ _ (fun _ => rfl)
    have H6 := H5.set (m' := { m with pg := (p8 s).1, dt := ⟨ao', n, cap'⟩ }) 24 (.slice ao' n cap') (by simp [Mg.cells])
    have hX5 : (w4.setCell ⟨M, 24, none⟩ (.slice ao' n cap')).heap[X]? = some (.cells #[.slice A L lc, .bool (decide (sf ≠ 0))] 101 (0, 0)) := by rw [hk5.block X (lt_of_block hX4) (by omega)]; exact hX4
    have hk6 : Kept (fun k => k = X) (w4.setCell ⟨M, 24, none⟩ (.slice ao' n cap')) ((w4.setCell ⟨M, 24, none⟩ (.slice ao' n cap')).setCell ⟨X, 0, none⟩ (.slice A2 (L - n) (lc - n))) := (Kept.refl _ _).setCell _ _ (fun _ => rfl)
    have hk7 : Kept (fun k => k = X ∨ k = M) w3 ((w4.setCell ⟨M, 24, none⟩ (.slice ao' n cap')).setCell ⟨X, 0, none⟩ (.slice A2 (L - n) (lc - n))) := ((k34.mono (fun _ _ e => e.elim) : Kept (fun k => k = X ∨ k = M) w3 w4).trans hk5 (fun i hi e => .inr e)).trans hk6 (fun i hi e => .inl e)
    refine ⟨H6.call ⟨⟨A2, lc - n, ?_, bytes_kept b2 hk7 (fun ad e hp h => ?_), by rw [Sr.dr]; simp only [List.length_drop]; have := HH.out.2.2.1; have := HL.out; omega, l2, fun x hx => HH.out.2.2.2.2.1 x (List.mem_of_mem_drop hx), f2, n2⟩, HH.out.2.2.2.2.2.2.2.1, ?_⟩ hk6, ?_⟩
    · rw [heap_setCell_same _ X 0 _ 101 _ hX5]
      simp only [Sr.dr, List.length_drop, ← HL.out]
      rfl
    · have := l2 ad e hp; omega
    · simp only [List.length_drop]; have := HL.out; omega
    · refine own_kept' (own_kept' ho hk5 (fun g hg e => ?_)) hk6 (fun g hg e => ?_)
      · have := hg5 g hg; omega
      · have := hg5 g hg; omega
  have p0 : w4.cell? ⟨X, 0, none⟩ = some (.slice A L lc) := by rw [cell_of_row w4 X 0 _ _ _ hX4]; rfl
  have p1 : w4.frozen? ⟨X, 0, none⟩ = false := frozen_of_row w4 X 0 _ _ hX4
  have p2 := mx_cell H5.box 24
  have p3 := frozen_of_row w4 M 24 _ 37 H5.box
  simp only [Mg.cells, List.getElem?_cons_zero, List.getElem?_cons_succ] at p2
  have HE := Lib.hid hend
  have HG := Lib.hid hg5
  clear hend hg5 hg4 ho hk4 k34 hX4 H5 q0
  refine wv (.pointer (some ⟨M, 0, none⟩)) w4 (by go_simp) ?_
  refine wv (.pointer (some ⟨M, 24, none⟩)) w4 (by go_simp) ?_
  cases A with
  | none =>
    obtain rfl : lc = 0 := HH.out.2.2.2.2.2.2.1 rfl
    obtain rfl : L = 0 := by have := HH.out.2.2.1; omega
    obtain rfl : n = 0 := by omega
    have HW := Lib.hid (HE.out none (fun i hi => by have := HL.out; simp at hi; omega) (fun ad e => by cases e) (fun ad e _ => by cases e) (fun _ => rfl))
    clear HE
    go_wp2_with fail
    go_end0
    rw [HF.out]
    exact ⟨rfl, ⟨ao', 0, cap'⟩, HW.out.1, HW.out.2, HG.out⟩
  | some ad =>
    by_cases hlc : lc = 0
    · subst hlc
      obtain rfl : L = 0 := by have := HH.out.2.2.1; omega
      obtain rfl : n = 0 := by omega
      have HW := Lib.hid (HE.out (some ad) (fun i hi => by have := HL.out; simp at hi; omega) (fun ad e hp => by have := HL.out; simp at hp; omega) (fun ad e hp => by omega) (fun e => by cases e))
      clear HE
      go_wp2_with fail
      go_end0
      rw [HF.out]
      exact ⟨rfl, ⟨ao', 0, cap'⟩, HW.out.1, HW.out.2, HG.out⟩
    · have hlc' : 0 < lc := by omega
      obtain ⟨b2, off, rfl⟩ := HH.out.2.2.2.2.2.1 ad rfl hlc'
      obtain ⟨Z, hZ, hBZ⟩ := bytes_drop (n := n) (lc := lc) HH.out.2.1 (by have := HH.out.2.2.1; have := HL.out; omega)
      have hZf : ∃ b3 off3, Z = ⟨b3, off3, none⟩ ∧ b3 = b2 := by
        by_cases e : lc = n
        · rw [if_pos e] at hZ; injection hZ with hZ; exact ⟨_, _, hZ.symm, rfl⟩
        · rw [if_neg e] at hZ; injection hZ with hZ; exact ⟨_, _, hZ.symm, rfl⟩
      obtain ⟨b3, off3, rfl, rfl⟩ := hZf
      have HW := Lib.hid (HE.out (some ⟨b3, off3, none⟩) hBZ (fun ad e hp => by injection e with e; subst e; simp only [List.length_drop] at hp; exact HH.out.2.2.2.1 ⟨b3, off, none⟩ rfl (by have := HL.out; omega)) (fun ad e _ => by injection e with e; exact ⟨_, _, e.symm⟩) (fun e => by cases e))
      clear HE hBZ
      go_wp2_with fail
      go_end0
      rw [HF.out]
      exact ⟨⟨ao', n, cap'⟩, rfl, HW.out.1, HW.out.2, HG.out⟩
end Go.Proofs.YtbpfkeeikhhlnaaGreatDoor
