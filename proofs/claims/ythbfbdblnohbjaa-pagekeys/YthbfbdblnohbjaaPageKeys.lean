/- PageKeys: for every list of keys the law's function answers true and leaves its argument as it was; no condition. -/
import Derived.Test.YthbfbdblnohbjaaRows
import Derived.Test.YthbfbdblnohbjaaKnown
import Derived.Test.YthbfbdblnohbjaaOpen
import Derived.WalkKit
import Derived.ProofKit
import Derived.OpenShut
import Derived.ShutString
import Derived.ChangeOld
import Derived.Below
import Derived.Lib.Hide
namespace Go.Proofs.Ythbfbdblnohbjaa.pageKeys
open Go.ChangeShapes Go.WideShapes Go.ChangeAt Go.RowKit
set_option maxRecDepth 100000

theorem own : ownKnob Try.prog.godebug = none := by kernel_rfl
theorem laidOut : laidOutB Try.prog = true := by kernel_rfl

/-- the cells of has -/
def hasL (V : Nat → Int) : List Value := (List.range 64).map fun k => .bool (decide (V k ≠ 0))
/-- block E tells which keys have a value -/
def Hs (w : World) (E : Nat) (V : Nat → Int) : Prop := w.heap[E]? = some (.cells (hasL V).toArray 37 (0, 0))
theorem hasL_get (V : Nat → Int) (i : Nat) : (hasL V)[i]? = if i < 64 then some (.bool (decide (V i ≠ 0))) else none := by
  unfold hasL
  by_cases h : i < 64
  · simp [h]
  · simp [h]
theorem Hs.cell {w : World} {E : Nat} {V : Nat → Int} (h : Hs w E V) (k : Nat) (hk : k < 64) : w.cell? ⟨E, k, none⟩ = some (.bool (decide (V k ≠ 0))) := by
  rw [cell_of_row w E k _ 37 (0, 0) h]
  simp [hasL_get, hk]
theorem Hs.lt {w : World} {E : Nat} {V : Nat → Int} (h : Hs w E V) : E < w.heap.size := lt_of_block h
theorem Hs.kept {S : Nat → Prop} {w w' : World} {E : Nat} {V : Nat → Int} (h : Hs w E V) (hk : Kept S w w') (hE : ¬ S E) : Hs w' E V := by
  unfold Hs
  rw [hk.block E h.lt hE]
  exact h
theorem Hs.set {w : World} {E : Nat} {V : Nat → Int} (h : Hs w E V) (k : Nat) (x : Int) (hk : k < 64) : Hs (w.setCell ⟨E, k, none⟩ (.bool (decide (x ≠ 0)))) E (upd V k x) := by
  unfold Hs
  rw [heap_setCell_same w E k _ 37 _ h]
  have e : (hasL V).set k (.bool (decide (x ≠ 0))) = hasL (upd V k x) := by
    refine List.ext_getElem? fun i => ?_
    rw [List.getElem?_set, hasL_get, hasL_get]
    have hl : (hasL V).length = 64 := by simp [hasL]
    rw [hl]
    unfold upd
    by_cases e : k = i
    · subst e
      simp [hk]
    · have e2 : ¬ i = k := fun h => e h.symm
      simp only [e, e2, if_false]
  rw [List.setIfInBounds_toArray, e]
theorem Hs.frozen {w : World} {E : Nat} {V : Nat → Int} (h : Hs w E V) (k : Nat) : w.frozen? ⟨E, k, none⟩ = false := frozen_of_row w E k _ 37 h
theorem zero37 (w : World) : (zeroValue 37).run Try.prog w = .ok (.agg (hasL nul).toArray) w := by kernel_rfl

theorem cg_nul : ∀ n k, 4 - k ≤ n → cg nul nul k = [] := by
  intro n
  induction n with
  | zero => intro k h; exact cg_end (by omega)
  | succ n ih =>
    intro k h
    by_cases hk : k < 4
    · rw [← cg_no hk rfl]; exact ih (k + 1) (by omega)
    · exact cg_end hk

/-- behind the i-th key -/
def KI (w wr : World) (B E : Nat) (V : Nat → Int) : Prop :=
  Mp wr B V nul nul ∧ Hs wr E V ∧ (∀ k, V k = 0 ∨ V k = 300) ∧ Below w.heap.size w wr ∧ w.heap.size ≤ B ∧ w.heap.size ≤ E ∧ B ≠ E
theorem mod64 (x : Int) : 0 ≤ x % 64 ∧ x % 64 < 64 := by omega

set_option maxHeartbeats 8000000 in
theorem core (ao : Option Addr) (l : List Int) (cap : Nat) (w : World) (hb : Bytes w ao l) (hby : ∀ x ∈ l, isByte x) (hl : l.length ≤ 100) :
    Calls Try.prog 4 #[.slice ao l.length cap] w fun e w' => e = .returned (.bool true) ∧ Below w.heap.size w w' := by
  have KN := Lib.hid (known_any w)
  have hz := zero37
  generalize hA : (hasL nul).toArray = A at hz
  have HA := Lib.hid hA
  clear hA
  have HBY := Lib.hid (And.intro hb hby)
  have hl' : ¬ (100 : Int) < l.length := by omega
  obtain ⟨n, hn⟩ : ∃ n, n = l.length := ⟨_, rfl⟩
  rw [← hn] at hl' ⊢
  have HN := Lib.hid hn
  clear hb hby hl hn
  go_enter Try.func4, Try.ntmps4
  go_wp2_with fail
  refine KN.out.mono ?_
  rintro e w1 ⟨rfl, b1⟩
  have NW := Lib.hid (map_new w1)
  have F0 := mp_new w1
  have hk1 : Below w1.heap.size w1 (w1.alloc (.cells (mapL nul nul nul).toArray 48)) := (Below.refl _ _).alloc (Nat.le_refl _) _
  have hs1 : (w1.alloc (.cells (mapL nul nul nul).toArray 48)).heap.size = w1.heap.size + 1 := by simp
  obtain ⟨w2, hw2⟩ : ∃ w2, w2 = w1.alloc (.cells (mapL nul nul nul).toArray 48) := ⟨_, rfl⟩
  obtain ⟨B, hB⟩ : ∃ B, B = w1.heap.size := ⟨_, rfl⟩
  rw [← hw2] at F0 hk1 NW hs1
  have K0 : KI w (w2.alloc (.cells A 37)) B w2.heap.size nul := by
    refine ⟨?_, ?_, fun k => .inl rfl, (b1.trans (hk1.mono b1.size)).alloc (by have := b1.size; omega) _, by have := b1.size; omega, by have := b1.size; omega, by omega⟩
    · rw [← hB] at F0
      exact F0.below ((Below.refl _ _).alloc (Nat.le_refl _) _) F0.lt
    · unfold Hs
      rw [HA.out]
      exact heap_alloc_new _ _
  have K0 := Lib.hid K0
  have HX := Lib.hid hB
  rw [← hB] at NW
  clear b1 hk1 hw2 hB F0 hs1
  go_wp2_with fail
  refine NW.out.mono ?_
  rintro e w3 ⟨rfl, rfl⟩
  clear NW KN
  go_wp2_with fail
  generalize w2.heap.size = E at *
  generalize w2.alloc (.cells A 37) = w3 at *
  clear hz
  go_loopw [5, 6] (fun v5 _ wr => ∃ (j : Nat) (V : Nat → Int), v5 = .int .i64 j ∧ j ≤ n ∧ Hid (KI w wr B E V)) (fun v5 _ _ => n - (intOf v5).toNat)
  case atStart => exact ⟨0, nul, rfl, by omega, K0⟩
  case round =>
    obtain ⟨j, V, rfl, hj, I⟩ := hrel
    by_cases hjn : j < n
    · have hjn' : (j : Int) < n := by omega
      obtain ⟨g, off, hao, hcell⟩ := bytes_at (bytes_below HBY.out.1 I.out.2.2.2.1 (Nat.le_refl _)) (by have := HN.out; omega)
      subst hao
      have hx := hcell j (by have := HN.out; omega)
      have hx0 : isByte (l.getD j 0) := by
        have hlt : j < l.length := by have := HN.out; omega
        rw [List.getD_eq_getElem?_getD, List.getElem?_eq_getElem hlt]
        exact HBY.out.2 _ (List.getElem_mem hlt)
      generalize l.getD j 0 = x at hx hx0
      have h0 : 0 ≤ x := hx0.1
      have h1 : x ≤ 255 := hx0.2
      clear hcell hx0
      obtain ⟨k, hkm⟩ : ∃ k : Nat, x % 64 = k := ⟨(x % 64).toNat, by omega⟩
      have hk64 : k < 64 := by omega
      have hk64' : (k : Int) < 64 := by omega
      by_cases h128 : 128 ≤ x
      · have P := Lib.hid (put_any wr B k 0 V nul nul I.out.1)
        rw [if_pos hk64] at P
        go_wp2_with fail
        refine P.out.mono ?_
        rintro e w4 ⟨rfl, k4, m4⟩
        have hE : ¬ E = B := fun e => I.out.2.2.2.2.2.2 e.symm
        have hs4 := I.out.2.1.kept k4 hE
        have hc4 := hs4.cell k hk64
        have hf4 := hs4.frozen k
        have hs5 := hs4.set k 0 hk64
        have DD : decide ((0 : Int) ≠ 0) = false := by decide
        rw [DD] at hs5
        have H4 := Lib.hid (And.intro k4 (And.intro m4 (And.intro hs4 (And.intro hs5 hE))))
        generalize (decide (V k ≠ 0)) = bb at hc4
        clear k4 m4 hs4 hs5 hE DD P
        go_wp2_with fail
        refine ⟨⟨j + 1, upd V k 0, by go_num, by omega, Lib.hid ⟨?_, H4.out.2.2.2.1, fun i => ?_, ?_, I.out.2.2.2.2⟩⟩, by simp [intOf]; omega⟩
        · exact H4.out.2.1.kept (S := fun i => i = E) ((Kept.refl _ _).setCell _ _ (fun _ => rfl)) (fun e => H4.out.2.2.2.2 e.symm)
        · have := I.out.2.2.1 i
          unfold upd
          split
          · exact .inl rfl
          · exact this
        · have hs := I.out.2.2.2.1.size
          have hB := I.out.2.2.2.2.1
          have hE := I.out.2.2.2.2.2.1
          exact (I.out.2.2.2.1.trans (H4.out.1.below hs (fun k e => by omega))).setCell hE _
      · have P := Lib.hid (put_any wr B k 300 V nul nul I.out.1)
        rw [if_pos hk64] at P
        go_wp2_with fail
        refine P.out.mono ?_
        rintro e w4 ⟨rfl, k4, m4⟩
        have hE : ¬ E = B := fun e => I.out.2.2.2.2.2.2 e.symm
        have hs4 := I.out.2.1.kept k4 hE
        have hc4 := hs4.cell k hk64
        have hf4 := hs4.frozen k
        have hs5 := hs4.set k 300 hk64
        have DD : decide ((300 : Int) ≠ 0) = true := by decide
        rw [DD] at hs5
        have H4 := Lib.hid (And.intro k4 (And.intro m4 (And.intro hs4 (And.intro hs5 hE))))
        generalize (decide (V k ≠ 0)) = bb at hc4
        clear k4 m4 hs4 hs5 hE DD P
        go_wp2_with fail
        refine ⟨⟨j + 1, upd V k 300, by go_num, by omega, Lib.hid ⟨?_, H4.out.2.2.2.1, fun i => ?_, ?_, I.out.2.2.2.2⟩⟩, by simp [intOf]; omega⟩
        · exact H4.out.2.1.kept (S := fun i => i = E) ((Kept.refl _ _).setCell _ _ (fun _ => rfl)) (fun e => H4.out.2.2.2.2 e.symm)
        · have := I.out.2.2.1 i
          unfold upd
          split
          · exact .inr rfl
          · exact this
        · have hs := I.out.2.2.2.1.size
          have hB := I.out.2.2.2.2.1
          have hE := I.out.2.2.2.2.2.1
          exact (I.out.2.2.2.1.trans (H4.out.1.below hs (fun k e => by omega))).setCell hE _
    · have hjn' : ¬ (j : Int) < n := by omega
      go_wp2_with fail
      go_loopw [7, 8, 9, 10] (fun v7 _ _ _ wx => ∃ (p : Nat), v7 = .int .i64 p ∧ p ≤ 7 ∧ Hid (KI w wx B E V)) (fun v7 _ _ _ _ => 7 - (intOf v7).toNat)
      case atStart => exact ⟨0, rfl, by omega, I⟩
      case round =>
        clear I
        obtain ⟨p, rfl, hp, I⟩ := hrel
        by_cases hp7 : p < 7
        · have hp7' : (p : Int) < 7 := by omega
          have PG := page_any wr B p V nul nul I.out.1 (by omega)
          rw [show pageB V nul nul p = pg V p from if_neg (by omega)] at PG
          have PG := Lib.hid PG
          go_wp2_with fail
          refine PG.out.mono ?_
          rintro e w5 ⟨ap, cp, rfl, n5, b5⟩
          have I5 : KI w w5 B E V := by
            have hs := I.out.2.2.2.1.size
            exact ⟨I.out.1.below b5 I.out.1.lt, I.out.2.1.kept (Kept.ofBelow (S := fun _ => False) b5) (fun h => h), I.out.2.2.1, I.out.2.2.2.1.trans (b5.mono hs), I.out.2.2.2.2⟩
          have I5 := Lib.hid I5
          have BY := Lib.hid (own_bytes n5.1)
          have hsz := pg_short V p
          obtain ⟨m, hm⟩ : ∃ m, m = (pg V p).length := ⟨_, rfl⟩
          rw [← hm] at hsz ⊢
          have HM := Lib.hid hm
          clear n5 b5 PG hm
          go_wp2_with fail
          go_loopw [9, 10] (fun v9 v10 wy => ∃ (k : Nat) (xs : List Int), v9 = .int .i64 (xs.length : Nat) ∧ v10 = .int .i64 k ∧ wy = w5 ∧ Hid (xs ++ pg V k = pg V p ∧ k ≤ 70)) (fun _ v10 _ => 70 - (intOf v10).toNat)
          case atStart => exact ⟨p, [], rfl, rfl, rfl, Lib.hid ⟨rfl, by omega⟩⟩
          case round =>
            obtain ⟨k, xs, rfl, rfl, rfl, J⟩ := hrel
            by_cases hk64 : k < 64
            · have hk64' : (k : Int) < 64 := by omega
              have hc := I5.out.2.1.cell k hk64
              rcases I5.out.2.2.1 k with hv | hv
              · rw [hv, show decide ((0 : Int) ≠ 0) = false from rfl] at hc
                have HV := Lib.hid hv
                clear hv
                go_wp2_with fail
                exact ⟨⟨k + 7, xs, rfl, by go_num, trivial, Lib.hid ⟨by rw [pg_no hk64 HV.out]; exact J.out.1, by omega⟩⟩, by simp [intOf]; omega⟩
              · rw [hv, show decide ((300 : Int) ≠ 0) = true from rfl] at hc
                have HV := Lib.hid hv
                have FX := pg_yes hk64 hv (by omega)
                clear hv
                have hfit : xs.length + 3 ≤ m := by
                  have e := J.out.1
                  have hm := HM.out
                  rw [← FX] at e
                  rw [hm, ← e]
                  simp
                have hat : ∀ i (hi : i < 3), (pg V p).getD (xs.length + i) 0 = [(k : Int), 1, 44].getD i 0 := by
                  intro i hi
                  rw [← J.out.1, ← FX, List.getD_eq_getElem?_getD, List.getElem?_append_right (by omega), Nat.add_sub_cancel_left]
                  rcases (by omega : i = 0 ∨ i = 1 ∨ i = 2) with rfl | rfl | rfl <;> rfl
                obtain ⟨g, off, hap, hcell⟩ := bytes_at BY.out (by have := HM.out; omega)
                subst hap
                have a0 := hcell (xs.length + 0) (by have := HM.out; omega)
                have a1 := hcell (xs.length + 1) (by have := HM.out; omega)
                have a2 := hcell (xs.length + 2) (by have := HM.out; omega)
                rw [hat 0 (by omega)] at a0
                rw [hat 1 (by omega)] at a1
                rw [hat 2 (by omega)] at a2
                simp only [List.getD_cons_zero, List.getD_cons_succ, Nat.add_zero] at a0 a1 a2
                have FX := Lib.hid FX
                obtain ⟨q, hq⟩ : ∃ q, q = xs.length := ⟨_, rfl⟩
                rw [← hq] at a0 a1 a2 hfit
                rw [← hq]
                have HQ := Lib.hid hq
                have hfit' : ¬ (m : Int) < q + 3 := by omega
                clear hat hcell hq
                go_wp2_with fail
                refine ⟨⟨k + 7, xs ++ ([(k : Int)] ++ [300 / 256 % 256, 300 % 256]), by rw [List.length_append, ← HQ.out]; rfl, by go_num, trivial, Lib.hid ⟨?_, by omega⟩⟩, by simp [intOf]; omega⟩
                rw [List.append_assoc, FX.out]
                exact J.out.1
            · have hk64' : ¬ (k : Int) < 64 := by omega
              have e1 : xs.length = m := by
                have e := J.out.1
                rw [pg_end hk64, List.append_nil] at e
                rw [HM.out, e]
              rw [e1]
              have hm64 : ¬ (64 : Int) < m := by omega
              clear e1
              go_wp2_with fail
              exact ⟨⟨p + 1, by go_num, by omega, I5⟩, by simp [intOf]; omega⟩
        · have hp7' : ¬ (p : Int) < 7 := by omega
          have PG := page_any wr B 7 V nul nul I.out.1 (by omega)
          rw [show pageB V nul nul 7 = [] from cg_nul 4 0 (by omega)] at PG
          have PG := Lib.hid PG
          go_wp2_with fail
          refine PG.out.mono ?_
          rintro e w5 ⟨ap, cp, rfl, n5, b5⟩
          have b6 : Below w.heap.size w w5 := I.out.2.2.2.1.trans (b5.mono I.out.2.2.2.1.size)
          have B6 := Lib.hid b6
          clear n5 b5 PG b6
          go_wp2_with fail
          go_ret
          exact ⟨rfl, B6.out⟩

theorem long0 (ao : Option Addr) (n cap : Nat) (w : World) (hn : 100 < n) : Calls Try.prog 4 #[.slice ao n cap] w fun e w' => e = .returned (.bool true) ∧ Below w.heap.size w w' := by
  have KN := Lib.hid (known_any w)
  have hn' : (100 : Int) < n := by omega
  go_enter Try.func4, Try.ntmps4
  go_wp2_with fail
  refine KN.out.mono ?_
  rintro e w1 ⟨rfl, b1⟩
  have B1 := Lib.hid b1
  clear b1
  go_wp2_with fail
  go_ret
  exact ⟨rfl, B1.out⟩

theorem walk (ao : Option Addr) (l : List Int) (cap : Nat) (w : World) (hb : Bytes w ao l) (hby : ∀ x ∈ l, isByte x) (_ : l.length ≤ cap) (_ : ao = none → cap = 0) :
    Calls Try.prog 4 #[.slice ao l.length cap] w fun e w' => e = .returned (.bool true) ∧ Below w.heap.size w w' := by
  by_cases hl : l.length ≤ 100
  · exact core ao l cap w hb hby hl
  · exact long0 ao l.length cap w (by omega)


theorem lifted (os : Os) (started : os.Started) (H : Type) (enc : TypeId × Value → H) :
    ReturnsInHanded {} Try.checked os 4 .any (Rows.pageKeysSpec.pre6 enc Try.prog Try.f4 Rows.pageKeysRow.domain false) (Rows.pageKeysSpec.post enc Try.prog Try.f4 false true false false) := by
  refine returnsInHanded_of_change (C := Try.checked) own started (by kernel_rfl) Try.func4
    (ChangeSpec.witness6 (enc := enc) (C := Try.checked) false ⟨#[], #[.slice none 0 0], []⟩ 8 (by kernel_rfl) (by kernel_rfl) (by kernel_rfl) (by kernel_rfl)) ?_
  intro W base args ds gs before hval0 hW hcnd _
  have hval : ∀ (j : Nat) t v, Try.f4.params[j]? = some t → args[j]? = some v → Value.okWide Try.prog W .any base t v := hval0
  have hW' := hW
  obtain ⟨p, q, hA0, hV, rfl, hfz, hnd⟩ := hW
  have hA : DataW.TrodAll enc Try.prog W 0 (fun _ => true) true Try.f4.params.toList args.toList ds p := hA0
  rw [Try.params4] at hA hval
  obtain ⟨v0, vs0, d0, ds0, p0, q0, hargs, rfl, rfl, h0, r0⟩ := trodAll_cons hA
  obtain ⟨rfl, rfl, rfl⟩ := trodAll_nil r0
  obtain rfl : args = #[v0] := by cases args; simp_all
  obtain ⟨rfl, rfl⟩ := trodVars_none hV
  have k0 := h0
  have lt0 : ∀ x ∈ p0, x.block < W.heap.size := by obtain ⟨m, hm⟩ := k0; exact DataW.trod_lt m _ _ _ hm
  obtain ⟨ax0, ln0, cx0, rfl⟩ := okWide_slice Try.underlying22 (hval 0 22 v0 rfl rfl)
  obtain ⟨a0, l0, c0, hv0, hb0, hby0, hcap0, hno0⟩ : ∃ (ao : Option Addr) (l : List Int) (cap : Nat), Value.slice ax0 ln0 cx0 = .slice ao l.length cap ∧ Bytes W ao l ∧ (∀ y ∈ l, isByte y) ∧ l.length ≤ cap ∧ (ao = none → cap = 0) := by
    obtain ⟨fuel, hf⟩ := h0
    exact open_bytes (by simpa [Value.cells] using hf)
  injection hv0 with hv0a hv0b hv0c
  subst hv0a hv0b hv0c
  clear hA0 hval0
  refine (walk ax0 l0 cx0 W hb0 hby0 hcap0 hno0).mono fun e W' ⟨he, bel⟩ => ?_
  subst he
  exact ⟨_, rfl, _, _, _, [], _, [], hW', trodAll_mk1 (shut_bool Try.underlying4 _), (trodAll_cons_mk (Below.trod laidOut (by kernel_rfl) (of_decide_eq_true (by kernel_rfl)) k0 bel lt0) trodAll_mk0), rfl, bel.frame _, fun h => by cases h⟩

theorem over : Rows.pageKeysRow.holds Try.pinned (OpenSpec.ofChange Rows.pageKeysSpec) :=
  OpenClaim.holds_of_wide 4 Try.f4 rfl rfl rfl rfl rfl rfl rfl ⟨rfl, rfl, rfl, rfl, rfl⟩ rfl rfl rfl rfl rfl (by kernel_rfl) Try.func4 (by kernel_rfl)
    (of_decide_eq_true (by kernel_rfl)) (by unfold Func.isWrapper; first | (rw [if_pos (by decide +kernel)]; kernel_rfl) | (rw [if_neg (by decide +kernel)]; exact ⟨rfl, rfl⟩))
    (fun os started H enc _ => lifted os started H enc)

theorem proved : Rows.PageKeysSaid := over
#print axioms proved
end Go.Proofs.Ythbfbdblnohbjaa.pageKeys
