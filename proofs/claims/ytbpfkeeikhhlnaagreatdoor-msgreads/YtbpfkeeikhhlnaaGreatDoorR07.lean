/- The document's getRest of sums; append in a region that draws its order. The document's Decode: what stands while the parts are read. The document's Decode of a new view: its votes, one behind the other. Whether it is a message hangs on what it holds alone. Its bytes are bytes, and fewer than may be. -/
import Derived.Test.YtbpfkeeikhhlnaaGreatDoorR06
import Derived.Test.YtbpfkeeikhhlnaaGreatDoorR03
import Derived.Test.YtbpfkeeikhhlnaaGreatDoorC07
import Derived.Test.YtbpfkeeikhhlnaaGreatDoorR01
import Derived.Test.YtbpfkeeikhhlnaaGreatDoorC08
import Derived.Deep.CutRange
import Derived.Deep.RegionHeld3
import Derived.Test.YtbpfkeeikhhlnaaGreatDoorC09
import Derived.Test.YtbpfkeeikhhlnaaGreatDoorC10
import Derived.Test.YtbpfkeeikhhlnaaGreatDoorC11
import Derived.Test.YtbpfkeeikhhlnaaGreatDoorC12
import Derived.Test.YtbpfkeeikhhlnaaGreatDoorC13
import Derived.Test.YtbpfkeeikhhlnaaGreatDoorC14
import Derived.Lib.Bytes
import Derived.Test.YtbpfkeeikhhlnaaGreatDoorC15
import Derived.Test.YtbpfkeeikhhlnaaGreatDoorC16
import Derived.Test.YtbpfkeeikhhlnaaGreatDoorC17
import Derived.Test.YtbpfkeeikhhlnaaGreatDoorC18
import Derived.Test.YtbpfkeeikhhlnaaGreatDoorC19
import Derived.Test.YtbpfkeeikhhlnaaGreatDoorC20
import Derived.Test.YtbpfkeeikhhlnaaGreatDoorC21
import Derived.ProofKit
import Derived.OpenShut
import Derived.ChangeOld
import Derived.Deep.Slices
import Derived.WalkKit
import Derived.Test.YtbpfkeeikhhlnaaGreatDoorR05
import Derived.LaidMore
import Derived.Lay
import Derived.Test.YtbpfkeeikhhlnaaGreatDoorC22
namespace Go.Proofs.YtbpfkeeikhhlnaaGreatDoor
open Go.RowKit
set_option maxRecDepth 100000

/-- append of a row of structs, in a region that draws its order -/
theorem wp_appR {α : Type} (enc : α → List Value) (k t e bytes : Nat) (i : TypeInfo) (z : Value) {o : Oper} {a : Act} {K : Act → World → Prop} {Q : Exit → Act → World → Prop} (w : World) (s x : Operand)
    (ho : o.op = .call { callee := .builtin .append, args := #[s, x], argTypes := #[t, t] })
    (ht : Tryz.prog.underlying t = some (.slice e)) (hi : Tryz.prog.info? e = some i) (hz : i.zero = some z) (hsize : i.size = k) (hby : i.bytes = bytes) (hzs : z.cells.size = k) (hk0 : 0 < k) (hb8 : bytes ≤ 1000)
    (v : Value) (n : Nat) (xs : List Value) (hs : a.eval s = v) (hown : w.ownsRow 0 e k v n xs)
    (ao : Option Addr) (m c : Nat) (l : List α) (hx : a.eval x = .slice ao m c) (hr : Row w k enc (.slice ao m c) l) (henc : ∀ x ∈ l, (enc x).length = k) (hone : ∀ x ∈ l, ∀ u ∈ enc x, u.oneCell' = true)
    (hbig : n ≤ 1000000)
    (hK : ∀ ao' cap' w', w'.ownsRow 0 e k (.slice ao' (n + m) cap') (n + m) (xs ++ l.flatMap enc) → Kept (fun k => some k = v.ownBlock) w w' →
      ((Value.slice ao' (n + m) cap').ownBlock = v.ownBlock ∨ (Value.slice ao' (n + m) cap').ownBlock = some w.heap.size) → K (a.put o.dst (.slice ao' (n + m) cap')) w') :
    o.wp Tryz.prog a w K Q := by
  obtain ⟨ao2, cap2, e2, hn0, hcap, hlm, hcell⟩ := hr
  injection e2 with e3 e4 e5
  subst e3 e5
  have hl : l.length = m := by omega
  cases ao with
  | none =>
    obtain rfl : l = [] := by
      cases l with
      | nil => rfl
      | cons y l => obtain ⟨b, off, e, _⟩ := hcell 0 y rfl; cases e
    obtain rfl : m = 0 := by simpa using hl.symm
    obtain rfl := hn0 rfl
    have hrun := run_append_owned_none (P := Tryz.prog) (w := w) 0 t o.type e i k ht hi v n xs hown
    obtain ⟨ao', cap', rfl, _⟩ := own_form' hown
    unfold Oper.wp
    simp [execOp, ho, resolve, invoke, builtin, hs, hx, hrun, Result.andThen]
    exact (hK ao' cap' w (by simpa using hown) (Kept.refl _ _) (.inl rfl))
  | some ad =>
    have hby2 : (n + m) * bytes ≤ 140737488355328 := by
      have : (n + m) * bytes ≤ 2000000 * 1000 := Nat.mul_le_mul (by omega) hb8
      omega
    obtain ⟨v', w', hrun, h2, h3, _, h5⟩ := run_append_own_at (P := Tryz.prog) w 0 t o.type e i z k bytes ht hi hz hsize hby hzs hk0 v n xs hown ad m c (l.flatMap enc) (by rw [flatE_len l henc, hl]) (by
      intro j u hu
      obtain ⟨q, r, x, rfl, h1, h2⟩ := flatE_at henc hu
      obtain ⟨b, off, e, hc⟩ := hcell q x h1
      injection e with e; subst e
      rw [Addr.add_lit, ← Nat.add_assoc]
      exact hc r u h2) (by
      intro u hu
      obtain ⟨x, hx, hu⟩ := List.mem_flatMap.1 hu
      exact hone x hx u hu) (by simp only [maxLen]; omega) hby2 (Nat.zero_le _)
    obtain ⟨ao', cap', rfl, _⟩ := own_form' h2
    unfold Oper.wp
    simp [execOp, ho, resolve, invoke, builtin, hs, hx, hrun, Result.andThen]
    exact (hK ao' cap' w' h2 (Kept.ofGrown h3) h5)

theorem info28s : (Tryz.prog.info? 28).map (fun i => (i.zero, i.size, i.bytes)) = some (some (.int .u64 0), 1, 8) := by kernel_rfl
theorem cell_alloc {w : World} {o : Obj} {p : Addr} {v : Value} (h : w.cell? p = some v) : (w.alloc o).cell? p = some v := by
  rw [← h]
  exact World.cell?_of_block (((Below.refl w.heap.size w).alloc (Nat.le_refl _) o).block _ (cell_block h))
theorem MX.row {w wr w' : World} {X M : Nat} {m : Mg} {s : Sr} {S : Nat → Prop} (h : MX w wr X M m s) (hk : Kept S wr w') (hM : M < w.heap.size) (hn : ∀ g, S g → w.heap.size ≤ g) : MX w w' X M m s := by
  have h1 := h.lt
  refine ⟨h.kept.trans hk (fun i hi e => by have := hn i e; omega), ?_, h.rd.kept hk (fun k hk' e => by have := hn k e; omega), h1⟩
  rw [hk.block M (lt_of_block h.box) (fun e => by have := hn M e; omega)]; exact h.box
/-- the sums so far -/
structure SI (w wr : World) (X M : Nat) (m : Mg) (s : Sr) (ao : Option Addr) (k c : Nat) : Prop where
  mx : MX w wr X M { m with sm := ⟨ao, k, c⟩ } (pN p64 s k).2
  own : wr.ownsRow 0 28 1 (.slice ao k c) k ((pN p64 s k).1.flatMap ucell)
  new : ∀ b, (Value.slice ao k c).ownBlock = some b → w.heap.size ≤ b

set_option maxHeartbeats 4000000 in
theorem rest12 (w : World) (X M : Nat) (m : Mg) (s : Sr) (h : MX w w X M m s) (hk : m.k = 12) (hd : m.sm = ⟨none, 0, 0⟩) :
    Calls Tryz.prog 65 #[.pointer (some ⟨X, 0, none⟩), .pointer (some ⟨M, 0, none⟩)] w fun e w' => e = .returned (.tuple #[]) ∧ ∃ ao c, SI w w' X M m s ao 8 c := by
  have c0 := mx_cell h.box 0
  simp only [Mg.cells, List.getElem?_cons_zero] at c0
  rw [hk] at c0
  have K0 : SI w w X M m s none 0 0 := ⟨by rw [← hd]; exact h, ⟨by simp [pN], .inl ⟨rfl, rfl⟩⟩, fun b hb => by cases hb⟩
  replace K0 := Lib.hid K0
  have HX := Lib.hid h.lt
  have HB := Lib.hid (lt_of_block h.box)
  clear h hk hd
  go_enter Tryz.func65, Tryz.ntmps65
  go_wp2_with fail
  go_loopw [4] (fun v4 wr => ∃ (k : Nat) (ao : Option Addr) (c : Nat), v4 = .int .i64 k ∧ k ≤ 8 ∧ Hid (SI w wr X M m s ao k c)) (fun v4 _ => 8 - (intOf v4).toNat)
  case atStart => exact ⟨0, none, 0, rfl, by omega, K0⟩
  case round =>
    obtain ⟨k, ao, c, rfl, hk, I⟩ := hrel
    by_cases hlt : k < 8
    · have hlt' : (k : Int) < 8 := by omega
      have c1 := mx_cell I.out.mx.box 23
      have f1 := frozen_of_row wr M 23 _ 37 I.out.mx.box
      simp only [Mg.cells, List.getElem?_cons_zero, List.getElem?_cons_succ] at c1
      go_wp2_with fail
      have C8 := Lib.hid (rget8 wr.drew X (pN p64 s k).2 (I.out.mx.rd.kept (S := fun _ => False) ((Kept.refl _ _).drew) (fun _ _ h => h)))
      obtain ⟨p, hp⟩ : ∃ p, p = p64 (pN p64 s k).2 := ⟨_, rfl⟩
      rw [← hp] at C8
      have HP := Lib.hid hp
      clear hp
      refine wp_region_held_drew (S := (fun _ : World => True)) (by kernel_rfl) (trivial) (fun hS => ?_)
      refine tm 0 (.pointer (some ⟨M, 0, none⟩)) rfl hS ?_
      refine tm 1 (.pointer (some ⟨M, 0, none⟩)) rfl hS ?_
      refine tg 2 (.pointer (some ⟨M, 0, none⟩)) rfl hS ?_
      refine tg 3 (.pointer (some ⟨M, 23, none⟩)) rfl hS ?_
      refine tm 5 (.pointer (some ⟨X, 0, none⟩)) rfl hS ?_
      refine wpAnyH_ready (rs := [4, 6]) (by kernel_rfl) (by simp) ?_
      refine AllReadyH.cons rfl (fun K hK => ?_) (AllReadyH.cons rfl (fun K hK => ?_) AllReadyH.nil)
      · rw [if_pos (by rfl)]
        go_simp
        refine hK.out _ _ (trivial) (fun hS => ?_)
        clear hK K
        refine rdy1 6 rfl (fun K hK => ?_)
        rw [if_pos (by rfl)]
        go_simp
        refine Calls.mono (C8.out) ?_
        rintro e w2 ⟨rfl, d2, k2⟩
        have m2 := I.out.mx.call (d2.kept (S := fun _ => False) (Kept.refl _ _) (fun _ _ h => h)) ((Kept.refl _ wr).drew.trans k2 (fun _ _ h => h))
        have o2 := own_kept' I.out.own ((Kept.refl (fun k => k = X) wr).drew.trans k2 (fun _ _ h => h)) (fun g hg e => by have := I.out.new g hg; have := HX.out; have := HB.out; omega)
        have cc2 := mx_cell m2.box 23
        simp only [Mg.cells, List.getElem?_cons_zero, List.getElem?_cons_succ] at cc2
        have M2 := Lib.hid (And.intro m2 o2)
        have CC2 := cell_alloc (o := .cells #[.int .u64 p.1] 28) cc2
        clear m2 o2 d2 k2
        refine hK.out _ _ (trivial) (fun hS => ?_)
        clear hK K
        refine rdy1 7 rfl (fun K hK => ?_)
        rw [if_pos (by rfl)]
        go_simp
        refine hK.out _ _ (trivial) (fun hS => ?_)
        clear hK K
        refine rdy1 8 rfl (fun K hK => ?_)
        rw [if_pos (by rfl)]
        obtain ⟨i0, hinfo⟩ := info_parts info28s
        obtain ⟨hi, hz0, hz1, hz2⟩ := hinfo
        have b3 : Below w2.heap.size w2 (w2.alloc (.cells #[.int .u64 p.1] 28)) := (Below.refl _ _).alloc (Nat.le_refl _) _
        have m3 := M2.out.1.call (M2.out.1.rd.kept (S := fun _ => False) (Kept.ofBelow b3) (fun _ _ h => h)) (Kept.ofBelow (S := fun k => k = X) b3)
        have o3 := own_kept' M2.out.2 (Kept.ofBelow (S := fun _ => False) b3) (fun _ _ h => h)
        have RA := row_new1 w2 1 ucell p.1 28 #[.int .u64 p.1] rfl
        refine wp_appR ucell 1 34 28 8 i0 _ _ (.tmp 35) (.tmp 38) rfl Tryz.underlying34 hi hz0 hz1 hz2 rfl (by decide) (by decide) (.slice ao k c) k ((pN p64 s k).1.flatMap ucell) rfl o3 (some ⟨w2.heap.size, 0, none⟩) 1 1 [p.1] rfl RA (fun _ _ => rfl) (fun z _ u hu => by simp only [ucell, List.mem_singleton] at hu; subst hu; rfl) (by omega) ?_
        intro ao3 c3 w3 ho hk3 hg3
        have m4 := m3.row hk3 HB.out (fun g e => I.out.new g e.symm)
        have cc4 := mx_cell m4.box 23
        simp only [Mg.cells, List.getElem?_cons_zero, List.getElem?_cons_succ] at cc4
        have n4 : ∀ b, (Value.slice ao3 (k + 1) c3).ownBlock = some b → w.heap.size ≤ b := fun b hb => by
          rcases hg3 with e | e
          · exact I.out.new b (by rw [← e]; exact hb)
          · rw [hb] at e; injection e with e; simp at e; have := M2.out.1.kept.size; omega
        have H4 := Lib.hid (And.intro m4 (And.intro ho n4))
        have CC4 := Lib.hid cc4
        clear m3 o3 b3 RA hi hz0 hz1 hz2 ho hk3 hg3 m4 cc4 n4
        refine hK.out _ _ (trivial) (fun hS => ?_)
        clear hK K
        refine tg 9 (.pointer (some ⟨M, 0, none⟩)) rfl hS ?_
        refine tg 10 (.pointer (some ⟨M, 23, none⟩)) rfl hS ?_
        refine rdy1 11 rfl (fun K hK => ?_)
        rw [if_pos (by rfl)]
        have hrun : (Instr.storeAt 34 (.pointer (some ⟨M, 23, none⟩)) (.slice ao3 (k + 1) c3)).run Tryz.prog w3 = .ok () (w3.setCell ⟨M, 23, none⟩ (.slice ao3 (k + 1) c3)) := by
          have hc2 := CC4.out
          have hz2 := frozen_of_row w3 M 23 _ 37 H4.out.1.box
          go_simp
        refine wp_st hrun rfl rfl rfl rfl ?_
        have H5 := Lib.hid (H4.out.1.set (m' := { m with sm := ⟨ao3, k + 1, c3⟩ }) 23 (.slice ao3 (k + 1) c3) (by simp [Mg.cells]))
        refine hK.out _ _ (trivial) (fun hS => ?_)
        clear hK K
        refine wpAnyH_done (by kernel_rfl) ?_ _
        have hpn : pN p64 s (k + 1) = ((pN p64 s k).1 ++ [p.1], p.2) := by rw [HP.out]; rfl
        have o5 := own_kept' H4.out.2.1 (w' := w3.setCell ⟨M, 23, none⟩ (.slice ao3 (k + 1) c3)) ((Kept.refl (fun i => i = M) w3).setCell _ _ (fun _ => rfl)) (fun g hg e => by have := H4.out.2.2 g hg; have := HB.out; omega)
        have N : SI w (w3.setCell ⟨M, 23, none⟩ (.slice ao3 (k + 1) c3)) X M m s ao3 (k + 1) c3 := ⟨by rw [hpn]; exact H5.out, by rw [hpn]; simpa [List.flatMap_append] using o5, H4.out.2.2⟩
        replace N := Lib.hid N
        clear hS hpn o5 H5 H4 CC4 hrun
        go_wp2_with fail
        exact ⟨⟨k + 1, ao3, c3, by go_num, by omega, N⟩, by simp [intOf]; omega⟩
      · rw [if_pos (by rfl)]
        go_simp
        refine Calls.mono (C8.out) ?_
        rintro e w2 ⟨rfl, d2, k2⟩
        have m2 := I.out.mx.call (d2.kept (S := fun _ => False) (Kept.refl _ _) (fun _ _ h => h)) ((Kept.refl _ wr).drew.trans k2 (fun _ _ h => h))
        have o2 := own_kept' I.out.own ((Kept.refl (fun k => k = X) wr).drew.trans k2 (fun _ _ h => h)) (fun g hg e => by have := I.out.new g hg; have := HX.out; have := HB.out; omega)
        have cc2 := mx_cell m2.box 23
        simp only [Mg.cells, List.getElem?_cons_zero, List.getElem?_cons_succ] at cc2
        have M2 := Lib.hid (And.intro m2 o2)
        have CC2 := cell_alloc (o := .cells #[.int .u64 p.1] 28) cc2
        clear m2 o2 d2 k2
        refine hK.out _ _ (trivial) (fun hS => ?_)
        clear hK K
        refine wpAnyH_ready (rs := [4, 7]) (by kernel_rfl) (by simp) ?_
        refine AllReadyH.cons rfl (fun K hK => ?_) (AllReadyH.cons rfl (fun K hK => ?_) AllReadyH.nil)
        · rw [if_pos (by rfl)]
          go_simp
          refine hK.out _ _ (trivial) (fun hS => ?_)
          clear hK K
          refine rdy1 7 rfl (fun K hK => ?_)
          rw [if_pos (by rfl)]
          go_simp
          refine hK.out _ _ (trivial) (fun hS => ?_)
          clear hK K
          refine rdy1 8 rfl (fun K hK => ?_)
          rw [if_pos (by rfl)]
          obtain ⟨i0, hinfo⟩ := info_parts info28s
          obtain ⟨hi, hz0, hz1, hz2⟩ := hinfo
          have b3 : Below w2.heap.size w2 (w2.alloc (.cells #[.int .u64 p.1] 28)) := (Below.refl _ _).alloc (Nat.le_refl _) _
          have m3 := M2.out.1.call (M2.out.1.rd.kept (S := fun _ => False) (Kept.ofBelow b3) (fun _ _ h => h)) (Kept.ofBelow (S := fun k => k = X) b3)
          have o3 := own_kept' M2.out.2 (Kept.ofBelow (S := fun _ => False) b3) (fun _ _ h => h)
          have RA := row_new1 w2 1 ucell p.1 28 #[.int .u64 p.1] rfl
          refine wp_appR ucell 1 34 28 8 i0 _ _ (.tmp 35) (.tmp 38) rfl Tryz.underlying34 hi hz0 hz1 hz2 rfl (by decide) (by decide) (.slice ao k c) k ((pN p64 s k).1.flatMap ucell) rfl o3 (some ⟨w2.heap.size, 0, none⟩) 1 1 [p.1] rfl RA (fun _ _ => rfl) (fun z _ u hu => by simp only [ucell, List.mem_singleton] at hu; subst hu; rfl) (by omega) ?_
          intro ao3 c3 w3 ho hk3 hg3
          have m4 := m3.row hk3 HB.out (fun g e => I.out.new g e.symm)
          have cc4 := mx_cell m4.box 23
          simp only [Mg.cells, List.getElem?_cons_zero, List.getElem?_cons_succ] at cc4
          have n4 : ∀ b, (Value.slice ao3 (k + 1) c3).ownBlock = some b → w.heap.size ≤ b := fun b hb => by
            rcases hg3 with e | e
            · exact I.out.new b (by rw [← e]; exact hb)
            · rw [hb] at e; injection e with e; simp at e; have := M2.out.1.kept.size; omega
          have H4 := Lib.hid (And.intro m4 (And.intro ho n4))
          have CC4 := Lib.hid cc4
          clear m3 o3 b3 RA hi hz0 hz1 hz2 ho hk3 hg3 m4 cc4 n4
          refine hK.out _ _ (trivial) (fun hS => ?_)
          clear hK K
          refine tg 9 (.pointer (some ⟨M, 0, none⟩)) rfl hS ?_
          refine tg 10 (.pointer (some ⟨M, 23, none⟩)) rfl hS ?_
          refine rdy1 11 rfl (fun K hK => ?_)
          rw [if_pos (by rfl)]
          have hrun : (Instr.storeAt 34 (.pointer (some ⟨M, 23, none⟩)) (.slice ao3 (k + 1) c3)).run Tryz.prog w3 = .ok () (w3.setCell ⟨M, 23, none⟩ (.slice ao3 (k + 1) c3)) := by
            have hc2 := CC4.out
            have hz2 := frozen_of_row w3 M 23 _ 37 H4.out.1.box
            go_simp
          refine wp_st hrun rfl rfl rfl rfl ?_
          have H5 := Lib.hid (H4.out.1.set (m' := { m with sm := ⟨ao3, k + 1, c3⟩ }) 23 (.slice ao3 (k + 1) c3) (by simp [Mg.cells]))
          refine hK.out _ _ (trivial) (fun hS => ?_)
          clear hK K
          refine wpAnyH_done (by kernel_rfl) ?_ _
          have hpn : pN p64 s (k + 1) = ((pN p64 s k).1 ++ [p.1], p.2) := by rw [HP.out]; rfl
          have o5 := own_kept' H4.out.2.1 (w' := w3.setCell ⟨M, 23, none⟩ (.slice ao3 (k + 1) c3)) ((Kept.refl (fun i => i = M) w3).setCell _ _ (fun _ => rfl)) (fun g hg e => by have := H4.out.2.2 g hg; have := HB.out; omega)
          have N : SI w (w3.setCell ⟨M, 23, none⟩ (.slice ao3 (k + 1) c3)) X M m s ao3 (k + 1) c3 := ⟨by rw [hpn]; exact H5.out, by rw [hpn]; simpa [List.flatMap_append] using o5, H4.out.2.2⟩
          replace N := Lib.hid N
          clear hS hpn o5 H5 H4 CC4 hrun
          go_wp2_with fail
          exact ⟨⟨k + 1, ao3, c3, by go_num, by omega, N⟩, by simp [intOf]; omega⟩
        · rw [if_pos (by rfl)]
          go_simp
          refine hK.out _ _ (trivial) (fun hS => ?_)
          clear hK K
          refine rdy1 4 rfl (fun K hK => ?_)
          rw [if_pos (by rfl)]
          go_simp
          refine hK.out _ _ (trivial) (fun hS => ?_)
          clear hK K
          refine rdy1 8 rfl (fun K hK => ?_)
          rw [if_pos (by rfl)]
          obtain ⟨i0, hinfo⟩ := info_parts info28s
          obtain ⟨hi, hz0, hz1, hz2⟩ := hinfo
          have b3 : Below w2.heap.size w2 (w2.alloc (.cells #[.int .u64 p.1] 28)) := (Below.refl _ _).alloc (Nat.le_refl _) _
          have m3 := M2.out.1.call (M2.out.1.rd.kept (S := fun _ => False) (Kept.ofBelow b3) (fun _ _ h => h)) (Kept.ofBelow (S := fun k => k = X) b3)
          have o3 := own_kept' M2.out.2 (Kept.ofBelow (S := fun _ => False) b3) (fun _ _ h => h)
          have RA := row_new1 w2 1 ucell p.1 28 #[.int .u64 p.1] rfl
          refine wp_appR ucell 1 34 28 8 i0 _ _ (.tmp 35) (.tmp 38) rfl Tryz.underlying34 hi hz0 hz1 hz2 rfl (by decide) (by decide) (.slice ao k c) k ((pN p64 s k).1.flatMap ucell) rfl o3 (some ⟨w2.heap.size, 0, none⟩) 1 1 [p.1] rfl RA (fun _ _ => rfl) (fun z _ u hu => by simp only [ucell, List.mem_singleton] at hu; subst hu; rfl) (by omega) ?_
          intro ao3 c3 w3 ho hk3 hg3
          have m4 := m3.row hk3 HB.out (fun g e => I.out.new g e.symm)
          have cc4 := mx_cell m4.box 23
          simp only [Mg.cells, List.getElem?_cons_zero, List.getElem?_cons_succ] at cc4
          have n4 : ∀ b, (Value.slice ao3 (k + 1) c3).ownBlock = some b → w.heap.size ≤ b := fun b hb => by
            rcases hg3 with e | e
            · exact I.out.new b (by rw [← e]; exact hb)
            · rw [hb] at e; injection e with e; simp at e; have := M2.out.1.kept.size; omega
          have H4 := Lib.hid (And.intro m4 (And.intro ho n4))
          have CC4 := Lib.hid cc4
          clear m3 o3 b3 RA hi hz0 hz1 hz2 ho hk3 hg3 m4 cc4 n4
          refine hK.out _ _ (trivial) (fun hS => ?_)
          clear hK K
          refine tg 9 (.pointer (some ⟨M, 0, none⟩)) rfl hS ?_
          refine tg 10 (.pointer (some ⟨M, 23, none⟩)) rfl hS ?_
          refine rdy1 11 rfl (fun K hK => ?_)
          rw [if_pos (by rfl)]
          have hrun : (Instr.storeAt 34 (.pointer (some ⟨M, 23, none⟩)) (.slice ao3 (k + 1) c3)).run Tryz.prog w3 = .ok () (w3.setCell ⟨M, 23, none⟩ (.slice ao3 (k + 1) c3)) := by
            have hc2 := CC4.out
            have hz2 := frozen_of_row w3 M 23 _ 37 H4.out.1.box
            go_simp
          refine wp_st hrun rfl rfl rfl rfl ?_
          have H5 := Lib.hid (H4.out.1.set (m' := { m with sm := ⟨ao3, k + 1, c3⟩ }) 23 (.slice ao3 (k + 1) c3) (by simp [Mg.cells]))
          refine hK.out _ _ (trivial) (fun hS => ?_)
          clear hK K
          refine wpAnyH_done (by kernel_rfl) ?_ _
          have hpn : pN p64 s (k + 1) = ((pN p64 s k).1 ++ [p.1], p.2) := by rw [HP.out]; rfl
          have o5 := own_kept' H4.out.2.1 (w' := w3.setCell ⟨M, 23, none⟩ (.slice ao3 (k + 1) c3)) ((Kept.refl (fun i => i = M) w3).setCell _ _ (fun _ => rfl)) (fun g hg e => by have := H4.out.2.2 g hg; have := HB.out; omega)
          have N : SI w (w3.setCell ⟨M, 23, none⟩ (.slice ao3 (k + 1) c3)) X M m s ao3 (k + 1) c3 := ⟨by rw [hpn]; exact H5.out, by rw [hpn]; simpa [List.flatMap_append] using o5, H4.out.2.2⟩
          replace N := Lib.hid N
          clear hS hpn o5 H5 H4 CC4 hrun
          go_wp2_with fail
          exact ⟨⟨k + 1, ao3, c3, by go_num, by omega, N⟩, by simp [intOf]; omega⟩
    · obtain rfl : k = 8 := by omega
      go_wp2_with fail
      go_end0
      exact ⟨rfl, ao, c, I.out⟩

/-- the message at M, the reader at X, the result at g0 -/
structure DJ (w : World) (g0 X M : Nat) (k : Int) (wr : World) (m : Mg) (c : Mc) (y : Mq × Sr) : Prop where
  mq : MqAt wr M m c y.1
  rd : Ds wr X y.2
  ok : QOk y.1
  res : wr.heap[g0]? = some (.cells Vz.toArray 37 (0, 0))
  bel : Below w.heap.size w wr
  lo : w.heap.size ≤ g0
  l1 : g0 < X
  l2 : X < M
  kd : m.k = k
theorem DJ.call {w wr w' : World} {g0 X M : Nat} {k : Int} {m : Mg} {c : Mc} {y : Mq × Sr} {s' : Sr} (h : DJ w g0 X M k wr m c y) (hd : Ds w' X s') (hk : Kept (fun k => k = X) wr w') : DJ w g0 X M k w' m c (y.1, s') := by
  have h1 := h.lo; have h2 := h.l1; have h3 := h.l2
  have hbx := lt_of_block h.mq.box
  exact ⟨⟨by rw [hk.block M hbx (by omega)]; exact h.mq.box, h.mq.dat.new hk h.mq.new (fun b e => by omega), h.mq.new, h.mq.wd, h.mq.vt, h.mq.vs, h.mq.sm, h.mq.dt⟩, hd, h.ok, by rw [hk.block g0 (lt_of_block h.res) (by omega)]; exact h.res, h.bel.trans (hk.below h.bel.size (fun i e => by omega)), h1, h2, h3, h.kd⟩
theorem DJ.below {w wr w' : World} {g0 X M : Nat} {k : Int} {m : Mg} {c : Mc} {y : Mq × Sr} (h : DJ w g0 X M k wr m c y) (hb : Below wr.heap.size wr w') : DJ w g0 X M k w' m c y :=
  ⟨h.mq.below hb, h.rd.kept (S := fun _ => False) (Kept.ofBelow hb) (fun _ _ e => e), h.ok, by rw [hb.block g0 (lt_of_block h.res)]; exact h.res, h.bel.trans (hb.mono h.bel.size), h.lo, h.l1, h.l2, h.kd⟩
theorem DJ.put {w wr : World} {g0 X M o : Nat} {k : Int} {m m' : Mg} {c c' : Mc} {y : Mq × Sr} {x' : Mq} {vs : List Value} (h : DJ w g0 X M k wr m c y) (hd : MgAt wr m' c') (hn : NewM (M + 1) m' c') (ho : over m.cells.toArray o vs = m'.cells.toArray) (h1 : m'.toWd = x'.w) (h2 : toVp (m'.vt, c'.vt) = x'.vt) (h3 : c'.vs.map toVp = x'.vs) (h4 : c'.sm = x'.sm) (h5 : c'.dt = x'.dt) (hok : QOk x') (hk : m'.k = k) : DJ w g0 X M k (wr.setCells M o vs) m' c' (x', y.2) := by
  have l0 := h.lo; have l1 := h.l1; have l2 := h.l2
  have hkk : Kept (fun k => k = M) wr (wr.setCells M o vs) := kept_setCells
  exact ⟨h.mq.put hd hn ho h1 h2 h3 h4 h5, h.rd.kept hkk (fun k hk e => by omega), hok, by rw [hkk.block g0 (lt_of_block h.res) (by omega)]; exact h.res, h.bel.trans (hkk.below h.bel.size (fun i e => by omega)), l0, l1, l2, hk⟩
theorem DJ.p0 {w wr w' : World} {g0 X M : Nat} {k : Int} {m : Mg} {c : Mc} {y : Mq × Sr} (h : DJ w g0 X M k wr m c y) (hd : Ds w' X (p32 y.2).2) (hk : Kept (fun k => k = X) wr w') : DJ w g0 X M k (w'.setCell ⟨M, 4, none⟩ (.int .u32 (p32 y.2).1)) { m with vw := (p32 y.2).1 } c (dPart 0 y.1 y.2) := by
  have j := h.call hd hk
  have hok := (dPart_rg 0 h.ok h.rd.ok).1
  rw [one_put]
  refine j.put ⟨j.mq.dat.vt, j.mq.dat.vs, j.mq.dat.sm, j.mq.dat.dt⟩ j.mq.new (by simp [over, Mg.cells]) ?_ j.mq.vt j.mq.vs j.mq.sm j.mq.dt hok j.kd
  show ({ m.toWd with vw := (p32 y.2).1 } : Wd) = { y.1.w with vw := (p32 y.2).1 }
  rw [j.mq.wd]
theorem DJ.p1 {w wr w' : World} {g0 X M : Nat} {k : Int} {m : Mg} {c : Mc} {y : Mq × Sr} (h : DJ w g0 X M k wr m c y) (hd : Ds w' X (p32 y.2).2) (hk : Kept (fun k => k = X) wr w') : DJ w g0 X M k (w'.setCell ⟨M, 5, none⟩ (.int .u32 (p32 y.2).1)) { m with sq := (p32 y.2).1 } c (dPart 1 y.1 y.2) := by
  have j := h.call hd hk
  have hok := (dPart_rg 1 h.ok h.rd.ok).1
  rw [one_put]
  refine j.put ⟨j.mq.dat.vt, j.mq.dat.vs, j.mq.dat.sm, j.mq.dat.dt⟩ j.mq.new (by simp [over, Mg.cells]) ?_ j.mq.vt j.mq.vs j.mq.sm j.mq.dt hok j.kd
  show ({ m.toWd with sq := (p32 y.2).1 } : Wd) = { y.1.w with sq := (p32 y.2).1 }
  rw [j.mq.wd]
theorem DJ.p4 {w wr w' : World} {g0 X M : Nat} {k : Int} {m : Mg} {c : Mc} {y : Mq × Sr} (h : DJ w g0 X M k wr m c y) (hd : Ds w' X (p8 y.2).2) (hk : Kept (fun k => k = X) wr w') : DJ w g0 X M k (w'.setCell ⟨M, 12, none⟩ (.int .u8 (p8 y.2).1)) { m with ct := (p8 y.2).1 } c (dPart 4 y.1 y.2) := by
  have j := h.call hd hk
  have hok := (dPart_rg 4 h.ok h.rd.ok).1
  rw [one_put]
  refine j.put ⟨j.mq.dat.vt, j.mq.dat.vs, j.mq.dat.sm, j.mq.dat.dt⟩ j.mq.new (by simp [over, Mg.cells]) ?_ j.mq.vt j.mq.vs j.mq.sm j.mq.dt hok j.kd
  show ({ m.toWd with ct := (p8 y.2).1 } : Wd) = { y.1.w with ct := (p8 y.2).1 }
  rw [j.mq.wd]
theorem DJ.p6 {w wr w' : World} {g0 X M : Nat} {k : Int} {m : Mg} {c : Mc} {y : Mq × Sr} (h : DJ w g0 X M k wr m c y) (hd : Ds w' X (p32 y.2).2) (hk : Kept (fun k => k = X) wr w') : DJ w g0 X M k (w'.setCell ⟨M, 14, none⟩ (.int .u32 (p32 y.2).1)) { m with rs := (p32 y.2).1 } c (dPart 6 y.1 y.2) := by
  have j := h.call hd hk
  have hok := (dPart_rg 6 h.ok h.rd.ok).1
  rw [one_put]
  refine j.put ⟨j.mq.dat.vt, j.mq.dat.vs, j.mq.dat.sm, j.mq.dat.dt⟩ j.mq.new (by simp [over, Mg.cells]) ?_ j.mq.vt j.mq.vs j.mq.sm j.mq.dt hok j.kd
  show ({ m.toWd with rs := (p32 y.2).1 } : Wd) = { y.1.w with rs := (p32 y.2).1 }
  rw [j.mq.wd]
theorem DJ.p2 {w wr w' : World} {g0 X M : Nat} {k : Int} {m : Mg} {c : Mc} {y : Mq × Sr} (h : DJ w g0 X M k wr m c y) (hd : Ds w' X (pRq y.2).2) (hk : Kept (fun k => k = X) wr w') : DJ w g0 X M k (w'.setCells M 6 (pRq y.2).1.cells) { m with rq := (pRq y.2).1 } c (dPart 2 y.1 y.2) := by
  have j := h.call hd hk
  have hok := (dPart_rg 2 h.ok h.rd.ok).1
  refine j.put ⟨j.mq.dat.vt, j.mq.dat.vs, j.mq.dat.sm, j.mq.dat.dt⟩ j.mq.new (by simp [over, Mg.cells, Rq.cells]) ?_ j.mq.vt j.mq.vs j.mq.sm j.mq.dt hok j.kd
  show ({ m.toWd with rq := (pRq y.2).1 } : Wd) = { y.1.w with rq := (pRq y.2).1 }
  rw [j.mq.wd]
theorem RW.row {α : Type} {w wr : World} {gr g : Nat} {e : TypeId} {k : Nat} {enc : α → List Value} {ao : Option Addr} {m c : Nat} {l : List α} (h : RW w wr gr g e k enc ao m c l) (hk : ∀ x, (enc x).length = k) (hm : l.length ≤ 1000000) : Row wr k enc (.slice ao m c) l :=
  row_of_own (fun x _ => hk x) h.own h.len (by rw [← h.len]; exact hm)
def vtOf (v : Vp) (a1 a2 a3 : Option Addr) (m1 m2 m3 c1 c2 c3 : Nat) : Vt := ⟨v.f, v.e, v.vw, v.lo, ⟨a1, m1, c1⟩, ⟨a2, m2, c2⟩, ⟨a3, m3, c3⟩⟩
theorem dVt_few {s : Sr} (h : SrOk s) : (dVt s).1.c.ms.length ≤ 255 ∧ (dVt s).1.c.p.length ≤ 255 ∧ (dVt s).1.c.q.length ≤ 255 := by
  obtain ⟨a, ha⟩ : ∃ a, a = p8 s := ⟨_, rfl⟩
  obtain ⟨b, hb⟩ : ∃ b, b = p8 a.2 := ⟨_, rfl⟩
  obtain ⟨c, hc⟩ : ∃ c, c = p32 b.2 := ⟨_, rfl⟩
  obtain ⟨d, hd⟩ : ∃ d, d = p32 c.2 := ⟨_, rfl⟩
  obtain ⟨nn, hnn⟩ : ∃ n, n = p8 d.2 := ⟨_, rfl⟩
  obtain ⟨x, hx⟩ : ∃ x, x = dL pMk nn.2 nn.1.toNat := ⟨_, rfl⟩
  obtain ⟨y, hy⟩ : ∃ y, y = dL pEn (p8 x.2).2 (p8 x.2).1.toNat := ⟨_, rfl⟩
  obtain ⟨z, hz⟩ : ∃ z, z = dL pEn (p8 y.2).2 (p8 y.2).1.toNat := ⟨_, rfl⟩
  have hres : dVt s = (⟨a.1, b.1, c.1, d.1, ⟨x.1, y.1, z.1⟩⟩, z.2) := by unfold dVt; rw [hz, hy, hx, hnn, hd, hc, hb, ha]
  have A : SrOk a.2 := by rw [ha]; exact gN_ok 1 _ h
  have B : SrOk b.2 := by rw [hb]; exact gN_ok 1 _ A
  have C : SrOk c.2 := by rw [hc]; exact gN_ok 4 _ B
  have D : SrOk d.2 := by rw [hd]; exact gN_ok 4 _ C
  have N : SrOk nn.2 := by rw [hnn]; exact gN_ok 1 _ D
  have n1 := p8_in D
  rw [← hnn] at n1
  have X := (dL_ok (one := pMk) (P := Mk.ok) (fun s hs => pMk_rg hs) nn.2 N nn.1.toNat).2
  have x1 := dL_len (one := pMk) nn.2 nn.1.toNat
  rw [← hx] at X x1
  have n2 := p8_in X
  have Y := (dL_ok (one := pEn) (P := En.ok) (fun s hs => pEn_rg hs) (p8 x.2).2 (gN_ok 1 _ X) (p8 x.2).1.toNat).2
  have y1 := dL_len (one := pEn) (p8 x.2).2 (p8 x.2).1.toNat
  rw [← hy] at Y y1
  have n3 := p8_in Y
  have z1 := dL_len (one := pEn) (p8 y.2).2 (p8 y.2).1.toNat
  rw [← hz] at z1
  rw [hres]
  exact ⟨by show x.1.length ≤ 255; omega, by show y.1.length ≤ 255; omega, by show z.1.length ≤ 255; omega⟩
theorem vote_at {w wr : World} {gr g : Nat} {s : Sr} (hs : SrOk s) {a1 a2 a3 : Option Addr} {m1 m2 m3 c1 c2 c3 : Nat} (v1 : RW w wr gr g 77 2 Mk.cells a1 m1 c1 (dVt s).1.c.ms) (v2 : RW w wr gr g 80 7 En.cells a2 m2 c2 (dVt s).1.c.p) (v3 : RW w wr gr g 80 7 En.cells a3 m3 c3 (dVt s).1.c.q) :
    VtAt wr (vtOf (dVt s).1 a1 a2 a3 m1 m2 m3 c1 c2 c3) (dVt s).1.c ∧ ∀ H, H ≤ w.heap.size → NewV H (vtOf (dVt s).1 a1 a2 a3 m1 m2 m3 c1 c2 c3) := by
  obtain ⟨f1, f2, f3⟩ := dVt_few hs
  refine ⟨⟨v1.row (fun _ => rfl) (by omega), v2.row (fun _ => rfl) (by omega), v3.row (fun _ => rfl) (by omega)⟩, fun H hH => ⟨fun ad e => ?_, fun ad e => ?_, fun ad e => ?_⟩⟩
  · simp only [vtOf] at e; subst e; have := (v1.new ad.block rfl).1; omega
  · simp only [vtOf] at e; subst e; have := (v2.new ad.block rfl).1; omega
  · simp only [vtOf] at e; subst e; have := (v3.new ad.block rfl).1; omega
theorem DJ.p7 {w wr w' : World} {g0 X M : Nat} {k : Int} {m : Mg} {c : Mc} {y : Mq × Sr} {gr g : Nat} {a1 a2 a3 : Option Addr} {m1 m2 m3 c1 c2 c3 : Nat} (h : DJ w g0 X M k wr m c y) (hd : Ds w' X (dVt y.2).2) (hk : Kept (fun k => k = X) wr w')
    (v1 : RW wr w' gr g 77 2 Mk.cells a1 m1 c1 (dVt y.2).1.c.ms) (v2 : RW wr w' gr g 80 7 En.cells a2 m2 c2 (dVt y.2).1.c.p) (v3 : RW wr w' gr g 80 7 En.cells a3 m3 c3 (dVt y.2).1.c.q) :
    DJ w g0 X M k (w'.setCells M 15 (vtOf (dVt y.2).1 a1 a2 a3 m1 m2 m3 c1 c2 c3).cells) { m with vt := vtOf (dVt y.2).1 a1 a2 a3 m1 m2 m3 c1 c2 c3 } { c with vt := (dVt y.2).1.c } (dPart 7 y.1 y.2) := by
  have j := h.call hd hk
  have hok := (dPart_rg 7 h.ok h.rd.ok).1
  obtain ⟨t1, t2⟩ := vote_at h.rd.ok v1 v2 v3
  exact j.put ⟨t1, j.mq.dat.vs, j.mq.dat.sm, j.mq.dat.dt⟩ ⟨t2 _ (by have := lt_of_block h.mq.box; omega), j.mq.new.2⟩ (by simp [over, Mg.cells, Vt.cells]) j.mq.wd rfl j.mq.vs j.mq.sm j.mq.dt hok j.kd
theorem DJ.mx {w wr : World} {g0 X M : Nat} {k : Int} {m : Mg} {c : Mc} {y : Mq × Sr} (h : DJ w g0 X M k wr m c y) : MX wr wr X M m y.2 := ⟨Kept.refl _ _, h.mq.box, h.rd, h.l2⟩
theorem DJ.old {w wr w' : World} {g0 X M : Nat} {k : Int} {m m' : Mg} {c : Mc} {y : Mq × Sr} {s' : Sr} (h : DJ w g0 X M k wr m c y) (hm : MX wr w' X M m' s') : MgAt w' m c := by
  have := h.l2
  exact h.mq.dat.new hm.kept h.mq.new (fun b e => by omega)
theorem DJ.of_mx {w wr w' : World} {g0 X M : Nat} {k : Int} {m m' : Mg} {c c' : Mc} {y : Mq × Sr} {x' : Mq} {s' : Sr} (h : DJ w g0 X M k wr m c y) (hm : MX wr w' X M m' s') (hd : MgAt w' m' c') (hn : NewM (M + 1) m' c') (h1 : m'.toWd = x'.w) (h2 : toVp (m'.vt, c'.vt) = x'.vt) (h3 : c'.vs.map toVp = x'.vs) (h4 : c'.sm = x'.sm) (h5 : c'.dt = x'.dt) (hok : QOk x') (hk : m'.k = k) : DJ w g0 X M k w' m' c' (x', s') := by
  have l0 := h.lo; have l1 := h.l1; have l2 := h.l2
  exact ⟨⟨hm.box, hd, hn, h1, h2, h3, h4, h5⟩, hm.rd, hok, by rw [hm.kept.block g0 (lt_of_block h.res) (by omega)]; exact h.res, h.bel.trans (hm.kept.below h.bel.size (fun i e => by omega)), l0, l1, l2, hk⟩
theorem DJ.r5 {w wr w' : World} {g0 X M : Nat} {k : Int} {m : Mg} {c : Mc} {y : Mq × Sr} (h : DJ w g0 X M k wr m c y) (hm : MX wr w' X M { m with ro := (p64 y.2).1 } (p64 y.2).2) : DJ w g0 X M k w' { m with ro := (p64 y.2).1 } c (dPart 3 y.1 y.2) := by
  have o := h.old hm
  have hok := (dPart_rg 3 h.ok h.rd.ok).1
  refine h.of_mx (x' := { y.1 with w := { y.1.w with ro := (p64 y.2).1 } }) hm ⟨o.vt, o.vs, o.sm, o.dt⟩ h.mq.new ?_ h.mq.vt h.mq.vs h.mq.sm h.mq.dt hok h.kd
  show ({ m.toWd with ro := (p64 y.2).1 } : Wd) = { y.1.w with ro := (p64 y.2).1 }
  rw [h.mq.wd]
theorem DJ.r11 {w wr w' : World} {g0 X M : Nat} {k : Int} {m : Mg} {c : Mc} {y : Mq × Sr} (h : DJ w g0 X M k wr m c y) (hm : MX wr w' X M { m with pg := (p8 y.2).1 } (p8 y.2).2) : DJ w g0 X M k w' { m with pg := (p8 y.2).1 } c (dPart 5 y.1 y.2) := by
  have o := h.old hm
  have hok := (dPart_rg 5 h.ok h.rd.ok).1
  refine h.of_mx (x' := { y.1 with w := { y.1.w with pg := (p8 y.2).1 } }) hm ⟨o.vt, o.vs, o.sm, o.dt⟩ h.mq.new ?_ h.mq.vt h.mq.vs h.mq.sm h.mq.dt hok h.kd
  show ({ m.toWd with pg := (p8 y.2).1 } : Wd) = { y.1.w with pg := (p8 y.2).1 }
  rw [h.mq.wd]
theorem DJ.r0 {w wr w' : World} {g0 X M : Nat} {k : Int} {m : Mg} {c : Mc} {y : Mq × Sr} (h : DJ w g0 X M k wr m c y) (hm : MX wr w' X M m y.2) : DJ w g0 X M k w' m c y :=
  h.of_mx (x' := y.1) hm (h.old hm) h.mq.new h.mq.wd h.mq.vt h.mq.vs h.mq.sm h.mq.dt h.ok h.kd
theorem DJ.r12 {w wr w' : World} {g0 X M : Nat} {k : Int} {m : Mg} {c : Mc} {y : Mq × Sr} {ao : Option Addr} {c2 : Nat} (h : DJ w g0 X M k wr m c y) (hm : SI wr w' X M m y.2 ao 8 c2) : DJ w g0 X M k w' { m with sm := ⟨ao, 8, c2⟩ } { c with sm := (pN p64 y.2 8).1 } (dPart 9 y.1 y.2) := by
  have o := h.old hm.mx
  have hok := (dPart_rg 9 h.ok h.rd.ok).1
  have hM := lt_of_block h.mq.box
  have hl : (pN p64 y.2 8).1.length = 8 := pN_len _ _ _
  exact h.of_mx (x' := { y.1 with sm := (pN p64 y.2 8).1 }) hm.mx ⟨o.vt, o.vs, row_of_own (enc := ucell) (n := 8) (fun x _ => rfl) hm.own hl (by decide), o.dt⟩ ⟨h.mq.new.1, h.mq.new.2.1, fun ad e => by simp only at e; subst e; have := hm.new ad.block rfl; omega, h.mq.new.2.2.2⟩ h.mq.wd h.mq.vt h.mq.vs rfl h.mq.dt hok h.kd
theorem DJ.r13 {w wr w' : World} {g0 X M : Nat} {k : Int} {m : Mg} {c : Mc} {y : Mq × Sr} {v : Sl} (h : DJ w g0 X M k wr m c y) (hm : MX wr w' X M { m with pg := (p8 y.2).1, dt := v } (dDt (p8 y.2).2).2) (ho : w'.ownsRow 0 5 1 v.val v.n (vals (dDt (p8 y.2).2).1)) (hn : ∀ b, v.val.ownBlock = some b → wr.heap.size ≤ b) : DJ w g0 X M k w' { m with pg := (p8 y.2).1, dt := v } { c with dt := (dDt (p8 y.2).2).1 } (dPart 10 (dPart 5 y.1 y.2).1 (dPart 5 y.1 y.2).2) := by
  have o := h.old hm
  have h5 := dPart_rg 5 h.ok h.rd.ok
  have hok := (dPart_rg 10 h5.1 h5.2).1
  have hM := lt_of_block h.mq.box
  have hd := dDt_rg (s := (p8 y.2).2) (gN_ok 1 _ h.rd.ok)
  have hs := dDt_short (p8 y.2).2
  have hs2 : (p8 y.2).2.l.length ≤ y.2.l.length := gN_short 1 _ _
  have hs3 := h.rd.len
  obtain ⟨a, n, c2⟩ := v
  have hvl : n = (dDt (p8 y.2).2).1.length := by have := ho.1; simp [vals] at this; omega
  have hcap : (a = none → c2 = 0) ∧ n ≤ c2 := by
    rcases ho.2 with ⟨hv, h0⟩ | ⟨g, c3, cur, hv, _, _, h1, _⟩
    · injection hv with e1 e2 e3; simp only at h0; exact ⟨fun _ => e3, by omega⟩
    · injection hv with e1 e2 e3; subst e1 e3; exact ⟨fun e => by (cases e), h1⟩
  refine h.of_mx (x' := (dPart 10 (dPart 5 y.1 y.2).1 (dPart 5 y.1 y.2).2).1) hm ⟨o.vt, o.vs, o.sm, hvl, own_bytes ho, hcap.1, by rw [← hvl]; exact hcap.2, (by omega : (dDt (p8 y.2).2).1.length ≤ 50000), hd.1⟩ ⟨h.mq.new.1, h.mq.new.2.1, h.mq.new.2.2.1, fun ad e => by simp only at e; subst e; have := hn ad.block rfl; omega⟩ ?_ h.mq.vt h.mq.vs h.mq.sm rfl hok h.kd
  show ({ m.toWd with pg := (p8 y.2).1 } : Wd) = { y.1.w with pg := (p8 y.2).1 }
  rw [h.mq.wd]

/-- where a vote's lists lie -/
def VIn (lo hi : Nat) (o : Option Nat) (v : Vt) : Prop := ∀ ad, (v.ms.a = some ad ∨ v.p.a = some ad ∨ v.q.a = some ad) → lo ≤ ad.block ∧ ad.block < hi ∧ some ad.block ≠ o
theorem vt_kept {S : Nat → Prop} {w w' : World} {v : Vt} {c : Vc} (h : VtAt w v c) (hk : Kept S w w') (hn : ∀ ad, (v.ms.a = some ad ∨ v.p.a = some ad ∨ v.q.a = some ad) → ¬ S ad.block) : VtAt w' v c :=
  ⟨h.1.kept hk (fun b off n c e hb => by injection e with e _ _; exact hn _ (.inl e) hb), h.2.1.kept hk (fun b off n c e hb => by injection e with e _ _; exact hn _ (.inr (.inl e)) hb), h.2.2.kept hk (fun b off n c e hb => by injection e with e _ _; exact hn _ (.inr (.inr e)) hb)⟩
/-- the votes so far -/
structure VL (w1 wr : World) (X M : Nat) (m : Mg) (s0 : Sr) (ao : Option Addr) (j c : Nat) (vl : List (Vt × Vc)) : Prop where
  mx : MX w1 wr X M { m with vs := ⟨ao, j, c⟩ } (dL dVt s0 j).2
  own : wr.ownsRow 0 32 7 (.slice ao j c) j (vl.flatMap vcell)
  new : ∀ b, (Value.slice ao j c).ownBlock = some b → w1.heap.size ≤ b
  len : vl.length = j
  pure : vl.map toVp = (dL dVt s0 j).1
  vts : ∀ x ∈ vl, VtAt wr x.1 x.2 ∧ VIn w1.heap.size wr.heap.size (Value.slice ao j c).ownBlock x.1
theorem VL.mid {w1 wr w2 : World} {X M : Nat} {m : Mg} {s0 s' : Sr} {ao : Option Addr} {j c : Nat} {vl : List (Vt × Vc)} (h : VL w1 wr X M m s0 ao j c vl) (hM : M < w1.heap.size) (d2 : Ds w2 X s') (k2 : Kept (fun k => k = X) wr.drew w2) : MX w1 w2 X M { m with vs := ⟨ao, j, c⟩ } s' ∧ w2.ownsRow 0 32 7 (.slice ao j c) j (vl.flatMap vcell) := by
  have hk := (Kept.refl (fun k => k = X) wr).drew.trans k2 (fun _ _ h => h)
  have hl := h.mx.lt
  exact ⟨h.mx.call d2 hk, own_kept' h.own hk (fun g hg e => by have := h.new g hg; omega)⟩
theorem VL.next {w1 wr w2 w3 : World} {X M : Nat} {m : Mg} {s0 : Sr} {ao ao3 : Option Addr} {j c c3 : Nat} {vl : List (Vt × Vc)} {gr g : Nat} {a1 a2 a3 : Option Addr} {m1 m2 m3 c1 c2 cc : Nat} {o : Obj} {dv : Vp × Sr} (h : VL w1 wr X M m s0 ao j c vl) (hM : M < w1.heap.size) (hf : (dL dVt s0 j).2.f = 0) (hdv : dv = dVt (dL dVt s0 j).2)
    (d2 : Ds w2 X dv.2) (k2 : Kept (fun k => k = X) wr.drew w2)
    (v1 : RW wr.drew w2 gr g 77 2 Mk.cells a1 m1 c1 dv.1.c.ms) (v2 : RW wr.drew w2 gr g 80 7 En.cells a2 m2 c2 dv.1.c.p) (v3 : RW wr.drew w2 gr g 80 7 En.cells a3 m3 cc dv.1.c.q)
    (ho : w3.ownsRow 0 32 7 (.slice ao3 (j + 1) c3) (j + 1) (vl.flatMap vcell ++ [(vtOf dv.1 a1 a2 a3 m1 m2 m3 c1 c2 cc, dv.1.c)].flatMap vcell))
    (hk3 : Kept (fun k => some k = (Value.slice ao j c).ownBlock) (w2.alloc o) w3)
    (hg3 : (Value.slice ao3 (j + 1) c3).ownBlock = (Value.slice ao j c).ownBlock ∨ (Value.slice ao3 (j + 1) c3).ownBlock = some (w2.alloc o).heap.size) :
    MX w1 w3 X M { m with vs := ⟨ao, j, c⟩ } dv.2 ∧ VL w1 (w3.setCell ⟨M, 22, none⟩ (.slice ao3 (j + 1) c3)) X M m s0 ao3 (j + 1) c3 (vl ++ [(vtOf dv.1 a1 a2 a3 m1 m2 m3 c1 c2 cc, dv.1.c)]) := by
  subst hdv
  obtain ⟨M2, O2⟩ := h.mid hM d2 k2
  have hl := h.mx.lt
  have hS1 : w1.heap.size ≤ wr.heap.size := h.mx.kept.size
  have hS2 : wr.heap.size ≤ w2.heap.size := k2.size
  have hS3 : (w2.alloc o).heap.size = w2.heap.size + 1 := by simp
  have hS4 : (w2.alloc o).heap.size ≤ w3.heap.size := hk3.size
  have hS5 : (w3.setCell ⟨M, 22, none⟩ (.slice ao3 (j + 1) c3)).heap.size = w3.heap.size := by simp
  have b3 : Below w2.heap.size w2 (w2.alloc o) := (Below.refl _ _).alloc (Nat.le_refl _) _
  have M3 := M2.call (M2.rd.kept (S := fun _ => False) (Kept.ofBelow b3) (fun _ _ h => h)) (Kept.ofBelow (S := fun k => k = X) b3)
  have M4 := M3.row hk3 hM (fun g e => h.new g e.symm)
  have kset : Kept (fun k => k = M) w3 (w3.setCell ⟨M, 22, none⟩ (.slice ao3 (j + 1) c3)) := (Kept.refl _ _).setCell _ _ (fun _ => rfl)
  have hn4 : ∀ b, (Value.slice ao3 (j + 1) c3).ownBlock = some b → w1.heap.size ≤ b := fun b hb => by
    rcases hg3 with e | e
    · exact h.new b (by rw [← e]; exact hb)
    · rw [hb] at e; injection e with e; omega
  have hold : ∀ b, (Value.slice ao j c).ownBlock = some b → b < wr.heap.size := fun b hb => own_lt' h.own hb
  have M5 := M4.set (m' := { m with vs := ⟨ao3, j + 1, c3⟩ }) 22 (.slice ao3 (j + 1) c3) (by simp [Mg.cells])
  refine ⟨M4, ?_⟩
  have hdl := dL_next hf
  refine ⟨by rw [hdl]; exact M5, by rw [List.flatMap_append]; exact own_kept' ho kset (fun g hg e => by have := hn4 g hg; omega), hn4, by simp [h.len], by rw [hdl, List.map_append, h.pure]; rfl, fun x hx => ?_⟩
  obtain ⟨t1, t2⟩ := vote_at h.mx.rd.ok v1 v2 v3
  rw [List.mem_append, List.mem_singleton] at hx
  rcases hx with hx | rfl
  · obtain ⟨ha, hi⟩ := h.vts x hx
    have q1 := vt_kept ha ((Kept.refl (fun k => k = X) wr).drew.trans k2 (fun _ _ h => h)) (fun ad e e2 => by have := hi ad e; omega)
    have q2 := vt_kept q1 (Kept.ofBelow (S := fun _ => False) b3) (fun ad e e2 => e2)
    have q3 := vt_kept q2 hk3 (fun ad e e2 => (hi ad e).2.2 e2)
    refine ⟨vt_kept q3 kset (fun ad e e2 => by have := hi ad e; omega), fun ad e => ?_⟩
    obtain ⟨i1, i2, i3⟩ := hi ad e
    refine ⟨i1, by omega, fun e3 => ?_⟩
    rcases hg3 with e4 | e4
    · exact i3 (by rw [e3, e4])
    · rw [e4] at e3; injection e3 with e3; omega
  · have hin : ∀ ad, ((vtOf (dVt (dL dVt s0 j).2).1 a1 a2 a3 m1 m2 m3 c1 c2 cc).ms.a = some ad ∨ (vtOf (dVt (dL dVt s0 j).2).1 a1 a2 a3 m1 m2 m3 c1 c2 cc).p.a = some ad ∨ (vtOf (dVt (dL dVt s0 j).2).1 a1 a2 a3 m1 m2 m3 c1 c2 cc).q.a = some ad) → wr.heap.size ≤ ad.block ∧ ad.block < w2.heap.size := fun ad e => by
      have z : wr.drew.heap.size = wr.heap.size := rfl
      simp only [vtOf] at e
      rcases e with e | e | e
      · subst e; exact ⟨(v1.new ad.block rfl).1, own_lt' v1.own rfl⟩
      · subst e; exact ⟨(v2.new ad.block rfl).1, own_lt' v2.own rfl⟩
      · subst e; exact ⟨(v3.new ad.block rfl).1, own_lt' v3.own rfl⟩
    have q2 := vt_kept t1 (Kept.ofBelow (S := fun _ => False) b3) (fun ad e e2 => e2)
    have q3 := vt_kept q2 hk3 (fun ad e e2 => by have := hin ad e; have := hold _ e2.symm; omega)
    refine ⟨vt_kept q3 kset (fun ad e e2 => by have := hin ad e; omega), fun ad e => ?_⟩
    obtain ⟨i1, i2⟩ := hin ad e
    refine ⟨by omega, by omega, fun e3 => ?_⟩
    rcases hg3 with e4 | e4
    · rw [e4] at e3; have := hold _ e3.symm; omega
    · rw [e4] at e3; injection e3 with e3; omega
theorem DJ.pv {w w1 wr : World} {g0 X M : Nat} {k : Int} {m : Mg} {c : Mc} {y : Mq × Sr} {ao : Option Addr} {j c2 : Nat} {vl : List (Vt × Vc)} (h : DJ w g0 X M k w1 m c (y.1, (p8 y.2).2)) (hs : SrOk y.2) (hv : VL w1 wr X M m (p8 y.2).2 ao j c2 vl) (hj : dL dVt (p8 y.2).2 j = dL dVt (p8 y.2).2 (p8 y.2).1.toNat) (hjn : j ≤ 255) : DJ w g0 X M k wr { m with vs := ⟨ao, j, c2⟩ } { c with vs := vl } (dPart 8 y.1 y.2) := by
  have o := h.old hv.mx
  have hok := (dPart_rg 8 h.ok hs).1
  have hM := lt_of_block h.mq.box
  have e : dPart 8 y.1 y.2 = ({ y.1 with vs := (dL dVt (p8 y.2).2 j).1 }, (dL dVt (p8 y.2).2 j).2) := by rw [hj]; rfl
  rw [e] at hok ⊢
  exact h.of_mx hv.mx ⟨o.vt, ⟨row_of_own (enc := vcell) (n := j) (fun x _ => rfl) hv.own hv.len (by omega), fun x hx => (hv.vts x hx).1⟩, o.sm, o.dt⟩ ⟨h.mq.new.1, ⟨fun ad e => by simp only at e; subst e; have := hv.new ad.block rfl; omega, fun x hx => ⟨fun ad e => by have := (hv.vts x hx).2 ad (.inl e); omega, fun ad e => by have := (hv.vts x hx).2 ad (.inr (.inl e)); omega, fun ad e => by have := (hv.vts x hx).2 ad (.inr (.inr e)); omega⟩⟩, h.mq.new.2.2⟩ h.mq.wd h.mq.vt hv.pure h.mq.sm h.mq.dt hok h.kd

theorem voteB_rel {a b : Vt} {ca cb : Vc} (h : toVp (a, ca) = toVp (b, cb)) : voteB a ca = voteB b cb := by
  simp only [toVp, Vp.mk.injEq] at h
  obtain ⟨h1, h2, h3, h4, h5⟩ := h
  unfold voteB
  rw [h1, h2, h3, h4, h5]
/-- the same, off what votes hold -/
def stepP (l : List Vp) (i : Nat) : Bool :=
  match l[i]? with
  | none => true
  | some x => match i with
    | 0 => true
    | j + 1 => match l[j]? with
      | none => true
      | some y => decide (y.f < x.f)
theorem stepB_map (l : List (Vt × Vc)) (i : Nat) : stepB vAny vAb l i = stepP (l.map toVp) i := by
  unfold stepB stepP
  rw [List.getElem?_map]
  cases h : l[i]? with
  | none => rfl
  | some x =>
    simp only [Option.map_some, vAny, Bool.true_and]
    cases i with
    | zero => rfl
    | succ j =>
      simp only []
      rw [List.getElem?_map]
      cases h2 : l[j]? with
      | none => rfl
      | some y => rfl
theorem vBad_any (n : Int) : ∀ xs ys : List (Vt × Vc), xs.map toVp = ys.map toVp → xs.any (vBad n) = ys.any (vBad n)
  | [], [], _ => rfl
  | [], y :: ys, h => by simp at h
  | x :: xs, [], h => by simp at h
  | x :: xs, y :: ys, h => by
    simp only [List.map_cons, List.cons.injEq] at h
    have ih := vBad_any n xs ys h.2
    have hv := voteB_rel (a := x.1) (ca := x.2) (b := y.1) (cb := y.2) h.1
    have hw : x.1.vw = y.1.vw := congrArg Vp.vw h.1
    simp only [List.any_cons, ih, vBad, hv, hw]
theorem fitVsB_rel {xs ys : List (Vt × Vc)} (n : Int) (h : xs.map toVp = ys.map toVp) : fitVsB xs n = fitVsB ys n := by
  have hl : xs.length = ys.length := by have := congrArg List.length h; simpa using this
  unfold fitVsB
  rw [hl, vBad_any n xs ys h]
  have hs : (List.range ys.length).all (stepB vAny vAb xs) = (List.range ys.length).all (stepB vAny vAb ys) := by
    congr 1
    funext i
    rw [stepB_map, stepB_map, h]
  rw [hs]
theorem isM_rel {w w' : World} {m m' : Mg} {c c' : Mc} (hm : MgAt w m c) (hm' : MgAt w' m' c') (h : toMq m' c' = toMq m c) : isM m' c' = isM m c := by
  have hw : m'.toWd = m.toWd := congrArg Mq.w h
  have hv : toVp (m'.vt, c'.vt) = toVp (m.vt, c.vt) := congrArg Mq.vt h
  have hvs : c'.vs.map toVp = c.vs.map toVp := congrArg Mq.vs h
  have hsm : c'.sm = c.sm := congrArg Mq.sm h
  have hdt : c'.dt = c.dt := congrArg Mq.dt h
  have hk : m'.k = m.k := congrArg Wd.k hw
  have hf : m'.f = m.f := congrArg Wd.f hw
  have ht : m'.t = m.t := congrArg Wd.t hw
  have he : m'.e = m.e := congrArg Wd.e hw
  have hvw : m'.vw = m.vw := congrArg Wd.vw hw
  have hsq : m'.sq = m.sq := congrArg Wd.sq hw
  have hrq : m'.rq = m.rq := congrArg Wd.rq hw
  have hct : m'.ct = m.ct := congrArg Wd.ct hw
  have hpg : m'.pg = m.pg := congrArg Wd.pg hw
  have hvf : m'.vt.f = m.vt.f := congrArg Vp.f hv
  have hve : m'.vt.e = m.vt.e := congrArg Vp.e hv
  have row_n : ∀ {w : World} {v : Sl} {xs : List Int}, Row w 1 (fun x => [Value.int .u64 x]) v.val xs → v.n = xs.length := fun hr => by
    obtain ⟨ao, cap, e, _⟩ := hr
    injection e
  have hsn : m'.sm.n = m.sm.n := by rw [row_n hm'.sm, row_n hm.sm, hsm]
  have hdn : m'.dt.n = m.dt.n := by rw [hm'.dt.1, hm.dt.1, hdt]
  have hbare : sameM m' c' (m'.bare (partsOf m.k)) (c'.bare (partsOf m.k)) = sameM m c (m.bare (partsOf m.k)) (c.bare (partsOf m.k)) := by
    have key : ∀ (m : Mg) (c : Mc) (ps : List Int), (∀ p ∈ ps, 0 ≤ p ∧ p ≤ 10) → toMq (m.bare ps) (c.bare ps) = ps.foldl (qStep (toMq m c)) (zeroQ m.k m.f m.t m.e) := fun m c ps hp => toMq_fold m c ps hp m.head Mc.nil
    rw [Bool.eq_iff_iff, sameM_iff, sameM_iff, key m' c' _ (partsOf_le _), key m c _ (partsOf_le _), h, hk, hf, ht, he]
  have hhead : headB m' = headB m := by unfold headB; rw [hk, hf, ht, he]
  have hreq : reqB m' = reqB m := by unfold reqB; rw [hk, hf, ht, hrq]
  have hfit : ∀ a b p, fitB m' a b p = fitB m a b p := fun a b p => by
    unfold fitB
    rw [hk, hvw, hsq, hreq, hct, he, hpg, hvf, hf, hve, hsn, hdn]
  unfold isM isB
  rw [hk, hvw, voteB_rel hv, fitVsB_rel m.vw hvs, hbare, hhead]
  have hall : (partsOf m.k).all (fitB m' (voteB m.vt c.vt) (fitVsB c.vs m.vw)) = (partsOf m.k).all (fitB m (voteB m.vt c.vt) (fitVsB c.vs m.vw)) := by
    congr 1
    funext p
    exact hfit _ _ p
  rw [hall]

def AllB (l : List Int) : Prop := ∀ x ∈ l, isByte x
theorem AllB.app {a b : List Int} (ha : AllB a) (hb : AllB b) : AllB (a ++ b) := fun x hx => by
  rw [List.mem_append] at hx
  rcases hx with hx | hx
  · exact ha x hx
  · exact hb x hx
theorem AllB.one {x : Int} (h : isByte x) : AllB [x] := fun y hy => by
  rw [List.mem_singleton] at hy
  subst hy
  exact h
theorem AllB.flat {α : Type} {f : α → List Int} {l : List α} (h : ∀ x ∈ l, AllB (f x)) : AllB (l.flatMap f) := fun y hy => by
  obtain ⟨x, hx, hy⟩ := List.mem_flatMap.1 hy
  exact h x hx y hy
theorem allB_b2 (x : Int) : AllB (b2 x) := fun y hy => by
  simp only [b2, List.mem_cons, List.not_mem_nil, or_false] at hy
  unfold isByte
  rcases hy with rfl | rfl <;> omega
theorem allB_b4 (x : Int) : AllB (b4 x) := fun y hy => by
  simp only [b4, List.mem_cons, List.not_mem_nil, or_false] at hy
  unfold isByte
  rcases hy with rfl | rfl | rfl | rfl <;> omega
theorem allB_be8 (x : Int) : AllB (be8 x) := fun y hy => by
  simp only [be8, List.mem_cons, List.not_mem_nil, or_false] at hy
  unfold isByte
  rcases hy with rfl | rfl | rfl | rfl | rfl | rfl | rfl | rfl <;> omega
theorem allB_rq (q : Rq) (h : q.ok) : AllB q.bytes := (AllB.one h.1).app ((allB_b4 _).app ((AllB.one h.2.2.1).app ((AllB.one h.2.2.2.1).app (allB_b2 _))))
theorem allB_en (x : En) (h : x.ok) : AllB (enB x) := (allB_b4 _).app ((allB_b4 _).app (allB_rq _ h.2.2))
theorem allB_mk (x : Mk) : AllB (mkB x) := (allB_b4 _).app (allB_be8 _)
theorem len_byte {n : Nat} (h : n ≤ 255) : isByte (n : Int) := by unfold isByte; omega
theorem allB_vote (v : Vt) (c : Vc) (hv : v.ok) (hc : c.ok) (hf : c.few) : AllB (voteY v c) := by
  obtain ⟨f1, f2, f3⟩ := hf
  exact (AllB.one hv.1).app ((AllB.one hv.2.1).app ((allB_b4 _).app ((allB_b4 _).app (((AllB.one (len_byte (by omega))).app (AllB.flat (fun x _ => allB_mk x))).app (((AllB.one (len_byte (by omega))).app (AllB.flat (fun x hx => allB_en x (hc.2.1 x hx)))).app ((AllB.one (len_byte (by omega))).app (AllB.flat (fun x hx => allB_en x (hc.2.2 x hx)))))))))
theorem allB_word (m : Mg) (c : Mc) (h : MgOk m c) (p : Int) : AllB (wordB m p) := by
  unfold wordB
  split
  · exact allB_b4 _
  split
  · exact allB_b4 _
  split
  · exact allB_rq _ h.rq
  split
  · exact allB_be8 _
  split
  · exact AllB.one h.ct
  split
  · exact AllB.one h.pg
  · exact allB_b4 _
theorem allB_enc {w : World} {m : Mg} {c : Mc} (hm : MgAt w m c) (hok : MgOk m c) (hi : isM m c = true) : AllB (encM m c) := by
  have hs := isM_short hm hi
  have hp : ∀ p ∈ partsOf m.k, AllB (partY m c p) := fun p hp => by
    obtain ⟨s7, s8, s9, s10⟩ := hs p hp
    unfold partY
    split
    · next e => exact allB_vote _ _ hok.vt.1 hok.vt.2 (s7 e)
    split
    · next _ e =>
      obtain ⟨h4, hf⟩ := s8 e
      exact (AllB.one (len_byte (by omega))).app (AllB.flat (fun x hx => allB_vote _ _ (hok.vs x hx).1 (hok.vs x hx).2 (hf x hx)))
    split
    · exact AllB.flat (fun x _ => allB_be8 x)
    split
    · next _ _ _ e =>
      have h64 := s10 e
      refine AllB.app (fun y hy => ?_) (fun x hx => hm.dt.2.2.2.2.2 x hx)
      simp only [List.mem_cons, List.not_mem_nil, or_false] at hy
      unfold isByte
      rcases hy with rfl | rfl <;> omega
    · exact allB_word m c hok p
  have hh : AllB [m.k, m.f, m.t, m.e] := fun x hx => by
    simp only [List.mem_cons, List.not_mem_nil, or_false] at hx
    rcases hx with rfl | rfl | rfl | rfl
    · exact hok.k
    · exact hok.f
    · exact hok.t
    · exact hok.e
  exact hh.app (AllB.flat hp)
end Go.Proofs.YtbpfkeeikhhlnaaGreatDoor
