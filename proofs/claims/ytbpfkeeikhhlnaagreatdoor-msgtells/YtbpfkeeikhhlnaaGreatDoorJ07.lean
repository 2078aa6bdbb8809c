/- The document's list of entries. The bytes of every message. The document's vote. -/
import Derived.Test.YtbpfkeeikhhlnaaGreatDoorJ06
import Derived.Test.YtbpfkeeikhhlnaaGreatDoorJ04
namespace Go.Proofs.YtbpfkeeikhhlnaaGreatDoor
open Go.RowKit
set_option maxRecDepth 100000

theorem rqm_load {w' : World} {b o : Nat} {r : Rq} (G : ∀ i u, r.cells[i]? = some u → w'.cell? ⟨b, o + i, none⟩ = some u) : (Instr.loadAt 27 (.pointer (some ⟨b, o, none⟩))).run Tryz.prog w' = .ok (.agg r.cells.toArray) w' :=
  run_loadAt_mid (P := Tryz.prog) w' b o 27 r.cells _ (fun j v hv => G j v hv) Tryz.underlying27 rfl (by kernel_rfl)
theorem take_next {α : Type} {xs : List α} {j : Nat} {x : α} (hx : xs[j]? = some x) (f : α → List Int) : (xs.take (j + 1)).flatMap f = (xs.take j).flatMap f ++ f x := by
  rw [List.take_add_one, hx]; simp
/-- the cells of a row at an address -/
def RowC {α : Type} (wx : World) (k : Nat) (enc : α → List Value) (xs : List α) (b o : Nat) : Prop := ∀ j x, xs[j]? = some x → ∀ i u, (enc x)[i]? = some u → wx.cell? ⟨b, o + j * k + i, none⟩ = some u
theorem Row.cells {α : Type} {w : World} {k : Nat} {enc : α → List Value} {v : Sl} {xs : List α} (h : Row w k enc v.val xs) (hl : 0 < xs.length) : ∃ b o, v.a = some ⟨b, o, none⟩ ∧ RowC w k enc xs b o := by
  obtain ⟨a, c, e, -, -, -, hr⟩ := h
  simp only [Sl.val, Value.slice.injEq] at e
  obtain ⟨b, o, ha, -⟩ := hr 0 xs[0] (List.getElem?_eq_getElem hl)
  refine ⟨b, o, e.1.trans ha, fun j x hx i u hu => ?_⟩
  obtain ⟨b', o', ha', hr'⟩ := hr j x hx
  rw [ha] at ha'
  injection ha' with ha'
  injection ha' with e1 e2
  subst e1 e2
  exact hr' i u hu
theorem Row.len {α : Type} {w : World} {k : Nat} {enc : α → List Value} {v : Sl} {xs : List α} (h : Row w k enc v.val xs) : v.n = xs.length := by
  obtain ⟨a, c, e, -⟩ := h
  simp only [Sl.val, Value.slice.injEq] at e
  exact e.2.1
/-- an entry's numbers are in range -/
def EnR (x : En) : Prop := (0 ≤ x.s ∧ x.s ≤ 4294967295) ∧ (0 ≤ x.v ∧ x.v ≤ 4294967295) ∧ x.rq.ok

set_option maxHeartbeats 8000000 in
theorem refList_any {w : World} {ao : Option Addr} {n c : Nat} {l : List Int} (h : w.ownsRow 0 5 1 (.slice ao n c) n (vals l)) (v : Sl) (xs : List En) (hrow : ∀ wx a n' c' l', GR w (.slice ao n c) wx a n' c' l' → Row wx 7 En.cells v.val xs) (hok : ∀ x ∈ xs, EnR x) (hl : xs.length ≤ 40) (hn : n ≤ 700000) :
    Calls Tryz.prog 72 #[.slice ao n c, .slice v.a v.n v.c] w fun e w' => ∃ ao' c', e = .returned (.slice ao' (n + 1 + 17 * xs.length) c') ∧ GR w (.slice ao n c) w' ao' (n + 1 + 17 * xs.length) c' (l ++ entsB xs) := by
  have M0 := GR.start h
  have hlen := (hrow _ _ _ _ _ M0).len
  have hw8 : IntKind.u8.wrap (v.n : Int) = v.n := by
    have : IntKind.u8.wrap (v.n : Int) = (v.n : Int) % 256 := rfl
    omega
  have hnb : (v.n : Int) ≤ 40 := by omega
  obtain ⟨m, hm⟩ : ∃ m, m = v.n := ⟨_, rfl⟩
  rw [← hm] at hlen hw8 hnb ⊢
  rw [← hlen]
  have HR := Lib.hid hrow
  have HOK := Lib.hid hok
  have HL := Lib.hid hlen
  have HM := Lib.hid M0
  clear hrow hok hlen h M0 hm
  go_enter Tryz.func72, Tryz.ntmps72
  have B1 : Below w.heap.size w (w.alloc (.cells #[.int .u8 (m : Int)] 5)) := (Below.refl _ _).alloc (Nat.le_refl _) _
  have hO := HM.out.below B1
  have HO := Lib.hid hO
  clear hO B1
  go_wp2_with (at_builtin
               refine wpList_app _ rfl (.tmp 6) (.tmp 10) rfl (.slice ao n c) n l rfl HO.out.own (some ⟨w.heap.size, 0, none⟩) 1 1 [(m : Int)] rfl rfl (bytes_new w [(m : Int)] 5) (by intro h; cases h) (by omega) ?_
               intro a0 c0 w1 ho1 hk1 hg1
               have M1 := Lib.hid (HO.out.step ho1 hk1 (hg1.elim .inl (fun e => .inr ⟨_, e, Nat.le_refl _⟩)))
               clear ho1 hk1 hg1)
  go_loopw [0, 5] (fun v0 v5 wr => ∃ (j : Nat) (a1 : Option Addr) (c1 : Nat), v0 = .slice a1 (n + 1 + 17 * j) c1 ∧ v5 = .int .i64 j ∧ j ≤ m ∧ Hid (GR w (.slice ao n c) wr a1 (n + 1 + 17 * j) c1 (l ++ [(m : Int)] ++ (xs.take j).flatMap enB))) (fun _ v5 _ => m - (intOf v5).toNat)
  case atStart => exact ⟨0, a0, c0, rfl, rfl, by omega, Lib.hid (by simpa using M1.out)⟩
  case round =>
    obtain ⟨j, a1, c1, rfl, rfl, hj, I⟩ := hrel
    by_cases hjm : j < m
    · have hjm' : (j : Int) < m := by omega
      obtain ⟨x, hx⟩ : ∃ x, xs[j]? = some x := ⟨_, List.getElem?_eq_getElem (by rw [← HL.out]; exact hjm)⟩
      obtain ⟨b, o, ha, _⟩ := (HR.out _ _ _ _ _ I.out).cells (by rw [← HL.out]; omega)
      have HS := Lib.hid (fun wx a n' c' l' (g : GR w (.slice ao n c) wx a n' c' l') => show RowC wx 7 En.cells xs b o by
        obtain ⟨b', o', ha', hc⟩ := (HR.out _ _ _ _ _ g).cells (by rw [← HL.out]; omega)
        rw [ha] at ha'
        injection ha' with ha'
        injection ha' with e1 e2
        subst e1 e2
        exact hc)
      have hxo := HOK.out x (List.mem_of_getElem? hx)
      have hws : IntKind.u64.wrap x.s = x.s := by rw [IntKind.wrap_u64]; unfold EnR at hxo; omega
      have hwv : IntKind.u64.wrap x.v = x.v := by rw [IntKind.wrap_u64]; unfold EnR at hxo; omega
      have HXO := Lib.hid hxo
      have HX := Lib.hid hx
      have ID := I.out.below (Below.refl _ _).drew
      have ID := Lib.hid ID
      rw [ha]
      clear hx hxo ha
      obtain ⟨q, hq⟩ : ∃ q, q = n + 1 + 17 * j := ⟨_, rfl⟩
      rw [← hq] at I ID ⊢
      have hqb : q ≤ 700700 := by omega
      have HQ := Lib.hid hq
      clear hq
      go_wp2_with fail
      refine wp_region_held_drew (S := fun wx => RowC wx 7 En.cells xs b o) (by kernel_rfl) ((HS.out _ _ _ _ _ ID.out)) (fun hS => ?_)
      refine tm 0 (.slice a1 q c1) rfl hS ?_
      refine tm 1 (.slice (some ⟨b, o, none⟩) m v.c) rfl hS ?_
      refine tm 2 (.int .i64 ↑j) rfl hS ?_
      refine tg 3 (.pointer (some ⟨b, o + j * 7, none⟩)) rfl hS ?_
      refine tg 4 (.pointer (some ⟨b, o + j * 7, none⟩)) rfl hS ?_
      refine tk 5 (.int .u32 x.s) rfl (yi_load 22 (.tmp 22) (.pointer (some ⟨b, o + j * 7, none⟩)) rfl rfl rfl (fun wq hw => by have q : wq.cell? ⟨b, o + j * 7, none⟩ = some (.int .u32 x.s) := hw j x HX.out 0 _ rfl; go_simp)) hS ?_
      refine tk 6 (.int .u64 x.s) rfl (.inl ⟨rfl, fun _ _ => by go_simp <;> first | exact hws | exact hwv⟩) hS ?_
      refine tm 8 (.slice (some ⟨b, o, none⟩) m v.c) rfl hS ?_
      refine tm 9 (.int .i64 ↑j) rfl hS ?_
      refine tg 10 (.pointer (some ⟨b, o + j * 7, none⟩)) rfl hS ?_
      refine tg 11 (.pointer (some ⟨b, o + j * 7 + 1, none⟩)) rfl hS ?_
      refine tk 12 (.int .u32 x.v) rfl (yi_load 22 (.tmp 29) (.pointer (some ⟨b, o + j * 7 + 1, none⟩)) rfl rfl rfl (fun wq hw => by have q : wq.cell? ⟨b, o + j * 7 + 1, none⟩ = some (.int .u32 x.v) := hw j x HX.out 1 _ rfl; go_simp)) hS ?_
      refine tk 13 (.int .u64 x.v) rfl (.inl ⟨rfl, fun _ _ => by go_simp <;> first | exact hws | exact hwv⟩) hS ?_
      refine tm 15 (.slice (some ⟨b, o, none⟩) m v.c) rfl hS ?_
      refine tm 16 (.int .i64 ↑j) rfl hS ?_
      refine tg 17 (.pointer (some ⟨b, o + j * 7, none⟩)) rfl hS ?_
      refine tg 18 (.pointer (some ⟨b, o + j * 7 + 2, none⟩)) rfl hS ?_
      refine tk 19 (.agg x.rq.cells.toArray) rfl (yi_load 27 (.tmp 36) (.pointer (some ⟨b, o + j * 7 + 2, none⟩)) rfl rfl rfl (fun wq hw => rqm_load (fun i u hu => by have q := hw j x HX.out (2 + i) u (by rw [← hu, Nat.add_comm 2 i]; rfl); rwa [← Nat.add_assoc] at q))) hS ?_
      refine wpAnyH_ready (rs := [7]) (by kernel_rfl) (by simp) ?_
      refine AllReadyH.cons rfl (fun K hK => ?_) AllReadyH.nil
      rw [if_pos (by rfl)]
      go_simp
      refine Calls.mono ((put_e ID.out x.s 4 (q + 4) (by decide) (by omega) rfl)) ?_
      rintro e w2 ⟨a2, c2, rfl, M2⟩
      refine hK.out _ _ ((HS.out _ _ _ _ _ M2)) (fun hS => ?_)
      clear hK K
      refine wpAnyH_ready (rs := [14]) (by kernel_rfl) (by simp) ?_
      refine AllReadyH.cons rfl (fun K hK => ?_) AllReadyH.nil
      rw [if_pos (by rfl)]
      go_simp
      refine Calls.mono ((put_e M2 x.v 4 (q + 4 + 4) (by decide) (by omega) rfl)) ?_
      rintro e w3 ⟨a3, c3, rfl, M3⟩
      refine hK.out _ _ ((HS.out _ _ _ _ _ M3)) (fun hS => ?_)
      clear hK K
      refine wpAnyH_ready (rs := [20]) (by kernel_rfl) (by simp) ?_
      refine AllReadyH.cons rfl (fun K hK => ?_) AllReadyH.nil
      rw [if_pos (by rfl)]
      go_simp
      refine Calls.mono ((refReq_any M3.own x.rq HXO.out.2.2 (by omega))) ?_
      rintro e w4 ⟨a4, c4, rfl, R4⟩
      have M4 := M3.trans R4
      refine hK.out _ _ ((HS.out _ _ _ _ _ M4)) (fun hS => ?_)
      clear hK K
      refine tm 21 (.slice a4 (q + 4 + 4 + 9) c4) rfl hS ?_
      refine wpAnyH_done (by kernel_rfl) ?_ _
      have M5 := Lib.hid M4
      clear hS M2 M3 M4 R4
      go_wp2_with fail
      have hq := HQ.out
      refine ⟨⟨j + 1, a4, c4, by rw [show n + 1 + 17 * (j + 1) = q + 4 + 4 + 9 by omega], by go_num, by omega, Lib.hid ?_⟩, by simp [intOf]; omega⟩
      rw [show n + 1 + 17 * (j + 1) = q + 4 + 4 + 9 by omega, take_next HX.out]
      have e : l ++ [(m : Int)] ++ (List.take j xs).flatMap enB ++ be x.s 4 ++ be x.v 4 ++ x.rq.bytes = l ++ [(m : Int)] ++ ((List.take j xs).flatMap enB ++ enB x) := by
        simp [enB, be_4]
      rw [← e]
      exact M5.out
    · have hjm' : ¬ (j : Int) < m := by omega
      obtain rfl : m = j := by omega
      go_wp2_with fail
      go_ret
      refine ⟨a1, c1, rfl, ?_⟩
      have q := I.out
      rw [show List.take m xs = xs from List.take_of_length_le (by rw [← HL.out]; exact Nat.le_refl _), List.append_assoc, show [(m : Int)] ++ xs.flatMap enB = entsB xs by rw [HL.out]; rfl] at q
      exact q
end Go.Proofs.YtbpfkeeikhhlnaaGreatDoor
namespace Go.Proofs.YtbpfkeeikhhlnaaGreatDoor
open Go.RowKit
set_option maxRecDepth 100000

set_option maxHeartbeats 8000000 in
theorem encode_fro (w : World) (m : Mg) (ib : Bool) (pb : Int → List Int) (hpb : ∀ p ∈ partsOf m.k, (pb p).length ≤ 100000)
    (hi : ∀ w1, Below w.heap.size w w1 → Calls Tryz.prog 10 #[.agg m.cells.toArray] w1 fun e w2 => e = .returned (.bool ib) ∧ Below w1.heap.size w1 w2)
    (hw : ib = true → ∀ p ∈ partsOf m.k, ∀ W0 w1 B g xs, Below w.heap.size w w1 → Fro w W0 B g → Wrote W0 B g xs w1 → xs.length ≤ 400000 → Calls Tryz.prog 26 #[.pointer (some ⟨B, 0, none⟩), .agg m.cells.toArray, .int .u8 p] w1 fun e w2 => e = .returned (.tuple #[]) ∧ Wrote W0 B g (xs ++ pb p) w2) :
    Calls Tryz.prog 8 #[.agg m.cells.toArray] w fun e w' => EncDone w w' ib (encUp m pb (partsOf m.k)) e := by
  have hpl := partsOf_len m.k
  have CP := Lib.hid (parts_new m.k)
  generalize hPS : partsOf m.k = ps at *
  obtain ⟨W, hW⟩ : ∃ W, W = w.alloc (.cells m.cells.toArray 37) := ⟨_, rfl⟩
  have hbx : W.heap[w.heap.size]? = some (.cells m.cells.toArray 37 (0, 0)) := by rw [hW]; exact heap_alloc_new _ _
  have hbl : Below w.heap.size w W := by rw [hW]; exact (Below.refl _ _).alloc (Nat.le_refl _) _
  have HBX := Lib.hid hbx
  have HBL := Lib.hid hbl
  have HW := Lib.hid hW
  have HI := Lib.hid hi
  have HWR := Lib.hid hw
  have HPB := Lib.hid hpb
  clear hW hbx hbl hi hw hpb hPS
  simp only [Mg.cells] at HW ⊢
  go_enter Tryz.func8, Tryz.ntmps8
  go_upto_region 1 with fail
  rw [← HW.out]
  have eA : (#[.int .u8 m.k, .int .u8 m.f, .int .u8 m.t, .int .u8 m.e, .int .u32 m.vw, .int .u32 m.sq, .int .u8 m.rq.c, .int .u32 m.rq.t, .int .u8 m.rq.k, .int .u8 m.rq.y, .int .u16 m.rq.v, .int .u64 m.ro, .int .u8 m.ct, .int .u8 m.pg, .int .u32 m.rs, .int .u8 m.vt.f, .int .u8 m.vt.e, .int .u32 m.vt.vw, .int .u32 m.vt.lo, .slice m.vt.ms.a m.vt.ms.n m.vt.ms.c, .slice m.vt.p.a m.vt.p.n m.vt.p.c, .slice m.vt.q.a m.vt.q.n m.vt.q.c, .slice m.vs.a m.vs.n m.vs.c, .slice m.sm.a m.sm.n m.sm.c, .slice m.dt.a m.dt.n m.dt.c] : Array Value) = m.cells.toArray := rfl
  rw [eA]
  clear eA HW
  have hsz : m.cells.toArray.size = 25 := rfl
  have HQ := Lib.hid (fun (w' : World) (h : w'.heap[w.heap.size]? = some (.cells m.cells.toArray 37 (0, 0))) (i : Nat) => cell_box h i)
  generalize hA : m.cells.toArray = A at *
  have HSZ := Lib.hid hsz
  clear hA hsz
  refine wp_region_lit ?_
  refine wpList_load_row rfl 37 (.tmp 1) rfl w.heap.size rfl 37 _ (0, 0) _ HBX.out Tryz.underlying37 rfl (by rw [HSZ.out]; exact size37) ?_
  go_wp2_with fail
  refine Calls.mono (HI.out _ HBL.out) ?_
  rintro e w1 ⟨rfl, hb1⟩
  have B1 := Lib.hid (HBL.out.trans (hb1.mono HBL.out.size))
  have X1 := Lib.hid ((hb1.block w.heap.size (lt_of_block HBX.out)).trans HBX.out)
  clear hb1
  cases ib
  · go_wp2_with fail
    go_ret2
    exact ⟨fun _ => rfl, (fun h => by cases h), (fun h => by cases h), B1.out⟩
  · go_wp2_with fail
    refine Calls.mono (new_any _) ?_
    rintro e w2 ⟨rfl, rfl⟩
    have hxb : (w1.alloc (.cells #[.slice none 0 0] 107)).heap[w.heap.size]? = some (.cells A 37 (0, 0)) := by rw [heap_alloc_old _ _ (lt_of_block X1.out)]; exact X1.out
    have B2 := B1.out.alloc (Nat.le_of_lt (lt_of_block X1.out)) (.cells #[.slice none 0 0] 107)
    have S0 := Wrote.start (wr_new w1)
    have hlt : w.heap.size < w1.heap.size := lt_of_block X1.out
    generalize hW2 : w1.alloc (.cells #[.slice none 0 0] 107) = W2 at *
    generalize hBB : w1.heap.size = B at *
    have hw2s : B < W2.heap.size := by rw [← hW2, ← hBB]; simp
    have HB2 := Lib.hid B2
    have H0 := Lib.hid S0
    have HXB := Lib.hid hxb
    have HST := Lib.hid (fun ys w' (h : Wrote W2 B none ys w') => h.stay hxb (by omega) (by intro e; cases e))
    have q : W2.cell? ⟨w.heap.size, 0, none⟩ = some (.int .u8 m.k) := HQ.out _ hxb 0
    clear B2 S0 hxb hW2 hBB
    go_wp2_with fail
    clear q
    refine Calls.mono (u8_wr W2 _ B none _ m.k H0.out (by simp)) ?_
    rintro e v1 ⟨rfl, h1⟩
    have p := HST.out _ _ h1
    have H1 := Lib.hid h1
    have q : v1.cell? ⟨w.heap.size, 1, none⟩ = some (.int .u8 m.f) := HQ.out _ p 1
    clear h1 p
    go_wp2_with fail
    clear q
    refine Calls.mono (u8_wr W2 _ B none _ m.f H1.out (by simp)) ?_
    rintro e v2 ⟨rfl, h1⟩
    have p := HST.out _ _ h1
    have H2 := Lib.hid h1
    have q : v2.cell? ⟨w.heap.size, 2, none⟩ = some (.int .u8 m.t) := HQ.out _ p 2
    clear h1 p
    go_wp2_with fail
    clear q
    refine Calls.mono (u8_wr W2 _ B none _ m.t H2.out (by simp)) ?_
    rintro e v3 ⟨rfl, h1⟩
    have p := HST.out _ _ h1
    have H3 := Lib.hid h1
    have q : v3.cell? ⟨w.heap.size, 3, none⟩ = some (.int .u8 m.e) := HQ.out _ p 3
    clear h1 p
    go_wp2_with fail
    clear q
    refine Calls.mono (u8_wr W2 _ B none _ m.e H3.out (by simp)) ?_
    rintro e v4 ⟨rfl, h1⟩
    have p := HST.out _ _ h1
    have q : v4.cell? ⟨w.heap.size, 0, none⟩ = some (.int .u8 m.k) := HQ.out _ p 0
    have H4 := Lib.hid h1
    have X4 := Lib.hid p
    clear h1 p
    go_wp2_with fail
    clear q
    refine Calls.mono (CP.out _) ?_
    rintro e wp ⟨ao, rfl, hby, hnb, hbp⟩
    obtain ⟨g1, hwr4, hk4, hg4⟩ := H4.out
    have hg1b : ∀ k, g1 = some k → B < k := fun k e => by
      rcases hg4 with e' | ⟨k', e', hk'⟩
      · rw [e'] at e; cases e
      · rw [e'] at e; injection e with e; omega
    have hgx : g1 ≠ some w.heap.size := fun e => by have := hg1b _ e; omega
    have hglt : ∀ k, g1 = some k → k < v4.heap.size := fun k e => by
      obtain ⟨a5, n5, c5, hb5, ho5, h51, h52⟩ := hwr4
      exact own_lt ho5 (h51.trans e)
    have hBlt : B < v4.heap.size := hwr4.lt
    have hxp : wp.heap[w.heap.size]? = some (.cells A 37 (0, 0)) := (hbp.block _ (lt_of_block X4.out)).trans X4.out
    have BWP : Below w.heap.size w wp := HB2.out.trans ((H4.out.new hbp).bel (H := w.heap.size) (by omega) (by omega) (fun k e => by cases e))
    have HFRO : Hid (Fro w wp B g1) := Lib.hid ⟨BWP, by omega, fun k e => by have := hg1b k e; omega⟩
    have S4 := Lib.hid (Wrote.start (hwr4.below hbp))
    have HKB := Lib.hid (fun ys w' (h : Wrote wp B g1 ys w') => BWP.trans (h.bel (H := w.heap.size) BWP.size (by omega) (fun k e => by have := hg1b k e; omega)))
    have HKX := Lib.hid (fun ys w' (h : Wrote wp B g1 ys w') => h.stay hxp (by omega) hgx)
    have HKP := Lib.hid (fun ys w' (h : Wrote wp B g1 ys w') => by
      obtain ⟨g2, _, hk2, _⟩ := h
      exact bytes_kept hby hk2 (fun ad e _ hS => by
        have e1 := hnb ad e
        rcases hS with hS | hS
        · omega
        · have := hglt _ hS.symm; omega))
    clear hwr4 hk4 hg4 hg1b hgx hglt hBlt hxp BWP hby hnb hbp
    generalize hln : ps.length = n at *
    have HLN := Lib.hid hln
    clear hln
    go_wp2_with fail
    go_loopw [6, 32] (fun _ vi wr => ∃ j : Nat, j ≤ n ∧ vi = .int .i64 j ∧ Hid (Wrote wp B g1 (encUp m pb (ps.take j)) wr)) (fun _ i _ => n - (intOf i).toNat)
    case atStart => exact ⟨0, by omega, rfl, Lib.hid (by simpa [encUp] using S4.out)⟩
    case round =>
      obtain ⟨j, hj, rfl, HR⟩ := hrel
      by_cases hlt2 : j < n
      · obtain ⟨ad, rfl, hc⟩ := HKP.out _ _ HR.out j (by rw [HLN.out]; exact hlt2)
        obtain ⟨p, hpd⟩ : ∃ p, p = ps.getD j 0 := ⟨_, rfl⟩
        rw [← hpd] at hc
        have hj' : ps[j]? = some p := by rw [hpd, List.getD_eq_getElem?_getD, List.getElem?_eq_getElem (by rw [HLN.out]; exact hlt2)]; rfl
        have hmem : p ∈ ps := List.mem_of_getElem? hj'
        have hs : encUp m pb (ps.take (j + 1)) = encUp m pb (ps.take j) ++ pb p := by rw [List.take_add_one, hj']; simp [encUp, List.flatMap_append]
        have hlen : (encUp m pb (ps.take j)).length ≤ 400000 := by
          have h7 := flat_len pb (ps.take j) (fun q hq => HPB.out q (List.mem_of_mem_take hq))
          have h8 : (ps.take j).length ≤ 3 := by simp; omega
          simp only [encUp, List.length_append, List.length_cons, List.length_nil]
          omega
        have F := Lib.hid (HWR.out (by first | rfl | trivial) p hmem wp wr B g1 _ (HKB.out _ _ HR.out) HFRO.out HR.out hlen)
        have XW := Lib.hid (HKX.out _ _ HR.out)
        have HS := Lib.hid hs
        clear hpd hj' hmem hs hlen
        go_upto_region 11 with fail
        refine wp_region_lit ?_
        refine wpl_val (v := .pointer (some ⟨B, 0, none⟩)) (w1 := wr) rfl (by go_simp) _ rfl ?_
        refine wpList_load_row rfl 37 (.tmp 1) rfl w.heap.size rfl 37 _ (0, 0) _ XW.out Tryz.underlying37 rfl (by rw [HSZ.out]; exact size37) ?_
        go_wp2_with fail
        refine Calls.mono F.out ?_
        rintro e w5 ⟨rfl, h5⟩
        rw [← HS.out] at h5
        have H5 := Lib.hid h5
        clear h5
        go_wp2_with fail
        go_round
        case measure => simp [intOf]; omega
        case rel => exact ⟨j + 1, by omega, by go_num, H5⟩
      · obtain rfl : j = n := by omega
        have hR := HR.out
        rw [List.take_of_length_le (by rw [HLN.out]; exact Nat.le_refl _)] at hR
        have hlen : (encUp m pb ps).length ≤ 400000 := by
          have h7 := flat_len pb ps (fun q hq => HPB.out q hq)
          have h8 := HLN.out
          simp only [encUp, List.length_append, List.length_cons, List.length_nil]
          omega
        have BWR := Lib.hid (HKB.out _ _ hR)
        obtain ⟨g2, hw2, -, -⟩ := hR
        obtain ⟨bs, hbs⟩ : ∃ bs, bs = encUp m pb ps := ⟨_, rfl⟩
        rw [← hbs] at hw2 hlen
        have HBS := Lib.hid hbs
        clear hbs
        have C := Lib.hid (all_any wr B g2 bs hw2 (by omega))
        generalize hbl : bs.length = bl at *
        have HBLN := Lib.hid hbl
        clear hw2 hbl
        go_wp2_with fail
        refine Calls.mono C.out ?_
        rintro e w6 ⟨ao6, c6, rfl, hnew, hb6⟩
        have HNEW := Lib.hid hnew
        have B6 := Lib.hid (BWR.out.trans (hb6.mono BWR.out.size))
        clear hnew hb6
        by_cases hbig : bl ≤ 8000
        · have hbigI : ¬ (bl : Int) > 8000 := by omega
          go_wp2_with fail
          go_ret2
          rw [← HBS.out]
          refine ⟨(fun h => by cases h), fun _ _ => ⟨ao6, c6, ?_, HNEW.out.mono BWR.out.size⟩, (fun _ h => by rw [HBLN.out] at h; omega), B6.out⟩
          rw [HBLN.out]; rfl
        · have hbigI : (bl : Int) > 8000 := by omega
          go_wp2_with fail
          go_ret2
          rw [← HBS.out]
          exact ⟨(fun h => by cases h), (fun _ h => by rw [HBLN.out] at h; omega), (fun _ _ => rfl), B6.out⟩

def votesY (l : List (Vt × Vc)) : List Int := [(l.length : Int)] ++ l.flatMap fun x => voteY x.1 x.2
/-- the bytes of a part -/
def partY (m : Mg) (c : Mc) (p : Int) : List Int := if p = 7 then voteY m.vt c.vt else if p = 8 then votesY c.vs else if p = 9 then c.sm.flatMap be8 else if p = 10 then lenBytes c.dt else wordB m p

def Vc.few (c : Vc) : Prop := c.ms.length ≤ 40 ∧ c.p.length ≤ 40 ∧ c.q.length ≤ 40
theorem voteY_len {v : Vt} {c : Vc} (h : c.few) : (voteY v c).length ≤ 1853 := by
  obtain ⟨h1, h2, h3⟩ := h
  have a1 := marksY_len c.ms
  have a2 := entsB_len c.p
  have a3 := entsB_len c.q
  simp only [voteY, List.length_append, a1, a2, a3, b4, List.length_cons, List.length_nil]
  omega

theorem votes_len {l : List (Vt × Vc)} (h : ∀ x ∈ l, x.2.few) : (l.flatMap fun x => voteY x.1 x.2).length ≤ l.length * 1853 := by
  induction l with
  | nil => simp
  | cons x r ih =>
    have h1 := voteY_len (v := x.1) (h x (by simp))
    have h2 := ih (fun y hy => h y (by simp [hy]))
    simp only [List.flatMap_cons, List.length_append, List.length_cons, Nat.add_mul]
    omega

set_option maxHeartbeats 8000000 in
theorem writeL_wr (w W0 w1 : World) (B : Nat) (g : Option Nat) (xs : List Int) (m : Mg) (c : Mc) (p : Int) (h7 : 7 ≤ p) (h10 : p ≤ 10) (hF : Fro w W0 B g) (hm : MgAt w m c) (h : Wrote W0 B g xs w1) (hl : xs.length ≤ 400000)
    (hv : p = 7 → c.vt.few) (hvs : p = 8 → c.vs.length ≤ 4 ∧ ∀ x ∈ c.vs, x.2.few) (hs : p = 9 → c.sm.length ≤ 100) (hd : p = 10 → c.dt.length ≤ 64) :
    Calls Tryz.prog 26 #[.pointer (some ⟨B, 0, none⟩), .agg m.cells.toArray, .int .u8 p] w1 fun e w2 => e = .returned (.tuple #[]) ∧ Wrote W0 B g (xs ++ partY m c p) w2 := by
  obtain ⟨r, hrr⟩ : ∃ r, r = partY m c p := ⟨_, rfl⟩
  rw [← hrr]
  unfold partY at hrr
  have HR := Lib.hid hrr
  obtain ⟨W, hW⟩ : ∃ W, W = w1.alloc (.cells m.cells.toArray 37) := ⟨_, rfl⟩
  obtain ⟨g0, S0, send, stay, hFF⟩ := h.fresh hW (ob := .cells m.cells.toArray 37 (0, 0)) (by rw [hW]; exact heap_alloc_new _ _)
  have HFW := Lib.hid (hFF w hF)
  have hbx := stay _ _ S0
  have HS0 := Lib.hid S0
  have HEND := Lib.hid send
  have HST := Lib.hid (fun zs w' (h : Wrote W B g0 zs w') (i : Nat) => cell_box (stay zs w' h) i)
  have HM := Lib.hid hm
  have q15 : W.cell? ⟨w1.heap.size, 15, none⟩ = some (.int .u8 m.vt.f) := cell_box hbx 15
  have q16 : W.cell? ⟨w1.heap.size, 16, none⟩ = some (.int .u8 m.vt.e) := cell_box hbx 16
  have q17 : W.cell? ⟨w1.heap.size, 17, none⟩ = some (.int .u32 m.vt.vw) := cell_box hbx 17
  have q18 : W.cell? ⟨w1.heap.size, 18, none⟩ = some (.int .u32 m.vt.lo) := cell_box hbx 18
  have q19 : W.cell? ⟨w1.heap.size, 19, none⟩ = some (.slice m.vt.ms.a m.vt.ms.n m.vt.ms.c) := cell_box hbx 19
  have q20 : W.cell? ⟨w1.heap.size, 20, none⟩ = some (.slice m.vt.p.a m.vt.p.n m.vt.p.c) := cell_box hbx 20
  have q21 : W.cell? ⟨w1.heap.size, 21, none⟩ = some (.slice m.vt.q.a m.vt.q.n m.vt.q.c) := cell_box hbx 21
  have q22 : W.cell? ⟨w1.heap.size, 22, none⟩ = some (.slice m.vs.a m.vs.n m.vs.c) := cell_box hbx 22
  have q23 : W.cell? ⟨w1.heap.size, 23, none⟩ = some (.slice m.sm.a m.sm.n m.sm.c) := cell_box hbx 23
  have q24 : W.cell? ⟨w1.heap.size, 24, none⟩ = some (.slice m.dt.a m.dt.n m.dt.c) := cell_box hbx 24
  have HW := Lib.hid hW
  have HV := Lib.hid hv
  have HVS := Lib.hid hvs
  have HSM := Lib.hid hs
  have HDT := Lib.hid hd
  clear hW hbx hrr h hF hFF hm S0 send stay hv hvs hs hd
  simp only [Mg.cells] at HW ⊢
  go_enter Tryz.func26, Tryz.ntmps26
  go_upto_region 1 with fail
  rw [← HW.out]
  have eA : (#[.int .u8 m.k, .int .u8 m.f, .int .u8 m.t, .int .u8 m.e, .int .u32 m.vw, .int .u32 m.sq, .int .u8 m.rq.c, .int .u32 m.rq.t, .int .u8 m.rq.k, .int .u8 m.rq.y, .int .u16 m.rq.v, .int .u64 m.ro, .int .u8 m.ct, .int .u8 m.pg, .int .u32 m.rs, .int .u8 m.vt.f, .int .u8 m.vt.e, .int .u32 m.vt.vw, .int .u32 m.vt.lo, .slice m.vt.ms.a m.vt.ms.n m.vt.ms.c, .slice m.vt.p.a m.vt.p.n m.vt.p.c, .slice m.vt.q.a m.vt.q.n m.vt.q.c, .slice m.vs.a m.vs.n m.vs.c, .slice m.sm.a m.sm.n m.sm.c, .slice m.dt.a m.dt.n m.dt.c] : Array Value) = m.cells.toArray := rfl
  rw [eA]
  clear eA HW
  generalize hgs : w1.heap.size = gs at *
  have hcase : p = 7 ∨ p = 8 ∨ p = 9 ∨ p = 10 := by omega
  clear h7 h10
  rcases hcase with rfl | rfl | rfl | rfl
  · obtain ⟨f1, f2, f3⟩ := HV.out rfl
    have C := Lib.hid (writeVote_wr w W W B g0 xs m.vt c.vt HFW.out HM.out.vt HS0.out (by omega) f1 f2 f3)
    generalize m.cells.toArray = A
    simp only [Vt.cells] at C
    clear f1 f2 f3 HV HVS HSM HDT
    go_wp2_with fail
    refine Calls.mono C.out ?_
    rintro e w2 ⟨rfl, h1⟩
    have H1 := Lib.hid (HEND.out _ _ h1)
    clear h1
    go_wp2_with fail
    go_end0
    exact ⟨rfl, by rw [HR.out]; exact H1.out⟩
  · obtain ⟨hn4, hfew⟩ := HVS.out rfl
    obtain ⟨⟨a1, c1, qq, -, -, hn1, hr1⟩, hat⟩ := HM.out.vs
    simp only [Sl.val] at qq
    rw [qq] at q22
    have HQ := Lib.hid (fun zs w' (h : Wrote W B g0 zs w') => (HST.out zs w' h 22).trans (show m.cells[22]? = some (.slice a1 c.vs.length c1) by rw [← qq]; rfl))
    generalize m.cells.toArray = A
    have H1 := Lib.hid hr1
    have HAT := Lib.hid hat
    have HFEW := Lib.hid hfew
    have hr2 := HR.out
    simp only [votesY] at hr2
    have HR2 := Lib.hid hr2
    clear hr1 hat hfew qq HV HVS HSM HDT hr2 HR HST
    generalize hn : c.vs.length = n at *
    have HN := Lib.hid hn
    clear hn q15 q16 q17 q18 q19 q20 q21 q23 q24
    go_wp2_with fail
    refine Calls.mono (u8_wr W W B g0 xs n HS0.out (by omega)) ?_
    rintro e v1 ⟨rfl, h1⟩
    have q := HQ.out _ _ h1
    have HV1 := Lib.hid h1
    clear h1 q22
    go_wp2_with fail
    go_loopw [70] (fun vi wr => ∃ j : Nat, j ≤ n ∧ vi = .int .i64 j ∧ Hid (Wrote W B g0 (xs ++ ([(n : Int)] ++ (c.vs.take j).flatMap fun x => voteY x.1 x.2)) wr)) (fun i _ => n - (intOf i).toNat)
    case atStart => exact ⟨0, by omega, rfl, Lib.hid (by simpa using HV1.out)⟩
    case round =>
      obtain ⟨j, hj, rfl, HX⟩ := hrel
      by_cases hlt : j < n
      · obtain ⟨x, hx⟩ : ∃ x, c.vs[j]? = some x := ⟨_, List.getElem?_eq_getElem (by rw [HN.out]; exact hlt)⟩
        obtain ⟨b1, o1, e1, g1⟩ := H1.out j x hx
        have G : ∀ i u, (vcell x)[i]? = some u → wr.cell? ⟨b1, o1 + j * 7 + i, none⟩ = some u := fun i u hu => by
          have h3 := g1 i u hu
          rw [(HFW.out.on HX.out).cell (cell_block h3)]; exact h3
        have hmem : x ∈ c.vs := List.mem_of_getElem? hx
        have hlen : (xs ++ ([(n : Int)] ++ (c.vs.take j).flatMap fun x => voteY x.1 x.2)).length ≤ 409000 := by
          have h5 := votes_len (l := c.vs.take j) (fun y hy => HFEW.out y (List.mem_of_mem_take hy))
          have h6 : (c.vs.take j).length ≤ 4 := by rw [List.length_take]; omega
          simp only [List.length_append, List.length_cons, List.length_nil]; omega
        have hstep : xs ++ ([(n : Int)] ++ (c.vs.take (j + 1)).flatMap fun x => voteY x.1 x.2) = (xs ++ ([(n : Int)] ++ (c.vs.take j).flatMap fun x => voteY x.1 x.2)) ++ voteY x.1 x.2 := by
          rw [List.take_add_one, hx]; simp [List.flatMap_append, List.append_assoc]
        obtain ⟨f1, f2, f3⟩ := HFEW.out x hmem
        obtain ⟨X, hX⟩ : ∃ X, X = wr.alloc (.cells x.1.cells.toArray 32) := ⟨_, rfl⟩
        have hbX : Below wr.heap.size wr X := by rw [hX]; exact (Below.refl _ _).alloc (Nat.le_refl _) _
        have hXn : X.heap[wr.heap.size]? = some (.cells x.1.cells.toArray 32 (0, 0)) := by rw [hX]; exact heap_alloc_new _ _
        have C := Lib.hid (writeVote_wr w W X B g0 _ x.1 x.2 HFW.out (HAT.out x hmem) (HX.out.new hbX) (by omega) f1 f2 f3)
        obtain ⟨x, cx⟩ := x
        have l10 : wr.cell? ⟨b1, o1 + j * 7, none⟩ = some (.int .u8 x.f) := G 0 _ rfl
        have l11 : wr.cell? ⟨b1, o1 + j * 7 + 1, none⟩ = some (.int .u8 x.e) := G 1 _ rfl
        have l12 : wr.cell? ⟨b1, o1 + j * 7 + 2, none⟩ = some (.int .u32 x.vw) := G 2 _ rfl
        have l13 : wr.cell? ⟨b1, o1 + j * 7 + 3, none⟩ = some (.int .u32 x.lo) := G 3 _ rfl
        have l14 : wr.cell? ⟨b1, o1 + j * 7 + 4, none⟩ = some (.slice x.ms.a x.ms.n x.ms.c) := G 4 _ rfl
        have l15 : wr.cell? ⟨b1, o1 + j * 7 + 5, none⟩ = some (.slice x.p.a x.p.n x.p.c) := G 5 _ rfl
        have l16 : wr.cell? ⟨b1, o1 + j * 7 + 6, none⟩ = some (.slice x.q.a x.q.n x.q.c) := G 6 _ rfl
        have HSTEP := Lib.hid hstep
        have HXX := Lib.hid hX
        generalize hts : xs ++ ([(n : Int)] ++ (c.vs.take j).flatMap fun x => voteY x.1 x.2) = ts at *
        simp only [Vt.cells] at HXX C
        clear hx g1 G hX hbX hXn hmem hstep hts f1 f2 f3
        subst e1
        go_wp2_with fail
        rw [← HXX.out]
        refine Calls.mono C.out ?_
        rintro e y1 ⟨rfl, h1⟩
        have HY1 := Lib.hid h1
        clear h1
        go_wp2_with fail
        go_round
        case measure => simp [intOf]; omega
        case rel => exact ⟨j + 1, by omega, by go_num, Lib.hid (by rw [HSTEP.out]; exact HY1.out)⟩
      · obtain rfl : j = n := by omega
        have hR := HX.out
        rw [List.take_of_length_le (by rw [HN.out]; exact Nat.le_refl _)] at hR
        have HRR := Lib.hid (HEND.out _ _ hR)
        clear hR
        go_wp2_with fail
        go_end0
        refine ⟨rfl, ?_⟩
        rw [HR2.out]
        exact HRR.out
  · have hn100 := HSM.out rfl
    obtain ⟨a1, c1, qq, -, -, hn1, hr1⟩ := HM.out.sm
    simp only [Sl.val] at qq
    rw [qq] at q23
    generalize m.cells.toArray = A
    have H1 := Lib.hid hr1
    have hr2 := HR.out
    have HR2 := Lib.hid hr2
    clear hr1 qq HV HVS HSM HDT hr2 HR HST
    generalize hn : c.sm.length = n at *
    have HN := Lib.hid hn
    clear hn q15 q16 q17 q18 q19 q20 q21 q22 q24
    go_wp2_with fail
    go_loopw [83] (fun vi wr => ∃ j : Nat, j ≤ n ∧ vi = .int .i64 j ∧ Hid (Wrote W B g0 (xs ++ (c.sm.take j).flatMap be8) wr)) (fun i _ => n - (intOf i).toNat)
    case atStart => exact ⟨0, by omega, rfl, Lib.hid (by simpa using HS0.out)⟩
    case round =>
      obtain ⟨j, hj, rfl, HX⟩ := hrel
      by_cases hlt : j < n
      · obtain ⟨x, hx⟩ : ∃ x, c.sm[j]? = some x := ⟨_, List.getElem?_eq_getElem (by rw [HN.out]; exact hlt)⟩
        obtain ⟨b1, o1, e1, g1⟩ := H1.out j x hx
        have l10 : wr.cell? ⟨b1, o1 + j, none⟩ = some (.int .u64 x) := by
          have h3 : w.cell? ⟨b1, o1 + j * 1 + 0, none⟩ = some (.int .u64 x) := g1 0 _ rfl
          rw [Nat.mul_one, Nat.add_zero] at h3
          rw [(HFW.out.on HX.out).cell (cell_block h3)]; exact h3
        have hlen : (xs ++ (c.sm.take j).flatMap be8).length ≤ 401000 := by
          simp only [List.length_append, flatMap_len be8_len, List.length_take]; omega
        have hstep : xs ++ (c.sm.take (j + 1)).flatMap be8 = (xs ++ (c.sm.take j).flatMap be8) ++ be8 x := by
          rw [List.take_add_one, hx]; simp [List.flatMap_append, List.append_assoc]
        have HSTEP := Lib.hid hstep
        generalize hts : xs ++ (c.sm.take j).flatMap be8 = ts at *
        clear hx g1 hstep hts
        subst e1
        go_wp2_with fail
        refine Calls.mono (u64_wr W wr B g0 ts x HX.out (by omega)) ?_
        rintro e y1 ⟨rfl, h1⟩
        have HY1 := Lib.hid h1
        clear h1
        go_wp2_with fail
        go_round
        case measure => simp [intOf]; omega
        case rel => exact ⟨j + 1, by omega, by go_num, Lib.hid (by rw [HSTEP.out]; exact HY1.out)⟩
      · obtain rfl : j = n := by omega
        have hR := HX.out
        rw [List.take_of_length_le (by rw [HN.out]; exact Nat.le_refl _)] at hR
        have HRR := Lib.hid (HEND.out _ _ hR)
        clear hR
        go_wp2_with fail
        go_end0
        refine ⟨rfl, ?_⟩
        rw [HR2.out]
        exact HRR.out
  · have hd64 := HDT.out rfl
    obtain ⟨e1, hby, hno, hcap, hbig, hbyt⟩ := HM.out.dt
    obtain ⟨g2, hw2, hk2, hg2⟩ := HS0.out
    have hFg2 : ∀ k, g2 = some k → w.heap.size ≤ k := fun k e => by
      rcases hg2 with e' | ⟨k', e', hk'⟩
      · exact HFW.out.hg k (e'.symm.trans e)
      · rw [e'] at e; injection e with e; have := HFW.out.bel.size; omega
    have C := Lib.hid (bytes_any W B g2 xs m.dt.a m.dt.c c.dt hw2 (bytes_below hby HFW.out.bel (Nat.le_refl _)) hcap hno (by omega) (by omega) (fun ad e hp => by
      have h5 : ad.block < w.heap.size := bytes_lt (e ▸ hby) hp
      exact ⟨by have := HFW.out.hB; omega, fun e2 => by have := hFg2 ad.block e2.symm; omega⟩))
    have HTR := Lib.hid (fun ys w' (h : Wrote W B g2 ys w') => HEND.out ys w' (Wrote.trans hk2 hg2 h))
    rw [← e1] at C
    generalize m.cells.toArray = A
    clear e1 hby hno hcap hbig hbyt hw2 hk2 hg2 hFg2 HV HVS HSM HDT
    go_wp2_with fail
    refine Calls.mono C.out ?_
    rintro e w2 ⟨rfl, h1⟩
    have H1 := Lib.hid (HTR.out _ _ h1)
    clear h1
    go_wp2_with fail
    go_end0
    exact ⟨rfl, by rw [HR.out]; exact H1.out⟩

/-- the requests of all its lists are in range -/
def McOk (c : Mc) : Prop := VcOk c.vt ∧ ∀ x ∈ c.vs, VcOk x.2
/-- P3.1, P3.2: a message -/
def isM (m : Mg) (c : Mc) : Bool := isB m c (voteB m.vt c.vt) (fitVsB c.vs m.vw)
/-- P3.3: its bytes -/
def encM (m : Mg) (c : Mc) : List Int := encUp m (partY m c) (partsOf m.k)

theorem is_all (w : World) (m : Mg) (c : Mc) (hm : MgAt w m c) (hok : McOk c) (ht : Tab w) : Calls Tryz.prog 10 #[.agg m.cells.toArray] w fun e w' => e = .returned (.bool (isM m c)) ∧ Below w.heap.size w w' :=
  is_any w m c hm (voteB m.vt c.vt) (fitVsB c.vs m.vw) (fun _ w1 h1 => isVote_any w1 m.vt c.vt (hm.vt.below h1) hok.1 (Tab.on ht h1)) (fun _ w1 h1 => fitVotes_any w1 m.vw m.vs c.vs (hm.vs.below h1) hok.2 (Tab.on ht h1))

theorem upB_few {α : Type} {ok : α → Bool} {ab : α → α → Bool} {l : List α} (h : upB ok ab l = true) : l.length ≤ 40 := by
  unfold upB at h; simp at h; exact h.1
theorem voteB_few {v : Vt} {c : Vc} (h : voteB v c = true) : c.few := by
  unfold voteB at h
  simp only [Bool.and_eq_true] at h
  obtain ⟨-, -, -, -, h1, h2, h3⟩ := h
  exact ⟨upB_few h1, upB_few h2, upB_few h3⟩
theorem fitVsB_few {l : List (Vt × Vc)} {n : Int} (h : fitVsB l n = true) : l.length ≤ 4 ∧ ∀ x ∈ l, x.2.few := by
  unfold fitVsB at h
  simp only [Bool.and_eq_true, decide_eq_true_eq, Bool.not_eq_true', List.any_eq_false] at h
  refine ⟨h.1, fun x hx => ?_⟩
  have h1 := h.2.2 x hx
  unfold vBad at h1
  simp only [Bool.or_eq_true, Bool.not_eq_true', not_or, Bool.not_eq_false] at h1
  exact voteB_few h1.2

theorem isM_fit {m : Mg} {c : Mc} (h : isM m c = true) {p : Int} (hp : p ∈ partsOf m.k) : fitB m (voteB m.vt c.vt) (fitVsB c.vs m.vw) p = true := by
  unfold isM isB at h
  simp only [Bool.and_eq_true, List.all_eq_true] at h
  exact h.2.2.2 p hp

theorem isM_7 {m : Mg} {c : Mc} (h : isM m c = true) (hp : (7 : Int) ∈ partsOf m.k) : c.vt.few := by
  have := isM_fit h hp
  simp [fitB] at this
  exact voteB_few this.1
theorem isM_8 {m : Mg} {c : Mc} (h : isM m c = true) (hp : (8 : Int) ∈ partsOf m.k) : c.vs.length ≤ 4 ∧ ∀ x ∈ c.vs, x.2.few := by
  have := isM_fit h hp
  simp [fitB] at this
  exact fitVsB_few this
theorem isM_9 {w : World} {m : Mg} {c : Mc} (hm : MgAt w m c) (h : isM m c = true) (hp : (9 : Int) ∈ partsOf m.k) : c.sm.length = 8 := by
  have := isM_fit h hp
  simp [fitB] at this
  obtain ⟨a, k, e, _⟩ := hm.sm
  simp only [Sl.val] at e
  injection e with e1 e2 e3
  rw [← e2]; exact this
theorem isM_10 {w : World} {m : Mg} {c : Mc} (hm : MgAt w m c) (h : isM m c = true) (hp : (10 : Int) ∈ partsOf m.k) : c.dt.length ≤ 64 := by
  have := isM_fit h hp
  simp [fitB] at this
  rw [← hm.dt.1]; exact this

theorem wordB_len (m : Mg) (p : Int) : (wordB m p).length ≤ 17 := by
  unfold wordB
  split
  · simp [b4]
  split
  · simp [b4]
  split
  · simp [Rq.bytes, b4, b2]
  split
  · simp [be8_len]
  split
  · simp
  split
  · simp
  · simp [b4]

theorem partY_len {w : World} {m : Mg} {c : Mc} (hm : MgAt w m c) (h : isM m c = true) {p : Int} (hp : p ∈ partsOf m.k) : (partY m c p).length ≤ 9000 := by
  unfold partY
  split
  · rename_i e; subst e
    have := voteY_len (v := m.vt) (isM_7 h hp); omega
  split
  · rename_i _ e; subst e
    obtain ⟨h1, h2⟩ := isM_8 h hp
    have := votes_len h2
    simp only [votesY, List.length_append, List.length_cons, List.length_nil]; omega
  split
  · rename_i _ _ e; subst e
    have := isM_9 hm h hp
    rw [flatMap_len be8_len]; omega
  split
  · rename_i _ _ _ e; subst e
    have := isM_10 hm h hp
    simp only [lenBytes, List.length_append, List.length_cons, List.length_nil]; omega
  · have := wordB_len m p; omega

theorem enc_all (w : World) (m : Mg) (c : Mc) (hm : MgAt w m c) (hok : McOk c) (ht : Tab w) : Calls Tryz.prog 8 #[.agg m.cells.toArray] w fun e w' => EncDone w w' (isM m c) (encM m c) e := by
  cases hi : isM m c with
  | false =>
    refine Calls.mono (encode_fro w m false (fun _ => []) (fun p _ => by simp) (fun w1 h1 => by have := is_all w1 m c (hm.below h1) hok (Tab.on ht h1); rw [hi] at this; exact this) (fun h => by cases h)) ?_
    rintro e w' ⟨h1, h2, h3, h4⟩
    exact ⟨h1, (fun h => by cases h), (fun h => by cases h), h4⟩
  | true =>
    refine encode_fro w m true (partY m c) (fun p hp => by have := partY_len hm hi hp; omega) (fun w1 h1 => by have := is_all w1 m c (hm.below h1) hok (Tab.on ht h1); rw [hi] at this; exact this) (fun _ p hp W0 w1 B g xs hb hF hW hl => ?_)
    obtain ⟨p0, p10⟩ := partsOf_le m.k p hp
    by_cases h7 : 7 ≤ p
    · exact writeL_wr w W0 w1 B g xs m c p h7 p10 hF hm hW hl (fun e => isM_7 hi (e ▸ hp)) (fun e => isM_8 hi (e ▸ hp)) (fun e => by have := isM_9 hm hi (e ▸ hp); omega) (fun e => isM_10 hm hi (e ▸ hp))
    · have e : partY m c p = wordB m p := by
        unfold partY
        rw [if_neg (by omega), if_neg (by omega), if_neg (by omega), if_neg (by omega)]
      rw [e]
      exact write_wr W0 w1 B g xs m p p0 (by omega) hW (by omega)

theorem partY_small {w : World} {m : Mg} {c : Mc} (hm : MgAt w m c) (h : isM m c = true) {p : Int} (hp : p ∈ partsOf m.k) (h8 : p ≠ 8) : (partY m c p).length ≤ 1853 := by
  unfold partY
  split
  · rename_i e; subst e
    exact voteY_len (v := m.vt) (isM_7 h hp)
  split
  · rename_i _ e; subst e
    have := isM_9 hm h hp
    rw [flatMap_len be8_len]; omega
  split
  · rename_i _ _ e; subst e
    have := isM_10 hm h hp
    simp only [lenBytes, List.length_append, List.length_cons, List.length_nil]; omega
  · have := wordB_len m p; omega

theorem parts_8 {k : Int} (h : (8 : Int) ∈ partsOf k) : k = 7 := by
  by_cases h1 : k = 1
  · subst h1; simp [partsOf] at h
  by_cases h2 : k = 2
  · subst h2; simp [partsOf] at h
  by_cases h3 : k = 3
  · subst h3; simp [partsOf] at h
  by_cases h4 : k = 4
  · subst h4; simp [partsOf] at h
  by_cases h5 : k = 5
  · subst h5; simp [partsOf] at h
  by_cases h6 : k = 6
  · subst h6; simp [partsOf] at h
  by_cases h7 : k = 7
  · exact h7
  by_cases h8 : k = 8
  · subst h8; simp [partsOf] at h
  by_cases h9 : k = 9
  · subst h9; simp [partsOf] at h
  by_cases h10 : k = 10
  · subst h10; simp [partsOf] at h
  by_cases h11 : k = 11
  · subst h11; simp [partsOf] at h
  by_cases h12 : k = 12
  · subst h12; simp [partsOf] at h
  by_cases h13 : k = 13
  · subst h13; simp [partsOf] at h
  by_cases h14 : k = 14
  · subst h14; simp [partsOf] at h
  · simp [partsOf, h1, h2, h3, h4, h5, h6, h7, h8, h9, h10, h11, h12, h13, h14] at h

theorem flat_len2 {pb : Int → List Int} {N : Nat} : ∀ ps : List Int, (∀ p ∈ ps, (pb p).length ≤ N) → (ps.flatMap pb).length ≤ N * ps.length
  | [], _ => by simp
  | p :: r, h => by
    have h1 := h p (by simp)
    have h2 := flat_len2 r (fun q hq => h q (by simp [hq]))
    simp only [List.flatMap_cons, List.length_append, List.length_cons, Nat.mul_add]
    omega

/-- no message is too long -/
theorem encM_len {w : World} {m : Mg} {c : Mc} (hm : MgAt w m c) (h : isM m c = true) : (encM m c).length ≤ 8000 := by
  by_cases h8 : (8 : Int) ∈ partsOf m.k
  · have hk := parts_8 h8
    obtain ⟨h1, h2⟩ := isM_8 h h8
    have h3 := votes_len h2
    have e : partsOf m.k = [0, 8] := by rw [hk]; rfl
    simp only [encM, encUp, e, List.flatMap_cons, List.flatMap_nil, List.length_append, List.length_cons, List.length_nil]
    have e0 : (partY m c 0).length = 4 := by simp [partY, wordB, b4]
    have e8 : (partY m c 8).length ≤ 7413 := by
      have e9 : partY m c 8 = votesY c.vs := by simp [partY]
      rw [e9]
      simp only [votesY, List.length_append, List.length_cons, List.length_nil]; omega
    omega
  · have h1 := flat_len2 (pb := partY m c) (N := 1853) (partsOf m.k) (fun p hp => partY_small hm h hp (fun e => h8 (e ▸ hp)))
    have h2 := partsOf_len m.k
    simp only [encM, encUp, List.length_append, List.length_cons, List.length_nil]
    omega

/-- Encode: every message -/
theorem enc_ok (w : World) (m : Mg) (c : Mc) (hm : MgAt w m c) (hok : McOk c) (ht : Tab w) : Calls Tryz.prog 8 #[.agg m.cells.toArray] w fun e w' =>
    ((isM m c = false ∧ e = .returned (.tuple #[.slice none 0 0, .int .i64 30])) ∨ (isM m c = true ∧ ∃ ao k, e = .returned (.tuple #[.slice ao (encM m c).length k, .int .i64 0]) ∧ New w.heap.size w' ao k (encM m c))) ∧ Below w.heap.size w w' := by
  refine Calls.mono (enc_all w m c hm hok ht) ?_
  rintro e w' ⟨h1, h2, h3, h4⟩
  refine ⟨?_, h4⟩
  cases hi : isM m c with
  | false => exact .inl ⟨rfl, h1 hi⟩
  | true => exact .inr ⟨rfl, h2 hi (encM_len hm hi)⟩
end Go.Proofs.YtbpfkeeikhhlnaaGreatDoor
namespace Go.Proofs.YtbpfkeeikhhlnaaGreatDoor
open Go.RowKit
set_option maxRecDepth 100000

/-- a mark's numbers are in range -/
def MkR (x : Mk) : Prop := (0 ≤ x.s ∧ x.s ≤ 4294967295) ∧ (0 ≤ x.r ∧ x.r ≤ 18446744073709551615)
/-- a vote's numbers are in range -/
def VtR (v : Vt) (c : Vc) : Prop := (0 ≤ v.vw ∧ v.vw ≤ 4294967295) ∧ (0 ≤ v.lo ∧ v.lo ≤ 4294967295) ∧ (∀ x ∈ c.ms, MkR x) ∧ (∀ x ∈ c.p, EnR x) ∧ ∀ x ∈ c.q, EnR x

set_option maxHeartbeats 16000000 in
theorem refVote_any {w : World} {ao : Option Addr} {n c : Nat} {l : List Int} (h : w.ownsRow 0 5 1 (.slice ao n c) n (vals l)) (v : Vt) (cv : Vc) (hrow : ∀ wx a n' c' l', GR w (.slice ao n c) wx a n' c' l' → VtAt wx v cv) (hok : VtR v cv) (hfew : cv.few) (hn : n ≤ 600000) :
    Calls Tryz.prog 30 #[.slice ao n c, .agg v.cells.toArray] w fun e w' => ∃ k ao' c', e = .returned (.slice ao' k c') ∧ GR w (.slice ao n c) w' ao' k c' (l ++ voteY v cv) ∧ k = n + (voteY v cv).length := by
  obtain ⟨W, hW⟩ : ∃ W, W = w.alloc (.cells #[.int .u8 v.f, .int .u8 v.e, .int .u32 v.vw, .int .u32 v.lo, .slice v.ms.a v.ms.n v.ms.c, .slice v.p.a v.p.n v.p.c, .slice v.q.a v.q.n v.q.c] 32) := ⟨_, rfl⟩
  have hbW : Below w.heap.size w W := by rw [hW]; exact (Below.refl _ _).alloc (Nat.le_refl _) _
  have hoW : W.ownsRow 0 5 1 (.slice ao n c) n (vals l) := own_kept h (Kept.ofBelow (S := fun _ => False) hbW) (fun _ _ h => h)
  have hbx : W.heap[w.heap.size]? = some (.cells #[.int .u8 v.f, .int .u8 v.e, .int .u32 v.vw, .int .u32 v.lo, .slice v.ms.a v.ms.n v.ms.c, .slice v.p.a v.p.n v.p.c, .slice v.q.a v.q.n v.q.c] 32 (0, 0)) := by rw [hW]; exact heap_alloc_new _ _
  have hne : (Value.slice ao n c).ownBlock ≠ some w.heap.size := fun e => by have := own_lt h e; omega
  have BX := Lib.hid (fun wx a n' c' l' (g : GR W (.slice ao n c) wx a n' c' l') => show wx.heap[w.heap.size]? = some (.cells #[.int .u8 v.f, .int .u8 v.e, .int .u32 v.vw, .int .u32 v.lo, .slice v.ms.a v.ms.n v.ms.c, .slice v.p.a v.p.n v.p.c, .slice v.q.a v.q.n v.q.c] 32 (0, 0)) by rw [g.block (lt_of_block hbx) hne]; exact hbx)
  have VA := Lib.hid (fun wx a n' c' l' (g : GR W (.slice ao n c) wx a n' c' l') => hrow wx a n' c' l' (g.early hbW))
  have hlm := ((hrow _ _ _ _ _ (GR.start h)).1).len
  have hws : IntKind.u64.wrap v.vw = v.vw := by rw [IntKind.wrap_u64]; unfold VtR at hok; omega
  have hwv : IntKind.u64.wrap v.lo = v.lo := by rw [IntKind.wrap_u64]; unfold VtR at hok; omega
  have hw8 : IntKind.u8.wrap (v.ms.n : Int) = v.ms.n := by
    have : IntKind.u8.wrap (v.ms.n : Int) = (v.ms.n : Int) % 256 := rfl
    have := hfew.1
    omega
  have hmb : (v.ms.n : Int) ≤ 40 := by have := hfew.1; omega
  obtain ⟨m, hm⟩ : ∃ m, m = v.ms.n := ⟨_, rfl⟩
  rw [← hm] at hlm hw8 hmb
  have HMN := Lib.hid hm
  have HLM := Lib.hid hlm
  have HFEW := Lib.hid hfew
  have HOK := Lib.hid hok
  have M0 := GR.start hoW
  obtain ⟨E, hE⟩ : ∃ E, E = w.heap.size := ⟨_, rfl⟩
  rw [← hE] at BX
  have MD := M0.below (Below.refl _ _).drew
  have HBW := Lib.hid hbW
  have HW := Lib.hid hW
  have HE := Lib.hid hE
  simp only [Vt.cells]
  clear hW hE h hok hbW hoW hbx hne hrow hfew hlm hm
  go_enter Tryz.func30, Tryz.ntmps30
  go_upto_region 1 with fail
  rw [← HW.out, ← HE.out]
  refine wp_region_held_drew (S := fun wx => wx.heap[E]? = some (.cells #[.int .u8 v.f, .int .u8 v.e, .int .u32 v.vw, .int .u32 v.lo, .slice v.ms.a v.ms.n v.ms.c, .slice v.p.a v.p.n v.p.c, .slice v.q.a v.q.n v.q.c] 32 (0, 0))) (by kernel_rfl) ((BX.out _ _ _ _ _ MD)) (fun hS => ?_)
  refine tm 0 (.slice ao n c) rfl hS ?_
  refine tg 1 (.pointer (some ⟨E, 0, none⟩)) rfl hS ?_
  refine tk 2 (.int .u8 v.f) rfl (yi_load 5 (.tmp 7) (.pointer (some ⟨E, 0, none⟩)) rfl rfl rfl (fun wq hw => by have q : wq.cell? ⟨E, 0, none⟩ = some (.int .u8 v.f) := (by rw [cell_of_row _ _ _ _ _ _ hw]; rfl); go_simp)) hS ?_
  refine tg 3 (.pointer (some ⟨E, 1, none⟩)) rfl hS ?_
  refine tk 4 (.int .u8 v.e) rfl (yi_load 5 (.tmp 9) (.pointer (some ⟨E, 1, none⟩)) rfl rfl rfl (fun wq hw => by have q : wq.cell? ⟨E, 1, none⟩ = some (.int .u8 v.e) := (by rw [cell_of_row _ _ _ _ _ _ hw]; rfl); go_simp)) hS ?_
  refine tg 7 (.pointer (some ⟨E, 2, none⟩)) rfl hS ?_
  refine tk 8 (.int .u32 v.vw) rfl (yi_load 22 (.tmp 13) (.pointer (some ⟨E, 2, none⟩)) rfl rfl rfl (fun wq hw => by have q : wq.cell? ⟨E, 2, none⟩ = some (.int .u32 v.vw) := (by rw [cell_of_row _ _ _ _ _ _ hw]; rfl); go_simp)) hS ?_
  refine tk 9 (.int .u64 v.vw) rfl (.inl ⟨rfl, fun _ _ => by go_simp <;> first | exact hws | exact hwv⟩) hS ?_
  refine tg 11 (.pointer (some ⟨E, 3, none⟩)) rfl hS ?_
  refine tk 12 (.int .u32 v.lo) rfl (yi_load 22 (.tmp 17) (.pointer (some ⟨E, 3, none⟩)) rfl rfl rfl (fun wq hw => by have q : wq.cell? ⟨E, 3, none⟩ = some (.int .u32 v.lo) := (by rw [cell_of_row _ _ _ _ _ _ hw]; rfl); go_simp)) hS ?_
  refine tk 13 (.int .u64 v.lo) rfl (.inl ⟨rfl, fun _ _ => by go_simp <;> first | exact hws | exact hwv⟩) hS ?_
  refine wpAnyH_ready (rs := [5]) (by kernel_rfl) (by simp) ?_
  refine AllReadyH.cons rfl (fun K hK => ?_) AllReadyH.nil
  rw [if_pos (by rfl)]
  go_simp
  refine hK.out _ _ ((BX.out _ _ _ _ _ (M0.below (((Below.refl _ _).alloc (Nat.le_refl _) _).drew)))) (fun hS => ?_)
  clear hK K
  refine wpAnyH_ready (rs := [6]) (by kernel_rfl) (by simp) ?_
  refine AllReadyH.cons rfl (fun K hK => ?_) AllReadyH.nil
  rw [if_pos (by rfl)]
  refine app_e (M0.below (((Below.refl _ _).alloc (Nat.le_refl _) _).drew)) (.tmp 6) (.tmp 11) rfl rfl (some ⟨W.heap.size, 0, none⟩) 2 2 [v.f, v.e] rfl rfl (by exact bytes_new _ [v.f, v.e] 5) (by intro h; cases h) (by omega) ?_
  intro a1 c1 w1 M1
  refine hK.out _ _ ((BX.out _ _ _ _ _ M1)) (fun hS => ?_)
  clear hK K
  refine wpAnyH_ready (rs := [10]) (by kernel_rfl) (by simp) ?_
  refine AllReadyH.cons rfl (fun K hK => ?_) AllReadyH.nil
  rw [if_pos (by rfl)]
  go_simp
  refine Calls.mono ((put_e M1 v.vw 4 (n + 2 + 4) (by decide) (by omega) rfl)) ?_
  rintro e w2 ⟨a2, c2, rfl, M2⟩
  refine hK.out _ _ ((BX.out _ _ _ _ _ M2)) (fun hS => ?_)
  clear hK K
  refine wpAnyH_ready (rs := [14]) (by kernel_rfl) (by simp) ?_
  refine AllReadyH.cons rfl (fun K hK => ?_) AllReadyH.nil
  rw [if_pos (by rfl)]
  go_simp
  refine Calls.mono ((put_e M2 v.lo 4 (n + 2 + 4 + 4) (by decide) (by omega) rfl)) ?_
  rintro e w3 ⟨a3, c3, rfl, M3⟩
  refine hK.out _ _ ((BX.out _ _ _ _ _ M3)) (fun hS => ?_)
  clear hK K
  refine tm 15 (.slice a3 (n + 2 + 4 + 4) c3) rfl hS ?_
  refine wpAnyH_done (by kernel_rfl) ?_ _
  have HM3 := Lib.hid M3
  have hl3 := M3
  obtain ⟨q, hq⟩ : ∃ q, q = n + 2 + 4 + 4 := ⟨_, rfl⟩
  rw [← hq] at HM3 ⊢
  have hqb : q ≤ 600010 := by omega
  have HQ := Lib.hid hq
  have q4 : w3.cell? ⟨E, 4, none⟩ = some (.slice v.ms.a m v.ms.c) := by rw [cell_of_row _ _ _ _ _ _ hS, HMN.out]; rfl
  have HO := Lib.hid (HM3.out.below ((Below.refl _ _).alloc (Nat.le_refl _) (.cells #[.int .u8 (m : Int)] 5)))
  clear hS M0 M1 M2 M3 MD hl3 hq hws hwv
  go_upto_region 2 with fail
  go_wp2_with (at_builtin
               refine wpList_app _ rfl (.tmp 21) (.tmp 26) rfl (.slice a3 q c3) q _ rfl HO.out.own (some ⟨w3.heap.size, 0, none⟩) 1 1 [(m : Int)] rfl rfl (bytes_new w3 [(m : Int)] 5) (by intro h; cases h) (by omega) ?_
               intro a4 c4 w4 ho4 hk4 hg4
               have M4 := Lib.hid (HO.out.step ho4 hk4 (hg4.elim .inl (fun e => .inr ⟨_, e, Nat.le_refl _⟩)))
               clear ho4 hk4 hg4)
  go_loopw [0, 5] (fun v0 v5 wr => ∃ (j : Nat) (a1 : Option Addr) (c1 : Nat), v0 = .slice a1 (q + 1 + 12 * j) c1 ∧ v5 = .int .i64 j ∧ j ≤ m ∧ Hid (GR W (.slice ao n c) wr a1 (q + 1 + 12 * j) c1 (l ++ [v.f, v.e] ++ be v.vw 4 ++ be v.lo 4 ++ [(m : Int)] ++ (cv.ms.take j).flatMap mkB))) (fun _ v5 _ => m - (intOf v5).toNat)
  case atStart => exact ⟨0, a4, c4, rfl, rfl, by omega, Lib.hid (by simpa using M4.out)⟩
  case round =>
    clear q4
    obtain ⟨j, a5, c5, rfl, rfl, hj, I⟩ := hrel
    have hbE := BX.out _ _ _ _ _ I.out
    have q4 : wr.cell? ⟨E, 4, none⟩ = some (.slice v.ms.a m v.ms.c) := by rw [cell_of_row _ _ _ _ _ _ hbE, HMN.out]; rfl
    clear hbE
    by_cases hjm : j < m
    · have hjm' : (j : Int) < m := by omega
      obtain ⟨x, hx⟩ : ∃ x, cv.ms[j]? = some x := ⟨_, List.getElem?_eq_getElem (by rw [← HLM.out]; exact hjm)⟩
      obtain ⟨b, o, ha, _⟩ := ((VA.out _ _ _ _ _ I.out).1).cells (by rw [← HLM.out]; omega)
      have HS := Lib.hid (fun wx a n' c' l' (g : GR W (.slice ao n c) wx a n' c' l') => show RowC wx 2 Mk.cells cv.ms b o by
        obtain ⟨b', o', ha', hc⟩ := ((VA.out _ _ _ _ _ g).1).cells (by rw [← HLM.out]; omega)
        rw [ha] at ha'
        injection ha' with ha'
        injection ha' with e1 e2
        subst e1 e2
        exact hc)
      have hxo := HOK.out.2.2.1 x (List.mem_of_getElem? hx)
      have hws : IntKind.u64.wrap x.s = x.s := by rw [IntKind.wrap_u64]; unfold MkR at hxo; omega
      have HX := Lib.hid hx
      have HA := Lib.hid ha
      have ID := I.out.below (Below.refl _ _).drew
      have ID := Lib.hid ID
      rw [ha] at q4
      clear hx hxo ha
      obtain ⟨p, hp⟩ : ∃ p, p = q + 1 + 12 * j := ⟨_, rfl⟩
      rw [← hp] at I ID ⊢
      have hpb : p ≤ 600800 := by omega
      have HP := Lib.hid hp
      clear hp
      go_wp2_with fail
      refine wp_region_held_drew (S := fun wx => wx.heap[E]? = some (.cells #[.int .u8 v.f, .int .u8 v.e, .int .u32 v.vw, .int .u32 v.lo, .slice v.ms.a v.ms.n v.ms.c, .slice v.p.a v.p.n v.p.c, .slice v.q.a v.q.n v.q.c] 32 (0, 0)) ∧ RowC wx 2 Mk.cells cv.ms b o) (by kernel_rfl) (⟨BX.out _ _ _ _ _ ID.out, HS.out _ _ _ _ _ ID.out⟩) (fun hS => ?_)
      refine tm 0 (.slice a5 p c5) rfl hS ?_
      refine tg 1 (.pointer (some ⟨E, 4, none⟩)) rfl hS ?_
      refine tk 2 (.slice (some ⟨b, o, none⟩) m v.ms.c) rfl (yi_load 29 (.tmp 36) (.pointer (some ⟨E, 4, none⟩)) rfl rfl rfl (fun wq hw => by have q : wq.cell? ⟨E, 4, none⟩ = some (.slice (some ⟨b, o, none⟩) m v.ms.c) := (by rw [cell_of_row _ _ _ _ _ _ hw.1, HMN.out, ← HA.out]; rfl); go_simp)) hS ?_
      refine tm 3 (.int .i64 ↑j) rfl hS ?_
      refine tg 4 (.pointer (some ⟨b, o + j * 2, none⟩)) rfl hS ?_
      refine tg 5 (.pointer (some ⟨b, o + j * 2, none⟩)) rfl hS ?_
      refine tk 6 (.int .u32 x.s) rfl (yi_load 22 (.tmp 40) (.pointer (some ⟨b, o + j * 2, none⟩)) rfl rfl rfl (fun wq hw => by have q : wq.cell? ⟨b, o + j * 2, none⟩ = some (.int .u32 x.s) := hw.2 j x HX.out 0 _ rfl; go_simp)) hS ?_
      refine tk 7 (.int .u64 x.s) rfl (.inl ⟨rfl, fun _ _ => by go_simp <;> exact hws⟩) hS ?_
      refine tg 9 (.pointer (some ⟨E, 4, none⟩)) rfl hS ?_
      refine tk 10 (.slice (some ⟨b, o, none⟩) m v.ms.c) rfl (yi_load 29 (.tmp 44) (.pointer (some ⟨E, 4, none⟩)) rfl rfl rfl (fun wq hw => by have q : wq.cell? ⟨E, 4, none⟩ = some (.slice (some ⟨b, o, none⟩) m v.ms.c) := (by rw [cell_of_row _ _ _ _ _ _ hw.1, HMN.out, ← HA.out]; rfl); go_simp)) hS ?_
      refine tm 11 (.int .i64 ↑j) rfl hS ?_
      refine tg 12 (.pointer (some ⟨b, o + j * 2, none⟩)) rfl hS ?_
      refine tg 13 (.pointer (some ⟨b, o + j * 2 + 1, none⟩)) rfl hS ?_
      refine tk 14 (.int .u64 x.r) rfl (yi_load 28 (.tmp 48) (.pointer (some ⟨b, o + j * 2 + 1, none⟩)) rfl rfl rfl (fun wq hw => by have q : wq.cell? ⟨b, o + j * 2 + 1, none⟩ = some (.int .u64 x.r) := hw.2 j x HX.out 1 _ rfl; go_simp)) hS ?_
      refine wpAnyH_ready (rs := [8]) (by kernel_rfl) (by simp) ?_
      refine AllReadyH.cons rfl (fun K hK => ?_) AllReadyH.nil
      rw [if_pos (by rfl)]
      go_simp
      refine Calls.mono ((put_e ID.out x.s 4 (p + 4) (by decide) (by omega) rfl)) ?_
      rintro e w6 ⟨a6, c6, rfl, M6⟩
      refine hK.out _ _ (⟨BX.out _ _ _ _ _ M6, HS.out _ _ _ _ _ M6⟩) (fun hS => ?_)
      clear hK K
      refine wpAnyH_ready (rs := [15]) (by kernel_rfl) (by simp) ?_
      refine AllReadyH.cons rfl (fun K hK => ?_) AllReadyH.nil
      rw [if_pos (by rfl)]
      go_simp
      refine Calls.mono ((put_e M6 x.r 8 (p + 4 + 8) (by decide) (by omega) rfl)) ?_
      rintro e w7 ⟨a7, c7, rfl, M7⟩
      refine hK.out _ _ (⟨BX.out _ _ _ _ _ M7, HS.out _ _ _ _ _ M7⟩) (fun hS => ?_)
      clear hK K
      refine tm 16 (.slice a7 (p + 4 + 8) c7) rfl hS ?_
      refine wpAnyH_done (by kernel_rfl) ?_ _
      have M8 := Lib.hid M7
      clear hS M6 M7
      go_wp2_with fail
      have hp := HP.out
      refine ⟨⟨j + 1, a7, c7, by rw [show q + 1 + 12 * (j + 1) = p + 4 + 8 by omega], by go_num, by omega, Lib.hid ?_⟩, by simp [intOf]; omega⟩
      rw [show q + 1 + 12 * (j + 1) = p + 4 + 8 by omega, take_next HX.out]
      have e : l ++ [v.f, v.e] ++ be v.vw 4 ++ be v.lo 4 ++ [(m : Int)] ++ (List.take j cv.ms).flatMap mkB ++ be x.s 4 ++ be x.r 8 = l ++ [v.f, v.e] ++ be v.vw 4 ++ be v.lo 4 ++ [(m : Int)] ++ ((List.take j cv.ms).flatMap mkB ++ mkB x) := by
        simp [mkB, be_4, be_8]
      rw [← e]
      exact M8.out
    · have hjm' : ¬ (j : Int) < m := by omega
      obtain rfl : m = j := by omega
      have hbE := BX.out _ _ _ _ _ I.out
      have ID := I.out.below (Below.refl _ _).drew
      rw [show List.take m cv.ms = cv.ms from List.take_of_length_le (by rw [← HLM.out]; exact Nat.le_refl _)] at ID
      obtain ⟨p, hp⟩ : ∃ p, p = q + 1 + 12 * m := ⟨_, rfl⟩
      rw [← hp] at ID ⊢
      have hpb : p ≤ 600800 := by omega
      have HP := Lib.hid hp
      have ID := Lib.hid ID
      clear hp hbE
      go_wp2_with fail
      refine wp_region_held_drew (S := fun wx => wx.heap[E]? = some (.cells #[.int .u8 v.f, .int .u8 v.e, .int .u32 v.vw, .int .u32 v.lo, .slice v.ms.a v.ms.n v.ms.c, .slice v.p.a v.p.n v.p.c, .slice v.q.a v.q.n v.q.c] 32 (0, 0))) (by kernel_rfl) ((BX.out _ _ _ _ _ ID.out)) (fun hS => ?_)
      refine tm 0 (.slice a5 p c5) rfl hS ?_
      refine tg 1 (.pointer (some ⟨E, 5, none⟩)) rfl hS ?_
      refine tk 2 (.slice v.p.a v.p.n v.p.c) rfl (yi_load 30 (.tmp 52) (.pointer (some ⟨E, 5, none⟩)) rfl rfl rfl (fun wq hw => by have q : wq.cell? ⟨E, 5, none⟩ = some (.slice v.p.a v.p.n v.p.c) := (by rw [cell_of_row _ _ _ _ _ _ hw]; rfl); go_simp)) hS ?_
      refine tg 4 (.pointer (some ⟨E, 6, none⟩)) rfl hS ?_
      refine tk 5 (.slice v.q.a v.q.n v.q.c) rfl (yi_load 30 (.tmp 55) (.pointer (some ⟨E, 6, none⟩)) rfl rfl rfl (fun wq hw => by have q : wq.cell? ⟨E, 6, none⟩ = some (.slice v.q.a v.q.n v.q.c) := (by rw [cell_of_row _ _ _ _ _ _ hw]; rfl); go_simp)) hS ?_
      refine wpAnyH_ready (rs := [3]) (by kernel_rfl) (by simp) ?_
      refine AllReadyH.cons rfl (fun K hK => ?_) AllReadyH.nil
      rw [if_pos (by rfl)]
      go_simp
      refine Calls.mono ((refList_any ID.out.own v.p cv.p (fun wx a n' c' l' g => (VA.out _ _ _ _ _ (ID.out.trans g)).2.1) HOK.out.2.2.2.1 HFEW.out.2.1 (by omega))) ?_
      rintro e w8 ⟨a8, c8, rfl, R8⟩
      have M8 := ID.out.trans R8
      have hp40 := HFEW.out.2.1
      refine hK.out _ _ ((BX.out _ _ _ _ _ M8)) (fun hS => ?_)
      clear hK K
      refine wpAnyH_ready (rs := [6]) (by kernel_rfl) (by simp) ?_
      refine AllReadyH.cons rfl (fun K hK => ?_) AllReadyH.nil
      rw [if_pos (by rfl)]
      go_simp
      refine Calls.mono ((refList_any M8.own v.q cv.q (fun wx a n' c' l' g => (VA.out _ _ _ _ _ (M8.trans g)).2.2) HOK.out.2.2.2.2 HFEW.out.2.2 (by omega))) ?_
      rintro e w9 ⟨a9, c9, rfl, R9⟩
      have M9 := M8.trans R9
      refine hK.out _ _ ((BX.out _ _ _ _ _ M9)) (fun hS => ?_)
      clear hK K
      refine tm 7 (.slice a9 (p + 1 + 17 * cv.p.length + 1 + 17 * cv.q.length) c9) rfl hS ?_
      refine wpAnyH_done (by kernel_rfl) ?_ _
      have M10 := Lib.hid (M9.early HBW.out)
      clear hS M8 M9 R8 R9
      go_wp2_with fail
      go_ret
      have e : l ++ [v.f, v.e] ++ be v.vw 4 ++ be v.lo 4 ++ [(m : Int)] ++ cv.ms.flatMap mkB ++ entsB cv.p ++ entsB cv.q = l ++ voteY v cv := by
        simp [voteY, marksY, be_4, HLM.out]
      have M11 := M10.out
      rw [e] at M11
      refine ⟨_, a9, c9, rfl, M11, ?_⟩
      have hq := HQ.out
      have hp := HP.out
      have hlm := HLM.out
      have e1 : (marksY cv.ms).length = 1 + cv.ms.length * 12 := by simp [marksY, flatMap_len mkB_len]; omega
      simp only [voteY, List.length_append, List.length_cons, List.length_nil, entsB_len, e1, b4]
      omega
end Go.Proofs.YtbpfkeeikhhlnaaGreatDoor
