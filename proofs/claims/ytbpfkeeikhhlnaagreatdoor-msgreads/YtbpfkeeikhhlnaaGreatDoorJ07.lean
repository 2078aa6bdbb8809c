/- The entries of a vote: whether each is one, and stands above the one ahead. Whether it is a vote. The votes of a new view: whether they fit. The bytes of votes. The bytes of every message. Messages of each kind: that they are, and with a word too much or from whom they cannot be, that they are not. -/
import Derived.Test.YtbpfkeeikhhlnaaGreatDoorJ06
import Derived.Test.YtbpfkeeikhhlnaaGreatDoorJ03
import Derived.Test.YtbpfkeeikhhlnaaGreatDoorJ05
namespace Go.Proofs.YtbpfkeeikhhlnaaGreatDoor
open Go.RowKit
set_option maxRecDepth 100000

theorem en_load {w' : World} {b o : Nat} {x : En} (G : ∀ i u, x.cells[i]? = some u → w'.cell? ⟨b, o + i, none⟩ = some u) : (Instr.loadAt 80 (.pointer (some ⟨b, o, none⟩))).run Tryz.prog w' = .ok (.agg x.cells.toArray) w' := by
  have q0 : w'.cell? ⟨b, o, none⟩ = some (.int .u32 x.s) := G 0 _ rfl
  have q1 : w'.cell? ⟨b, o + 1, none⟩ = some (.int .u32 x.v) := G 1 _ rfl
  have q2 : w'.cell? ⟨b, o + 2, none⟩ = some (.int .u8 x.rq.c) := G 2 _ rfl
  have q3 : w'.cell? ⟨b, o + 3, none⟩ = some (.int .u32 x.rq.t) := G 3 _ rfl
  have q4 : w'.cell? ⟨b, o + 4, none⟩ = some (.int .u8 x.rq.k) := G 4 _ rfl
  have q5 : w'.cell? ⟨b, o + 5, none⟩ = some (.int .u8 x.rq.y) := G 5 _ rfl
  have q6 : w'.cell? ⟨b, o + 6, none⟩ = some (.int .u16 x.rq.v) := G 6 _ rfl
  have a49 := Tryz.isAgg80; have z49 := Tryz.sizeOf80; have u49 := Tryz.underlying80
  simp only [En.cells]
  go_simp

set_option maxHeartbeats 4000000 in
theorem areEntries49 (w : World) (v : Sl) (xs : List En) (h1 : Row w 7 En.cells v.val xs) :
    Calls Tryz.prog 45 #[.slice v.a v.n v.c, .func (.func 46) #[] #[]] w fun e w' => e = .returned (.bool (upB enOk enAb xs)) ∧ Below w.heap.size w w' := by
  obtain ⟨a1, c1, q1, -, -, hn1, hr1⟩ := h1
  simp only [Sl.val] at q1
  rw [q1]
  clear q1
  have H1 := Lib.hid hr1
  have CAB : Hid (∀ w' x y, Below w.heap.size w w' → x ∈ xs → y ∈ xs → Calls Tryz.prog 46 #[.agg x.cells.toArray, .agg y.cells.toArray] w' fun e w2 => e = .returned (.bool (enAb x y)) ∧ Below w'.heap.size w' w2) := Lib.hid (fun w' x y hb hx hy => bySeq_any x y w')
  clear hr1
  obtain ⟨r, hr⟩ : ∃ r, r = upB enOk enAb xs := ⟨_, rfl⟩
  rw [← hr]
  have HR := Lib.hid hr
  clear hr
  by_cases h40 : xs.length ≤ 40
  · generalize hn : xs.length = n at *
    have HN := Lib.hid hn
    have h40' : ¬ (n : Int) > 40 := by omega
    clear hn
    go_enter Tryz.func45, Tryz.ntmps45
    go_wp2_with fail
    go_loopw [12] (fun vi wr => ∃ j : Nat, j ≤ n ∧ vi = .int .i64 j ∧ Hid (Below w.heap.size w wr) ∧ Hid (∀ i, i < j → stepB enOk enAb xs i = true)) (fun i _ => n - (intOf i).toNat)
    case atStart => exact ⟨0, by omega, rfl, Lib.hid (Below.refl _ _), Lib.hid (fun i h => by omega)⟩
    case round =>
      obtain ⟨j, hj, rfl, HB, A⟩ := hrel
      by_cases hlt : j < n
      · obtain ⟨x, hx⟩ : ∃ x, xs[j]? = some x := ⟨_, List.getElem?_eq_getElem (by rw [HN.out]; exact hlt)⟩
        obtain ⟨b1, o1, e1, g1⟩ := H1.out j x hx
        have G : ∀ i u, x.cells[i]? = some u → wr.cell? ⟨b1, o1 + j * 7 + i, none⟩ = some u := fun i u hu => by
          have h3 := g1 i u hu
          rw [HB.out.cell (cell_block h3)]; exact h3
        have l10 : wr.cell? ⟨b1, o1 + j * 7, none⟩ = some (.int .u32 x.s) := G 0 _ rfl
        have l11 : wr.cell? ⟨b1, o1 + j * 7 + 1, none⟩ = some (.int .u32 x.v) := G 1 _ rfl
        have l12 : wr.cell? ⟨b1, o1 + j * 7 + 2, none⟩ = some (.int .u8 x.rq.c) := G 2 _ rfl
        have l13 : wr.cell? ⟨b1, o1 + j * 7 + 3, none⟩ = some (.int .u32 x.rq.t) := G 3 _ rfl
        have l14 : wr.cell? ⟨b1, o1 + j * 7 + 4, none⟩ = some (.int .u8 x.rq.k) := G 4 _ rfl
        have l15 : wr.cell? ⟨b1, o1 + j * 7 + 5, none⟩ = some (.int .u8 x.rq.y) := G 5 _ rfl
        have l16 : wr.cell? ⟨b1, o1 + j * 7 + 6, none⟩ = some (.int .u16 x.rq.v) := G 6 _ rfl
        have HX := Lib.hid hx
        have CI := Lib.hid (isEntry_any x)
        generalize hs : enOk x = sb at CI
        have HS := Lib.hid hs
        have HNEW := Lib.hid (fun o => HB.out.alloc HB.out.size o)
        clear hx g1 G hs
        subst e1
        go_upto_region 6 with fail
        obtain ⟨W, hW⟩ : ∃ W, W = wr.alloc (.cells x.cells.toArray 80) := ⟨_, rfl⟩
        have hBW : Below w.heap.size w W := by rw [hW]; exact HNEW.out _
        have hWn : W.heap[wr.heap.size]? = some (.cells x.cells.toArray 80 (0, 0)) := by rw [hW]; exact heap_alloc_new _ _
        have hW0 := Below.refl W.heap.size W
        have fx : ∀ w', Below W.heap.size W w' → w'.heap[wr.heap.size]? = some (.cells x.cells.toArray 80 (0, 0)) := fun w' h => (h.block _ (lt_of_block hWn)).trans hWn
        have LX := Lib.hid (fun w' (h : Below W.heap.size W w') => en_load (w' := w') (b := wr.heap.size) (o := 0) (x := x) (fun i u hu => by rw [cell_of_row _ _ _ _ _ _ (fx w' h)]; simpa using hu))
        have HBW := Lib.hid hBW
        simp only [En.cells] at hW
        rw [← hW]
        clear hW l10 l11 l12 l13 l14 l15 l16 HNEW hBW hWn fx
        have eA : (#[.int .u32 x.s, .int .u32 x.v, .int .u8 x.rq.c, .int .u32 x.rq.t, .int .u8 x.rq.k, .int .u8 x.rq.y, .int .u16 x.rq.v] : Array Value) = x.cells.toArray := rfl
        rw [eA]
        clear eA
        generalize hgs : wr.heap.size = g at *
        have HENDB := Lib.hid (fun w' (h : Below W.heap.size W w') => HBW.out.trans (h.mono HBW.out.size))
        cases sb
        · generalize x.cells.toArray = xa at *
          refine wp_region_held_drew (S := fun w' => Below W.heap.size W w') (by kernel_rfl) hW0.drew (fun hS => ?_)
          refine tk 0 (.agg xa) rfl (yi_load 80 (.tmp 6) _ rfl rfl rfl LX.out) hS ?_
          refine rdy1 1 rfl (fun K hK => ?_)
          rw [if_pos (by rfl)]
          go_simp
          refine Calls.mono (CI.out _) ?_
          rintro e w2 ⟨rfl, hb⟩
          refine hK.out _ w2 (Below.up hS hb) (fun hS => ?_)
          clear hK K hb
          refine tm 2 (.bool true) rfl hS ?_
          refine tm 3 (.bool true) rfl hS ?_
          refine tn 4 rfl hS ?_
          refine tn 5 rfl hS ?_
          refine tn 6 rfl hS ?_
          refine tn 7 rfl hS ?_
          refine tn 8 rfl hS ?_
          refine tn 9 rfl hS ?_
          refine tn 10 rfl hS ?_
          refine tn 11 rfl hS ?_
          refine tn 12 rfl hS ?_
          refine tn 13 rfl hS ?_
          refine tn 14 rfl hS ?_
          refine tn 15 rfl hS ?_
          refine tn 16 rfl hS ?_
          refine tm 17 (.bool true) rfl hS ?_
          refine wpAnyH_done (by kernel_rfl) ?_ _
          go_wp2_with fail
          go_ret
          refine ⟨?_, HENDB.out _ hS⟩
          rw [HR.out, upB_false (by rw [HN.out]; exact hlt) (stepB_not HX.out HS.out)]; rfl
        · rcases Nat.eq_zero_or_pos j with h0 | h0
          · subst h0
            generalize x.cells.toArray = xa at *
            refine wp_region_held_drew (S := fun w' => Below W.heap.size W w') (by kernel_rfl) hW0.drew (fun hS => ?_)
            refine tk 0 (.agg xa) rfl (yi_load 80 (.tmp 6) _ rfl rfl rfl LX.out) hS ?_
            refine rdy1 1 rfl (fun K hK => ?_)
            rw [if_pos (by rfl)]
            go_simp
            refine Calls.mono (CI.out _) ?_
            rintro e w2 ⟨rfl, hb⟩
            refine hK.out _ w2 (Below.up hS hb) (fun hS => ?_)
            clear hK K hb
            refine tm 2 (.bool false) rfl hS ?_
            refine tm 3 (.bool false) rfl hS ?_
            refine tm 4 (.int .i64 0) rfl hS ?_
            refine tg 5 (.bool false) rfl hS ?_
            refine tm 6 (.bool false) rfl hS ?_
            refine tn 7 rfl hS ?_
            refine tn 8 rfl hS ?_
            refine tn 9 rfl hS ?_
            refine tn 10 rfl hS ?_
            refine tn 11 rfl hS ?_
            refine tn 12 rfl hS ?_
            refine tn 13 rfl hS ?_
            refine tn 14 rfl hS ?_
            refine tn 15 rfl hS ?_
            refine tm 16 (.bool false) rfl hS ?_
            refine tm 17 (.bool false) rfl hS ?_
            refine wpAnyH_done (by kernel_rfl) ?_ _
            go_wp2_with fail
            go_round
            case measure => simp [intOf]; omega
            case rel =>
              refine ⟨1, by omega, by go_num, Lib.hid (HENDB.out _ hS), Lib.hid (fun i hi => ?_)⟩
              obtain rfl : i = 0 := by omega
              rw [stepB_zero HX.out]; exact HS.out
          · obtain ⟨i, rfl⟩ : ∃ i, j = i + 1 := ⟨j - 1, by omega⟩
            obtain ⟨y, hy⟩ : ∃ y, xs[i]? = some y := ⟨_, List.getElem?_eq_getElem (by rw [HN.out]; omega)⟩
            have LY := Lib.hid (fun w' (h : Below W.heap.size W w') => en_load (w' := w') (b := b1) (o := o1 + i * 7) (x := y) (fun k u hu => by
              obtain ⟨b2, o2, e2, g2⟩ := H1.out i y hy
              injection e2 with e2; injection e2 with e3 e4; subst e3; subst e4
              have h3 := g2 k u hu
              rw [(HENDB.out w' h).cell (cell_block h3)]; exact h3))
            have CA := Lib.hid (fun w' (h : Below W.heap.size W w') => CAB.out w' x y (HENDB.out w' h) (List.mem_of_getElem? HX.out) (List.mem_of_getElem? hy))
            have HY := Lib.hid hy
            clear hy
            generalize hab : enAb x y = ab at CA
            have HAB := Lib.hid hab
            clear hab
            generalize x.cells.toArray = xa at *
            generalize y.cells.toArray = ya at *
            have hi0 : (0 : Int) < ((i + 1 : Nat) : Int) := by omega
            have hin : (i : Int) < (n : Int) := by omega
            have HWR := Lib.hid (show IntKind.i64.wrap (i : Int) = i by simp [IntKind.wrap, IntKind.signed, IntKind.bits]; omega)
            cases ab
            · have e : stepB enOk enAb xs (i + 1) = false := by rw [stepB_succ HX.out HY.out, HAB.out]; simp
              have HE := Lib.hid e
              clear e
              refine wp_region_held_drew (S := fun w' => Below W.heap.size W w') (by kernel_rfl) hW0.drew (fun hS => ?_)
              refine tk 0 (.agg xa) rfl (yi_load 80 (.tmp 6) _ rfl rfl rfl LX.out) hS ?_
              refine rdy1 1 rfl (fun K hK => ?_)
              rw [if_pos (by rfl)]
              go_simp
              refine Calls.mono (CI.out _) ?_
              rintro e w2 ⟨rfl, hb⟩
              refine hK.out _ w2 (Below.up hS hb) (fun hS => ?_)
              clear hK K hb
              refine tm 2 (.bool false) rfl hS ?_
              refine tm 3 (.bool false) rfl hS ?_
              refine tm 4 (.int .i64 (↑i + 1)) rfl hS ?_
              refine tg 5 (.bool true) rfl hS ?_
              refine tm 6 (.bool true) rfl hS ?_
              refine tm 7 (.func (.func 46) #[] #[]) rfl hS ?_
              refine tk 8 (.agg xa) rfl (yi_load 80 (.tmp 6) _ rfl rfl rfl LX.out) hS ?_
              refine tm 9 (.slice (some ⟨b1, o1, none⟩) n c1) rfl hS ?_
              refine tm 10 (.int .i64 (↑i + 1)) rfl hS ?_
              refine tk 11 (.int .i64 ↑i) rfl (.inl ⟨rfl, fun w' _ => by go_simp; exact HWR.out⟩) hS ?_
              refine tg 12 (.pointer (some ⟨b1, o1 + i * 7, none⟩)) rfl hS ?_
              refine tk 13 (.agg ya) rfl (yi_load 80 (.tmp 29) _ rfl rfl rfl LY.out) hS ?_
              refine rdy1 14 rfl (fun K hK => ?_)
              rw [if_pos (by rfl)]
              go_simp
              refine Calls.mono (CA.out _ hS) ?_
              rintro e w3 ⟨rfl, hb⟩
              refine hK.out _ w3 (Below.up hS hb) (fun hS => ?_)
              clear hK K hb
              refine tm 15 (.bool true) rfl hS ?_
              refine tm 16 (.bool true) rfl hS ?_
              refine tm 17 (.bool true) rfl hS ?_
              refine wpAnyH_done (by kernel_rfl) ?_ _
              go_wp2_with fail
              go_ret
              refine ⟨?_, HENDB.out _ hS⟩
              rw [HR.out, upB_false (by rw [HN.out]; exact hlt) HE.out]; rfl
            · have e : stepB enOk enAb xs (i + 1) = true := by rw [stepB_succ HX.out HY.out, HAB.out, HS.out]; rfl
              have HE := Lib.hid e
              clear e
              refine wp_region_held_drew (S := fun w' => Below W.heap.size W w') (by kernel_rfl) hW0.drew (fun hS => ?_)
              refine tk 0 (.agg xa) rfl (yi_load 80 (.tmp 6) _ rfl rfl rfl LX.out) hS ?_
              refine rdy1 1 rfl (fun K hK => ?_)
              rw [if_pos (by rfl)]
              go_simp
              refine Calls.mono (CI.out _) ?_
              rintro e w2 ⟨rfl, hb⟩
              refine hK.out _ w2 (Below.up hS hb) (fun hS => ?_)
              clear hK K hb
              refine tm 2 (.bool false) rfl hS ?_
              refine tm 3 (.bool false) rfl hS ?_
              refine tm 4 (.int .i64 (↑i + 1)) rfl hS ?_
              refine tg 5 (.bool true) rfl hS ?_
              refine tm 6 (.bool true) rfl hS ?_
              refine tm 7 (.func (.func 46) #[] #[]) rfl hS ?_
              refine tk 8 (.agg xa) rfl (yi_load 80 (.tmp 6) _ rfl rfl rfl LX.out) hS ?_
              refine tm 9 (.slice (some ⟨b1, o1, none⟩) n c1) rfl hS ?_
              refine tm 10 (.int .i64 (↑i + 1)) rfl hS ?_
              refine tk 11 (.int .i64 ↑i) rfl (.inl ⟨rfl, fun w' _ => by go_simp; exact HWR.out⟩) hS ?_
              refine tg 12 (.pointer (some ⟨b1, o1 + i * 7, none⟩)) rfl hS ?_
              refine tk 13 (.agg ya) rfl (yi_load 80 (.tmp 29) _ rfl rfl rfl LY.out) hS ?_
              refine rdy1 14 rfl (fun K hK => ?_)
              rw [if_pos (by rfl)]
              go_simp
              refine Calls.mono (CA.out _ hS) ?_
              rintro e w3 ⟨rfl, hb⟩
              refine hK.out _ w3 (Below.up hS hb) (fun hS => ?_)
              clear hK K hb
              refine tm 15 (.bool false) rfl hS ?_
              refine tm 16 (.bool false) rfl hS ?_
              refine tm 17 (.bool false) rfl hS ?_
              refine wpAnyH_done (by kernel_rfl) ?_ _
              go_wp2_with fail
              go_round
              case measure => simp [intOf]; omega
              case rel =>
                refine ⟨i + 2, by omega, by go_num, Lib.hid (HENDB.out _ hS), Lib.hid (fun k hk => ?_)⟩
                by_cases e : k = i + 1
                · subst e; exact HE.out
                · exact A.out k (by omega)
      · obtain rfl : j = n := by omega
        go_wp2_with fail
        go_ret
        refine ⟨?_, HB.out⟩
        rw [HR.out, upB_true (by rw [HN.out]; exact h40) (by rw [HN.out]; exact A.out)]; rfl
  · have HL := Lib.hid (upB_long (ok := enOk) (ab := enAb) h40)
    generalize hn : xs.length = n at *
    have h40' : (n : Int) > 40 := by omega
    clear hn
    go_enter Tryz.func45, Tryz.ntmps45
    go_wp2_with fail
    go_ret
    exact ⟨by rw [HR.out, HL.out]; rfl, Below.refl _ _⟩

set_option maxHeartbeats 4000000 in
theorem areEntries50 (w : World) (v : Sl) (xs : List En) (h1 : Row w 7 En.cells v.val xs) (hok : ∀ x ∈ xs, x.rq.ok) (ht : Tab w) :
    Calls Tryz.prog 45 #[.slice v.a v.n v.c, .func (.func 47) #[] #[]] w fun e w' => e = .returned (.bool (upB enOk enAt xs)) ∧ Below w.heap.size w w' := by
  obtain ⟨a1, c1, q1, -, -, hn1, hr1⟩ := h1
  simp only [Sl.val] at q1
  rw [q1]
  clear q1
  have H1 := Lib.hid hr1
  have CAB : Hid (∀ w' x y, Below w.heap.size w w' → x ∈ xs → y ∈ xs → Calls Tryz.prog 47 #[.agg x.cells.toArray, .agg y.cells.toArray] w' fun e w2 => e = .returned (.bool (enAt x y)) ∧ Below w'.heap.size w' w2) := Lib.hid (fun w' x y hb hx hy => bySeqAndText_any x y (hok x hx) (hok y hy) w' (Tab.on ht hb))
  clear hr1 hok ht
  obtain ⟨r, hr⟩ : ∃ r, r = upB enOk enAt xs := ⟨_, rfl⟩
  rw [← hr]
  have HR := Lib.hid hr
  clear hr
  by_cases h40 : xs.length ≤ 40
  · generalize hn : xs.length = n at *
    have HN := Lib.hid hn
    have h40' : ¬ (n : Int) > 40 := by omega
    clear hn
    go_enter Tryz.func45, Tryz.ntmps45
    go_wp2_with fail
    go_loopw [12] (fun vi wr => ∃ j : Nat, j ≤ n ∧ vi = .int .i64 j ∧ Hid (Below w.heap.size w wr) ∧ Hid (∀ i, i < j → stepB enOk enAt xs i = true)) (fun i _ => n - (intOf i).toNat)
    case atStart => exact ⟨0, by omega, rfl, Lib.hid (Below.refl _ _), Lib.hid (fun i h => by omega)⟩
    case round =>
      obtain ⟨j, hj, rfl, HB, A⟩ := hrel
      by_cases hlt : j < n
      · obtain ⟨x, hx⟩ : ∃ x, xs[j]? = some x := ⟨_, List.getElem?_eq_getElem (by rw [HN.out]; exact hlt)⟩
        obtain ⟨b1, o1, e1, g1⟩ := H1.out j x hx
        have G : ∀ i u, x.cells[i]? = some u → wr.cell? ⟨b1, o1 + j * 7 + i, none⟩ = some u := fun i u hu => by
          have h3 := g1 i u hu
          rw [HB.out.cell (cell_block h3)]; exact h3
        have l10 : wr.cell? ⟨b1, o1 + j * 7, none⟩ = some (.int .u32 x.s) := G 0 _ rfl
        have l11 : wr.cell? ⟨b1, o1 + j * 7 + 1, none⟩ = some (.int .u32 x.v) := G 1 _ rfl
        have l12 : wr.cell? ⟨b1, o1 + j * 7 + 2, none⟩ = some (.int .u8 x.rq.c) := G 2 _ rfl
        have l13 : wr.cell? ⟨b1, o1 + j * 7 + 3, none⟩ = some (.int .u32 x.rq.t) := G 3 _ rfl
        have l14 : wr.cell? ⟨b1, o1 + j * 7 + 4, none⟩ = some (.int .u8 x.rq.k) := G 4 _ rfl
        have l15 : wr.cell? ⟨b1, o1 + j * 7 + 5, none⟩ = some (.int .u8 x.rq.y) := G 5 _ rfl
        have l16 : wr.cell? ⟨b1, o1 + j * 7 + 6, none⟩ = some (.int .u16 x.rq.v) := G 6 _ rfl
        have HX := Lib.hid hx
        have CI := Lib.hid (isEntry_any x)
        generalize hs : enOk x = sb at CI
        have HS := Lib.hid hs
        have HNEW := Lib.hid (fun o => HB.out.alloc HB.out.size o)
        clear hx g1 G hs
        subst e1
        go_upto_region 6 with fail
        obtain ⟨W, hW⟩ : ∃ W, W = wr.alloc (.cells x.cells.toArray 80) := ⟨_, rfl⟩
        have hBW : Below w.heap.size w W := by rw [hW]; exact HNEW.out _
        have hWn : W.heap[wr.heap.size]? = some (.cells x.cells.toArray 80 (0, 0)) := by rw [hW]; exact heap_alloc_new _ _
        have hW0 := Below.refl W.heap.size W
        have fx : ∀ w', Below W.heap.size W w' → w'.heap[wr.heap.size]? = some (.cells x.cells.toArray 80 (0, 0)) := fun w' h => (h.block _ (lt_of_block hWn)).trans hWn
        have LX := Lib.hid (fun w' (h : Below W.heap.size W w') => en_load (w' := w') (b := wr.heap.size) (o := 0) (x := x) (fun i u hu => by rw [cell_of_row _ _ _ _ _ _ (fx w' h)]; simpa using hu))
        have HBW := Lib.hid hBW
        simp only [En.cells] at hW
        rw [← hW]
        clear hW l10 l11 l12 l13 l14 l15 l16 HNEW hBW hWn fx
        have eA : (#[.int .u32 x.s, .int .u32 x.v, .int .u8 x.rq.c, .int .u32 x.rq.t, .int .u8 x.rq.k, .int .u8 x.rq.y, .int .u16 x.rq.v] : Array Value) = x.cells.toArray := rfl
        rw [eA]
        clear eA
        generalize hgs : wr.heap.size = g at *
        have HENDB := Lib.hid (fun w' (h : Below W.heap.size W w') => HBW.out.trans (h.mono HBW.out.size))
        cases sb
        · generalize x.cells.toArray = xa at *
          refine wp_region_held_drew (S := fun w' => Below W.heap.size W w') (by kernel_rfl) hW0.drew (fun hS => ?_)
          refine tk 0 (.agg xa) rfl (yi_load 80 (.tmp 6) _ rfl rfl rfl LX.out) hS ?_
          refine rdy1 1 rfl (fun K hK => ?_)
          rw [if_pos (by rfl)]
          go_simp
          refine Calls.mono (CI.out _) ?_
          rintro e w2 ⟨rfl, hb⟩
          refine hK.out _ w2 (Below.up hS hb) (fun hS => ?_)
          clear hK K hb
          refine tm 2 (.bool true) rfl hS ?_
          refine tm 3 (.bool true) rfl hS ?_
          refine tn 4 rfl hS ?_
          refine tn 5 rfl hS ?_
          refine tn 6 rfl hS ?_
          refine tn 7 rfl hS ?_
          refine tn 8 rfl hS ?_
          refine tn 9 rfl hS ?_
          refine tn 10 rfl hS ?_
          refine tn 11 rfl hS ?_
          refine tn 12 rfl hS ?_
          refine tn 13 rfl hS ?_
          refine tn 14 rfl hS ?_
          refine tn 15 rfl hS ?_
          refine tn 16 rfl hS ?_
          refine tm 17 (.bool true) rfl hS ?_
          refine wpAnyH_done (by kernel_rfl) ?_ _
          go_wp2_with fail
          go_ret
          refine ⟨?_, HENDB.out _ hS⟩
          rw [HR.out, upB_false (by rw [HN.out]; exact hlt) (stepB_not HX.out HS.out)]; rfl
        · rcases Nat.eq_zero_or_pos j with h0 | h0
          · subst h0
            generalize x.cells.toArray = xa at *
            refine wp_region_held_drew (S := fun w' => Below W.heap.size W w') (by kernel_rfl) hW0.drew (fun hS => ?_)
            refine tk 0 (.agg xa) rfl (yi_load 80 (.tmp 6) _ rfl rfl rfl LX.out) hS ?_
            refine rdy1 1 rfl (fun K hK => ?_)
            rw [if_pos (by rfl)]
            go_simp
            refine Calls.mono (CI.out _) ?_
            rintro e w2 ⟨rfl, hb⟩
            refine hK.out _ w2 (Below.up hS hb) (fun hS => ?_)
            clear hK K hb
            refine tm 2 (.bool false) rfl hS ?_
            refine tm 3 (.bool false) rfl hS ?_
            refine tm 4 (.int .i64 0) rfl hS ?_
            refine tg 5 (.bool false) rfl hS ?_
            refine tm 6 (.bool false) rfl hS ?_
            refine tn 7 rfl hS ?_
            refine tn 8 rfl hS ?_
            refine tn 9 rfl hS ?_
            refine tn 10 rfl hS ?_
            refine tn 11 rfl hS ?_
            refine tn 12 rfl hS ?_
            refine tn 13 rfl hS ?_
            refine tn 14 rfl hS ?_
            refine tn 15 rfl hS ?_
            refine tm 16 (.bool false) rfl hS ?_
            refine tm 17 (.bool false) rfl hS ?_
            refine wpAnyH_done (by kernel_rfl) ?_ _
            go_wp2_with fail
            go_round
            case measure => simp [intOf]; omega
            case rel =>
              refine ⟨1, by omega, by go_num, Lib.hid (HENDB.out _ hS), Lib.hid (fun i hi => ?_)⟩
              obtain rfl : i = 0 := by omega
              rw [stepB_zero HX.out]; exact HS.out
          · obtain ⟨i, rfl⟩ : ∃ i, j = i + 1 := ⟨j - 1, by omega⟩
            obtain ⟨y, hy⟩ : ∃ y, xs[i]? = some y := ⟨_, List.getElem?_eq_getElem (by rw [HN.out]; omega)⟩
            have LY := Lib.hid (fun w' (h : Below W.heap.size W w') => en_load (w' := w') (b := b1) (o := o1 + i * 7) (x := y) (fun k u hu => by
              obtain ⟨b2, o2, e2, g2⟩ := H1.out i y hy
              injection e2 with e2; injection e2 with e3 e4; subst e3; subst e4
              have h3 := g2 k u hu
              rw [(HENDB.out w' h).cell (cell_block h3)]; exact h3))
            have CA := Lib.hid (fun w' (h : Below W.heap.size W w') => CAB.out w' x y (HENDB.out w' h) (List.mem_of_getElem? HX.out) (List.mem_of_getElem? hy))
            have HY := Lib.hid hy
            clear hy
            generalize hab : enAt x y = ab at CA
            have HAB := Lib.hid hab
            clear hab
            generalize x.cells.toArray = xa at *
            generalize y.cells.toArray = ya at *
            have hi0 : (0 : Int) < ((i + 1 : Nat) : Int) := by omega
            have hin : (i : Int) < (n : Int) := by omega
            have HWR := Lib.hid (show IntKind.i64.wrap (i : Int) = i by simp [IntKind.wrap, IntKind.signed, IntKind.bits]; omega)
            cases ab
            · have e : stepB enOk enAt xs (i + 1) = false := by rw [stepB_succ HX.out HY.out, HAB.out]; simp
              have HE := Lib.hid e
              clear e
              refine wp_region_held_drew (S := fun w' => Below W.heap.size W w') (by kernel_rfl) hW0.drew (fun hS => ?_)
              refine tk 0 (.agg xa) rfl (yi_load 80 (.tmp 6) _ rfl rfl rfl LX.out) hS ?_
              refine rdy1 1 rfl (fun K hK => ?_)
              rw [if_pos (by rfl)]
              go_simp
              refine Calls.mono (CI.out _) ?_
              rintro e w2 ⟨rfl, hb⟩
              refine hK.out _ w2 (Below.up hS hb) (fun hS => ?_)
              clear hK K hb
              refine tm 2 (.bool false) rfl hS ?_
              refine tm 3 (.bool false) rfl hS ?_
              refine tm 4 (.int .i64 (↑i + 1)) rfl hS ?_
              refine tg 5 (.bool true) rfl hS ?_
              refine tm 6 (.bool true) rfl hS ?_
              refine tm 7 (.func (.func 47) #[] #[]) rfl hS ?_
              refine tk 8 (.agg xa) rfl (yi_load 80 (.tmp 6) _ rfl rfl rfl LX.out) hS ?_
              refine tm 9 (.slice (some ⟨b1, o1, none⟩) n c1) rfl hS ?_
              refine tm 10 (.int .i64 (↑i + 1)) rfl hS ?_
              refine tk 11 (.int .i64 ↑i) rfl (.inl ⟨rfl, fun w' _ => by go_simp; exact HWR.out⟩) hS ?_
              refine tg 12 (.pointer (some ⟨b1, o1 + i * 7, none⟩)) rfl hS ?_
              refine tk 13 (.agg ya) rfl (yi_load 80 (.tmp 29) _ rfl rfl rfl LY.out) hS ?_
              refine rdy1 14 rfl (fun K hK => ?_)
              rw [if_pos (by rfl)]
              go_simp
              refine Calls.mono (CA.out _ hS) ?_
              rintro e w3 ⟨rfl, hb⟩
              refine hK.out _ w3 (Below.up hS hb) (fun hS => ?_)
              clear hK K hb
              refine tm 15 (.bool true) rfl hS ?_
              refine tm 16 (.bool true) rfl hS ?_
              refine tm 17 (.bool true) rfl hS ?_
              refine wpAnyH_done (by kernel_rfl) ?_ _
              go_wp2_with fail
              go_ret
              refine ⟨?_, HENDB.out _ hS⟩
              rw [HR.out, upB_false (by rw [HN.out]; exact hlt) HE.out]; rfl
            · have e : stepB enOk enAt xs (i + 1) = true := by rw [stepB_succ HX.out HY.out, HAB.out, HS.out]; rfl
              have HE := Lib.hid e
              clear e
              refine wp_region_held_drew (S := fun w' => Below W.heap.size W w') (by kernel_rfl) hW0.drew (fun hS => ?_)
              refine tk 0 (.agg xa) rfl (yi_load 80 (.tmp 6) _ rfl rfl rfl LX.out) hS ?_
              refine rdy1 1 rfl (fun K hK => ?_)
              rw [if_pos (by rfl)]
              go_simp
              refine Calls.mono (CI.out _) ?_
              rintro e w2 ⟨rfl, hb⟩
              refine hK.out _ w2 (Below.up hS hb) (fun hS => ?_)
              clear hK K hb
              refine tm 2 (.bool false) rfl hS ?_
              refine tm 3 (.bool false) rfl hS ?_
              refine tm 4 (.int .i64 (↑i + 1)) rfl hS ?_
              refine tg 5 (.bool true) rfl hS ?_
              refine tm 6 (.bool true) rfl hS ?_
              refine tm 7 (.func (.func 47) #[] #[]) rfl hS ?_
              refine tk 8 (.agg xa) rfl (yi_load 80 (.tmp 6) _ rfl rfl rfl LX.out) hS ?_
              refine tm 9 (.slice (some ⟨b1, o1, none⟩) n c1) rfl hS ?_
              refine tm 10 (.int .i64 (↑i + 1)) rfl hS ?_
              refine tk 11 (.int .i64 ↑i) rfl (.inl ⟨rfl, fun w' _ => by go_simp; exact HWR.out⟩) hS ?_
              refine tg 12 (.pointer (some ⟨b1, o1 + i * 7, none⟩)) rfl hS ?_
              refine tk 13 (.agg ya) rfl (yi_load 80 (.tmp 29) _ rfl rfl rfl LY.out) hS ?_
              refine rdy1 14 rfl (fun K hK => ?_)
              rw [if_pos (by rfl)]
              go_simp
              refine Calls.mono (CA.out _ hS) ?_
              rintro e w3 ⟨rfl, hb⟩
              refine hK.out _ w3 (Below.up hS hb) (fun hS => ?_)
              clear hK K hb
              refine tm 15 (.bool false) rfl hS ?_
              refine tm 16 (.bool false) rfl hS ?_
              refine tm 17 (.bool false) rfl hS ?_
              refine wpAnyH_done (by kernel_rfl) ?_ _
              go_wp2_with fail
              go_round
              case measure => simp [intOf]; omega
              case rel =>
                refine ⟨i + 2, by omega, by go_num, Lib.hid (HENDB.out _ hS), Lib.hid (fun k hk => ?_)⟩
                by_cases e : k = i + 1
                · subst e; exact HE.out
                · exact A.out k (by omega)
      · obtain rfl : j = n := by omega
        go_wp2_with fail
        go_ret
        refine ⟨?_, HB.out⟩
        rw [HR.out, upB_true (by rw [HN.out]; exact h40) (by rw [HN.out]; exact A.out)]; rfl
  · have HL := Lib.hid (upB_long (ok := enOk) (ab := enAt) h40)
    generalize hn : xs.length = n at *
    have h40' : (n : Int) > 40 := by omega
    clear hn
    go_enter Tryz.func45, Tryz.ntmps45
    go_wp2_with fail
    go_ret
    exact ⟨by rw [HR.out, HL.out]; rfl, Below.refl _ _⟩
/-- P3.1: a vote -/
def voteB (v : Vt) (c : Vc) : Bool := isRp v.f && (isEp v.e && (isNv v.vw && (isSq v.lo && (upB mkOk mkAb c.ms && (upB enOk enAb c.p && upB enOk enAt c.q)))))
/-- the requests of its lists are in range -/
def VcOk (c : Vc) : Prop := (∀ x ∈ c.p, x.rq.ok) ∧ ∀ x ∈ c.q, x.rq.ok

set_option maxHeartbeats 4000000 in
theorem isVote_any (w : World) (v : Vt) (c : Vc) (hv : VtAt w v c) (hok : VcOk c) (ht : Tab w) :
    Calls Tryz.prog 14 #[.agg v.cells.toArray] w fun e w' => e = .returned (.bool (voteB v c)) ∧ Below w.heap.size w w' := by
  obtain ⟨r, hr⟩ : ∃ r, r = voteB v c := ⟨_, rfl⟩
  rw [← hr]
  unfold voteB at hr
  obtain ⟨W, hW⟩ : ∃ W, W = w.alloc (.cells v.cells.toArray 32) := ⟨_, rfl⟩
  have hbl := bl1 hW
  have hWs : W.heap.size = w.heap.size + 1 := by rw [hW]; simp
  have q0 : W.cell? ⟨w.heap.size, 0, none⟩ = some (.int .u8 v.f) := by rw [hW]; simp [Vt.cells]
  have q1 : W.cell? ⟨w.heap.size, 1, none⟩ = some (.int .u8 v.e) := by rw [hW]; simp [Vt.cells]
  have q2 : W.cell? ⟨w.heap.size, 2, none⟩ = some (.int .u32 v.vw) := by rw [hW]; simp [Vt.cells]
  have q3 : W.cell? ⟨w.heap.size, 3, none⟩ = some (.int .u32 v.lo) := by rw [hW]; simp [Vt.cells]
  have q4 : W.cell? ⟨w.heap.size, 4, none⟩ = some (.slice v.ms.a v.ms.n v.ms.c) := by rw [hW]; simp [Vt.cells]
  have q5 : W.cell? ⟨w.heap.size, 5, none⟩ = some (.slice v.p.a v.p.n v.p.c) := by rw [hW]; simp [Vt.cells]
  have q6 : W.cell? ⟨w.heap.size, 6, none⟩ = some (.slice v.q.a v.q.n v.q.c) := by rw [hW]; simp [Vt.cells]
  have C1 := Lib.hid (isReplica_any v.f)
  have C2 := Lib.hid (isEpoch_any v.e)
  have C3 := Lib.hid (isNewView_any v.vw)
  have C4 := Lib.hid (isSeq_any v.lo)
  have hvW := hv.below hbl
  have C5 := Lib.hid (areMarks_any W v.ms c.ms hvW.1)
  have C6 := Lib.hid (fun w' (h : Below W.heap.size W w') => areEntries49 w' v.p c.p ((hvW.below h).2.1))
  have C7 := Lib.hid (fun w' (h : Below W.heap.size W w') => areEntries50 w' v.q c.q ((hvW.below h).2.2) hok.2 (Tab.on (Tab.on ht hbl) h))
  generalize isRp v.f = b1 at C1 hr
  generalize isEp v.e = b2 at C2 hr
  generalize isNv v.vw = b3 at C3 hr
  generalize isSq v.lo = b4 at C4 hr
  generalize upB mkOk mkAb c.ms = b5 at C5 hr
  generalize upB enOk enAb c.p = b6 at C6 hr
  generalize upB enOk enAt c.q = b7 at C7 hr
  have HR := Lib.hid hr
  have HBL := Lib.hid hbl
  have HWS := Lib.hid hWs
  have HW := Lib.hid hW
  clear hr hbl hW hWs hv hok ht hvW
  simp only [Vt.cells] at HW ⊢
  go_enter Tryz.func14, Tryz.ntmps14
  go_upto_region 1 with fail
  rw [← HW.out]
  clear HW
  go_wp2_with fail
  refine Calls.mono (C1.out _) ?_
  rintro e w' ⟨rfl, rfl⟩
  cases b1
  · go_wp2_with fail
    go_ret
    exact ⟨by rw [HR.out]; rfl, HBL.out⟩
  go_wp2_with fail
  refine Calls.mono (C2.out _) ?_
  rintro e w' ⟨rfl, rfl⟩
  cases b2
  · go_wp2_with fail
    go_ret
    exact ⟨by rw [HR.out]; rfl, HBL.out⟩
  go_wp2_with fail
  refine Calls.mono (C3.out _) ?_
  rintro e w' ⟨rfl, rfl⟩
  cases b3
  · go_wp2_with fail
    go_ret
    exact ⟨by rw [HR.out]; rfl, HBL.out⟩
  go_wp2_with fail
  refine Calls.mono (C4.out _) ?_
  rintro e w' ⟨rfl, rfl⟩
  cases b4
  · go_wp2_with fail
    go_ret
    exact ⟨by rw [HR.out]; rfl, HBL.out⟩
  go_wp2_with fail
  refine Calls.mono C5.out ?_
  rintro e w1 ⟨rfl, hb1⟩
  have p5 := (hb1.cell (p := ⟨w.heap.size, 5, none⟩) (by show w.heap.size < _; rw [HWS.out]; omega)).trans q5
  have HB1 := Lib.hid hb1
  clear hb1
  cases b5
  · go_wp2_with fail
    go_ret
    exact ⟨by rw [HR.out]; rfl, HBL.out.trans (HB1.out.mono HBL.out.size)⟩
  go_wp2_with fail
  refine Calls.mono (C6.out _ HB1.out) ?_
  rintro e w2 ⟨rfl, hb2⟩
  have HB2 := Lib.hid (Below.up HB1.out hb2)
  have p6 := (HB2.out.cell (p := ⟨w.heap.size, 6, none⟩) (by show w.heap.size < _; rw [HWS.out]; omega)).trans q6
  clear hb2
  cases b6
  · go_wp2_with fail
    go_ret
    exact ⟨by rw [HR.out]; rfl, HBL.out.trans (HB2.out.mono HBL.out.size)⟩
  go_wp2_with fail
  refine Calls.mono (C7.out _ HB2.out) ?_
  rintro e w3 ⟨rfl, hb3⟩
  have HB3 := Lib.hid (Below.up HB2.out hb3)
  clear hb3
  go_wp2_with fail
  go_ret
  exact ⟨by rw [HR.out]; rfl, HBL.out.trans (HB3.out.mono HBL.out.size)⟩
def vAny (_ : Vt × Vc) : Bool := true
def vAb (x y : Vt × Vc) : Bool := decide (y.1.f < x.1.f)
def vBad (n : Int) (x : Vt × Vc) : Bool := !decide (x.1.vw = n) || !voteB x.1 x.2
/-- P3.1: four at most, by their senders, each a vote for that view -/
def fitVsB (l : List (Vt × Vc)) (n : Int) : Bool := decide (l.length ≤ 4) && ((List.range l.length).all (stepB vAny vAb l) && !l.any (vBad n))

theorem vt_load {w' : World} {b o : Nat} {x : Vt} (G : ∀ i u, x.cells[i]? = some u → w'.cell? ⟨b, o + i, none⟩ = some u) : (Instr.loadAt 32 (.pointer (some ⟨b, o, none⟩))).run Tryz.prog w' = .ok (.agg x.cells.toArray) w' := by
  have q0 : w'.cell? ⟨b, o, none⟩ = some (.int .u8 x.f) := G 0 _ rfl
  have q1 : w'.cell? ⟨b, o + 1, none⟩ = some (.int .u8 x.e) := G 1 _ rfl
  have q2 : w'.cell? ⟨b, o + 2, none⟩ = some (.int .u32 x.vw) := G 2 _ rfl
  have q3 : w'.cell? ⟨b, o + 3, none⟩ = some (.int .u32 x.lo) := G 3 _ rfl
  have q4 : w'.cell? ⟨b, o + 4, none⟩ = some (.slice x.ms.a x.ms.n x.ms.c) := G 4 _ rfl
  have q5 : w'.cell? ⟨b, o + 5, none⟩ = some (.slice x.p.a x.p.n x.p.c) := G 5 _ rfl
  have q6 : w'.cell? ⟨b, o + 6, none⟩ = some (.slice x.q.a x.q.n x.q.c) := G 6 _ rfl
  have a32 := Tryz.isAgg32; have z32 := Tryz.sizeOf32; have u32 := Tryz.underlying32
  simp only [Vt.cells]
  go_simp

set_option maxHeartbeats 2000000 in
theorem bad_any (w : World) (g : Nat) (n : Int) (x : Vt) (c : Vc) (hg : w.cell? ⟨g, 0, none⟩ = some (.int .u32 n)) (hv : VtAt w x c) (hok : VcOk c) (ht : Tab w) :
    Calls Tryz.prog 99 #[.agg x.cells.toArray, .pointer (some ⟨g, 0, none⟩)] w fun e w' => e = .returned (.bool (vBad n (x, c))) ∧ Below w.heap.size w w' := by
  obtain ⟨r, hr⟩ : ∃ r, r = vBad n (x, c) := ⟨_, rfl⟩
  rw [← hr]
  unfold vBad at hr
  simp only at hr
  obtain ⟨W, hW⟩ : ∃ W, W = w.alloc (.cells x.cells.toArray 32) := ⟨_, rfl⟩
  have hbl := bl1 hW
  have hn : W.heap[w.heap.size]? = some (.cells x.cells.toArray 32 (0, 0)) := by rw [hW]; exact heap_alloc_new _ _
  have C := Lib.hid (isVote_any W x c (hv.below hbl) hok (Tab.on ht hbl))
  have qg := (hbl.cell (p := ⟨g, 0, none⟩) (cell_block hg)).trans hg
  have q0 : W.cell? ⟨w.heap.size, 0, none⟩ = some (.int .u8 x.f) := by rw [cell_of_row _ _ _ _ _ _ hn]; rfl
  have q1 : W.cell? ⟨w.heap.size, 1, none⟩ = some (.int .u8 x.e) := by rw [cell_of_row _ _ _ _ _ _ hn]; rfl
  have q2 : W.cell? ⟨w.heap.size, 2, none⟩ = some (.int .u32 x.vw) := by rw [cell_of_row _ _ _ _ _ _ hn]; rfl
  have q3 : W.cell? ⟨w.heap.size, 3, none⟩ = some (.int .u32 x.lo) := by rw [cell_of_row _ _ _ _ _ _ hn]; rfl
  have q4 : W.cell? ⟨w.heap.size, 4, none⟩ = some (.slice x.ms.a x.ms.n x.ms.c) := by rw [cell_of_row _ _ _ _ _ _ hn]; rfl
  have q5 : W.cell? ⟨w.heap.size, 5, none⟩ = some (.slice x.p.a x.p.n x.p.c) := by rw [cell_of_row _ _ _ _ _ _ hn]; rfl
  have q6 : W.cell? ⟨w.heap.size, 6, none⟩ = some (.slice x.q.a x.q.n x.q.c) := by rw [cell_of_row _ _ _ _ _ _ hn]; rfl
  generalize voteB x c = vb at C hr
  have HR := Lib.hid hr
  have HBL := Lib.hid hbl
  have HW := Lib.hid hW
  clear hr hbl hW hn hv hok ht hg
  simp only [Vt.cells] at HW C ⊢
  go_enter Tryz.func99, Tryz.ntmps99
  go_upto_region 1 with fail
  rw [← HW.out]
  clear HW
  by_cases h : x.vw = n
  · subst h
    go_wp2_with fail
    refine Calls.mono C.out ?_
    rintro e w1 ⟨rfl, hb⟩
    have HB := Lib.hid (HBL.out.trans (hb.mono HBL.out.size))
    clear hb
    go_wp2_with fail
    go_ret
    exact ⟨by rw [HR.out]; simp, HB.out⟩
  · have d : (x.vw == n) = false := by simp [h]
    have H := Lib.hid h
    clear h
    go_wp2_with fail
    go_ret
    exact ⟨by rw [HR.out]; simp [H.out], HBL.out⟩

theorem any_up {α : Type} {p : α → Bool} {xs : List α} (h : ∀ (i : Nat) x, xs[i]? = some x → p x = false) : xs.any p = false := by
  rw [List.any_eq_false]
  intro x hx
  obtain ⟨i, hi⟩ := List.mem_iff_getElem?.1 hx
  simp [h i x hi]
theorem any_at {α : Type} {p : α → Bool} {xs : List α} {i : Nat} {x : α} (h : xs[i]? = some x) (hp : p x = true) : xs.any p = true := by
  rw [List.any_eq_true]
  exact ⟨x, List.mem_of_getElem? h, hp⟩

set_option maxHeartbeats 4000000 in
theorem indexBad_any (w : World) (g : Nat) (n : Int) (v : Sl) (xs : List (Vt × Vc)) (hg : w.cell? ⟨g, 0, none⟩ = some (.int .u32 n)) (h1 : VsAt w v xs) (hok : ∀ x ∈ xs, VcOk x.2) (ht : Tab w) :
    Calls Tryz.prog 115 #[.slice v.a v.n v.c, .func (.func 99) #[] #[.pointer (some ⟨g, 0, none⟩)]] w fun e w' => ∃ k : Int, e = .returned (.int .i64 k) ∧ -1 ≤ k ∧ k ≤ 1000000 ∧ decide (0 ≤ k) = xs.any (vBad n) ∧ Below w.heap.size w w' := by
  have M1 := Lib.hid h1.2
  obtain ⟨⟨a1, c1, q1, -, -, hn1, hr1⟩, -⟩ := h1
  simp only [Sl.val] at q1
  rw [q1]
  clear q1
  have H1 := Lib.hid hr1
  have CB := Lib.hid (fun w' x c (h : Below w.heap.size w w') (hx : (x, c) ∈ xs) => bad_any w' g n x c ((h.cell (cell_block hg)).trans hg) ((M1.out _ hx).below h) (hok _ hx) (Tab.on ht h))
  clear hr1 hok ht hg
  generalize hn : xs.length = m at *
  have HN := Lib.hid hn
  clear hn
  go_enter Tryz.func115, Tryz.ntmps115
  go_wp2_with fail
  go_loopw [8] (fun vi wr => ∃ j : Nat, j ≤ m ∧ vi = .int .i64 j ∧ Hid (Below w.heap.size w wr) ∧ Hid (∀ (i : Nat) x, i < j → xs[i]? = some x → vBad n x = false)) (fun i _ => m - (intOf i).toNat)
  case atStart => exact ⟨0, by omega, rfl, Lib.hid (Below.refl _ _), Lib.hid (fun i _ h => by omega)⟩
  case round =>
    obtain ⟨j, hj, rfl, HB, A⟩ := hrel
    by_cases hlt : j < m
    · obtain ⟨x, hx⟩ : ∃ x, xs[j]? = some x := ⟨_, List.getElem?_eq_getElem (by rw [HN.out]; exact hlt)⟩
      obtain ⟨b1, o1, e1, g1⟩ := H1.out j x hx
      have G : ∀ i u, (vcell x)[i]? = some u → wr.cell? ⟨b1, o1 + j * 7 + i, none⟩ = some u := fun i u hu => by
        have h3 := g1 i u hu
        rw [HB.out.cell (cell_block h3)]; exact h3
      obtain ⟨x, c⟩ := x
      have C := Lib.hid (CB.out wr x c HB.out (List.mem_of_getElem? hx))
      have HX := Lib.hid hx
      have l10 : wr.cell? ⟨b1, o1 + j * 7, none⟩ = some (.int .u8 x.f) := G 0 _ rfl
      have l11 : wr.cell? ⟨b1, o1 + j * 7 + 1, none⟩ = some (.int .u8 x.e) := G 1 _ rfl
      have l12 : wr.cell? ⟨b1, o1 + j * 7 + 2, none⟩ = some (.int .u32 x.vw) := G 2 _ rfl
      have l13 : wr.cell? ⟨b1, o1 + j * 7 + 3, none⟩ = some (.int .u32 x.lo) := G 3 _ rfl
      have l14 : wr.cell? ⟨b1, o1 + j * 7 + 4, none⟩ = some (.slice x.ms.a x.ms.n x.ms.c) := G 4 _ rfl
      have l15 : wr.cell? ⟨b1, o1 + j * 7 + 5, none⟩ = some (.slice x.p.a x.p.n x.p.c) := G 5 _ rfl
      have l16 : wr.cell? ⟨b1, o1 + j * 7 + 6, none⟩ = some (.slice x.q.a x.q.n x.q.c) := G 6 _ rfl
      generalize hs : vBad n (x, c) = sb at C
      have HS := Lib.hid hs
      simp only [Vt.cells] at C
      clear hx g1 G hs
      subst e1
      go_wp2_with fail
      refine Calls.mono C.out ?_
      rintro e w1 ⟨rfl, hb⟩
      have HB1 := Lib.hid (HB.out.trans (hb.mono HB.out.size))
      clear hb
      cases sb
      · go_wp2_with fail
        go_round
        case measure => simp [intOf]; omega
        case rel =>
          refine ⟨j + 1, by omega, by go_num, HB1, Lib.hid (fun i y hi hy => ?_)⟩
          by_cases e : i = j
          · subst e; rw [HX.out] at hy; injection hy with hy; subst hy; exact HS.out
          · exact A.out i y (by omega) hy
      · go_wp2_with fail
        go_ret
        refine ⟨j, rfl, by omega, by omega, ?_, HB1.out⟩
        rw [any_at HX.out HS.out]; simp
    · obtain rfl : j = m := by omega
      go_wp2_with fail
      go_ret
      refine ⟨-1, rfl, by omega, by omega, ?_, HB.out⟩
      rw [any_up (fun i x hx => A.out i x (by rw [← HN.out]; exact (List.getElem?_eq_some_iff.1 hx).1) hx)]; rfl

set_option maxHeartbeats 2000000 in
theorem containsBad_any (w : World) (g : Nat) (n : Int) (v : Sl) (xs : List (Vt × Vc)) (hg : w.cell? ⟨g, 0, none⟩ = some (.int .u32 n)) (h1 : VsAt w v xs) (hok : ∀ x ∈ xs, VcOk x.2) (ht : Tab w) :
    Calls Tryz.prog 98 #[.slice v.a v.n v.c, .func (.func 99) #[] #[.pointer (some ⟨g, 0, none⟩)]] w fun e w' => e = .returned (.bool (xs.any (vBad n))) ∧ Below w.heap.size w w' := by
  have C := Lib.hid (indexBad_any w g n v xs hg h1 hok ht)
  generalize xs.any (vBad n) = ab at *
  clear h1 hok ht hg
  go_enter Tryz.func98, Tryz.ntmps98
  go_wp2_with fail
  refine Calls.mono C.out ?_
  rintro e w1 ⟨k, rfl, hk1, hk2, hk, hb⟩
  have HB := Lib.hid hb
  have HK := Lib.hid hk
  clear hb hk
  by_cases h0 : k ≥ 0
  · have H0 := Lib.hid h0
    go_wp2_with fail
    go_ret
    exact ⟨by rw [← HK.out, decide_eq_true H0.out]; rfl, HB.out⟩
  · have H0 := Lib.hid (show decide (0 ≤ k) = false by simpa using h0)
    go_wp2_with fail
    go_ret
    exact ⟨by rw [← HK.out, H0.out]; rfl, HB.out⟩

theorem fit_short {l : List (Vt × Vc)} {n : Int} (h : ¬ l.length ≤ 4) : fitVsB l n = false := by unfold fitVsB; simp [h]
theorem fit_order {l : List (Vt × Vc)} {n : Int} {j : Nat} (hj : j < l.length) (h : stepB vAny vAb l j = false) : fitVsB l n = false := by
  unfold fitVsB
  have : (List.range l.length).all (stepB vAny vAb l) = false := by
    rw [List.all_eq_false]; exact ⟨j, List.mem_range.2 hj, by simp [h]⟩
  rw [this]; simp
theorem fit_rest {l : List (Vt × Vc)} {n : Int} (h4 : l.length ≤ 4) (h : ∀ i, i < l.length → stepB vAny vAb l i = true) : fitVsB l n = !l.any (vBad n) := by
  unfold fitVsB
  have : (List.range l.length).all (stepB vAny vAb l) = true := by
    rw [List.all_eq_true]; intro i hi; exact h i (List.mem_range.1 hi)
  rw [this]; simp [h4]

set_option maxHeartbeats 4000000 in
theorem fitVotes_any (w : World) (n : Int) (v : Sl) (xs : List (Vt × Vc)) (h1 : VsAt w v xs) (hok : ∀ x ∈ xs, VcOk x.2) (ht : Tab w) :
    Calls Tryz.prog 77 #[.slice v.a v.n v.c, .int .u32 n] w fun e w' => e = .returned (.bool (fitVsB xs n)) ∧ Below w.heap.size w w' := by
  obtain ⟨r, hr⟩ : ∃ r, r = fitVsB xs n := ⟨_, rfl⟩
  rw [← hr]
  have HR := Lib.hid hr
  obtain ⟨W0, hW0⟩ : ∃ W, W = w.alloc (.cells #[.int .u32 n] 22) := ⟨_, rfl⟩
  have hbl : Below w.heap.size w W0 := by rw [hW0]; exact (Below.refl _ _).alloc (Nat.le_refl _) _
  have hgn : W0.cell? ⟨w.heap.size, 0, none⟩ = some (.int .u32 n) := by rw [hW0]; simp
  have CC := Lib.hid (fun w' (h : Below W0.heap.size W0 w') => containsBad_any w' w.heap.size n v xs ((h.cell (cell_block hgn)).trans hgn) ((h1.below hbl).below h) hok (Tab.on (Tab.on ht hbl) h))
  obtain ⟨a1, c1, q1, -, -, hn1, hr1⟩ := (h1.below hbl).1
  simp only [Sl.val] at q1
  rw [q1] at CC ⊢
  clear q1
  have H1 := Lib.hid hr1
  have HBL := Lib.hid hbl
  have HUP := Lib.hid (fun w' (h : Below W0.heap.size W0 w') => hbl.trans (h.mono hbl.size))
  have HW0 := Lib.hid hW0
  clear hr1 hr h1 hok ht hbl hgn hW0
  have hmf : ∀ (fn : Fn) (first cap : Array Value) (w : World), (Instr.makeFunc fn first cap).run Tryz.prog w = .ok (.func fn first cap) w := fun _ _ _ _ => rfl
  by_cases h4 : xs.length ≤ 4
  · generalize hn : xs.length = m at *
    have HN := Lib.hid hn
    have h4' : ¬ (m : Int) > 4 := by omega
    clear hn
    go_enter Tryz.func77, Tryz.ntmps77
    go_upto_region 1 with fail
    rw [← HW0.out]
    clear HW0
    generalize hgg : w.heap.size = gg at *
    go_wp2_with fail
    go_loopw [12] (fun vi wr => ∃ j : Nat, j ≤ m ∧ vi = .int .i64 j ∧ Hid (Below W0.heap.size W0 wr) ∧ Hid (∀ i, i < j → stepB vAny vAb xs i = true)) (fun i _ => m - (intOf i).toNat)
    case atStart => exact ⟨0, by omega, rfl, Lib.hid (Below.refl _ _), Lib.hid (fun i h => by omega)⟩
    case round =>
      obtain ⟨j, hj, rfl, HB, A⟩ := hrel
      by_cases hlt : j < m
      · obtain ⟨x, hx⟩ : ∃ x, xs[j]? = some x := ⟨_, List.getElem?_eq_getElem (by rw [HN.out]; exact hlt)⟩
        obtain ⟨b1, o1, e1, g1⟩ := H1.out j x hx
        have G : ∀ i u, (vcell x)[i]? = some u → wr.cell? ⟨b1, o1 + j * 7 + i, none⟩ = some u := fun i u hu => by
          have h3 := g1 i u hu
          rw [HB.out.cell (cell_block h3)]; exact h3
        have HX := Lib.hid hx
        have l10 : wr.cell? ⟨b1, o1 + j * 7, none⟩ = some (.int .u8 x.1.f) := G 0 _ rfl
        have l11 : wr.cell? ⟨b1, o1 + j * 7 + 1, none⟩ = some (.int .u8 x.1.e) := G 1 _ rfl
        have l12 : wr.cell? ⟨b1, o1 + j * 7 + 2, none⟩ = some (.int .u32 x.1.vw) := G 2 _ rfl
        have l13 : wr.cell? ⟨b1, o1 + j * 7 + 3, none⟩ = some (.int .u32 x.1.lo) := G 3 _ rfl
        have l14 : wr.cell? ⟨b1, o1 + j * 7 + 4, none⟩ = some (.slice x.1.ms.a x.1.ms.n x.1.ms.c) := G 4 _ rfl
        have l15 : wr.cell? ⟨b1, o1 + j * 7 + 5, none⟩ = some (.slice x.1.p.a x.1.p.n x.1.p.c) := G 5 _ rfl
        have l16 : wr.cell? ⟨b1, o1 + j * 7 + 6, none⟩ = some (.slice x.1.q.a x.1.q.n x.1.q.c) := G 6 _ rfl
        have HNEW := Lib.hid (fun o => HB.out.alloc HB.out.size o)
        clear hx g1 G
        subst e1
        go_upto_region 6 with fail
        obtain ⟨W, hW⟩ : ∃ W, W = wr.alloc (.cells x.1.cells.toArray 32) := ⟨_, rfl⟩
        have p0 : W.cell? ⟨wr.heap.size, 0, none⟩ = some (.int .u8 x.1.f) := by rw [hW]; simp [Vt.cells]
        have HBW := Lib.hid (show Below W0.heap.size W0 W by rw [hW]; exact HNEW.out _)
        simp only [Vt.cells] at hW
        rw [← hW]
        clear hW l10 l11 l12 l13 l14 l15 l16 HNEW
        rcases Nat.eq_zero_or_pos j with h0 | h0
        · subst h0
          go_quiet (fail)
          go_wp2_with fail
          go_round
          case measure => simp [intOf]; omega
          case rel =>
            refine ⟨1, by omega, by go_num, Lib.hid (bel_drewN HBW.out _), Lib.hid (fun i hi => ?_)⟩
            obtain rfl : i = 0 := by omega
            rw [stepB_zero HX.out]; rfl
        · obtain ⟨i, rfl⟩ : ∃ i, j = i + 1 := ⟨j - 1, by omega⟩
          obtain ⟨y, hy⟩ : ∃ y, xs[i]? = some y := ⟨_, List.getElem?_eq_getElem (by rw [HN.out]; omega)⟩
          have py : W.cell? ⟨b1, o1 + i * 7, none⟩ = some (.int .u8 y.1.f) := by
            obtain ⟨b2, o2, e2, g2⟩ := H1.out i y hy
            injection e2 with e2; injection e2 with e3 e4; subst e3; subst e4
            have h3 : W0.cell? ⟨b1, o1 + i * 7, none⟩ = some (.int .u8 y.1.f) := g2 0 _ rfl
            rw [HBW.out.cell (cell_block h3)]; exact h3
          have HY := Lib.hid hy
          clear hy
          by_cases hg : y.1.f ≥ x.1.f
          · have e : stepB vAny vAb xs (i + 1) = false := by
              rw [stepB_succ HX.out HY.out]; unfold vAb vAny; simp; omega
            have HE := Lib.hid e
            clear e
            go_quiet (fail)
            go_wp2_with fail
            go_ret
            refine ⟨?_, by rw [hgg]; exact HUP.out _ (bel_drewN HBW.out _)⟩
            rw [HR.out, fit_order (by rw [HN.out]; exact hlt) HE.out]; rfl
          · have e : stepB vAny vAb xs (i + 1) = true := by
              rw [stepB_succ HX.out HY.out]; unfold vAb vAny; simp; omega
            have HE := Lib.hid e
            clear e
            go_quiet (fail)
            go_wp2_with fail
            go_round
            case measure => simp [intOf]; omega
            case rel =>
              refine ⟨i + 2, by omega, by go_num, Lib.hid (bel_drewN HBW.out _), Lib.hid (fun k hk => ?_)⟩
              by_cases e : k = i + 1
              · subst e; exact HE.out
              · exact A.out k (by omega)
      · obtain rfl : j = m := by omega
        have hend := fit_rest (n := n) (by rw [HN.out]; exact h4) (by rw [HN.out]; exact A.out)
        have C := Lib.hid (CC.out wr HB.out)
        generalize xs.any (vBad n) = ab at C hend
        have HEND := Lib.hid hend
        clear hend
        go_wp2_with fail
        refine Calls.mono C.out ?_
        rintro e w1 ⟨rfl, hb⟩
        have HB1 := Lib.hid (HUP.out _ (Below.up HB.out hb))
        clear hb
        go_wp2_with fail
        go_ret
        exact ⟨by rw [HR.out, HEND.out]; rfl, by rw [hgg]; exact HB1.out⟩
  · have HL := Lib.hid (fit_short (n := n) h4)
    generalize hn : xs.length = m at *
    have h4' : (m : Int) > 4 := by omega
    clear hn
    go_enter Tryz.func77, Tryz.ntmps77
    go_upto_region 1 with fail
    rw [← HW0.out]
    clear HW0
    go_wp2_with fail
    go_ret
    exact ⟨by rw [HR.out, HL.out]; rfl, HBL.out⟩
/-- what lies in w lies apart from the writer, and is as it was when the writer began -/
structure Fro (w W0 : World) (B : Nat) (g : Option Nat) : Prop where
  bel : Below w.heap.size w W0
  hB : w.heap.size ≤ B
  hg : ∀ k, g = some k → w.heap.size ≤ k
theorem Fro.on {w W0 w1 : World} {B : Nat} {g : Option Nat} {ys : List Int} (h : Fro w W0 B g) (hw : Wrote W0 B g ys w1) : Below w.heap.size w w1 :=
  h.bel.trans (hw.bel (H := w.heap.size) h.bel.size h.hB h.hg)

def enB (x : En) : List Int := b4 x.s ++ (b4 x.v ++ x.rq.bytes)
def mkB (x : Mk) : List Int := b4 x.s ++ be8 x.r
def entsB (l : List En) : List Int := [(l.length : Int)] ++ l.flatMap enB
def marksY (l : List Mk) : List Int := [(l.length : Int)] ++ l.flatMap mkB
def voteY (v : Vt) (c : Vc) : List Int := [v.f] ++ ([v.e] ++ (b4 v.vw ++ (b4 v.lo ++ (marksY c.ms ++ (entsB c.p ++ entsB c.q)))))

theorem be8_len (x : Int) : (be8 x).length = 8 := by simp [be8]
theorem enB_len (x : En) : (enB x).length = 17 := by simp [enB, b4, Rq.bytes, b2]
theorem mkB_len (x : Mk) : (mkB x).length = 12 := by simp [mkB, b4, be8_len]
theorem flatMap_len {α : Type} {f : α → List Int} {k : Nat} (h : ∀ x, (f x).length = k) : ∀ l : List α, (l.flatMap f).length = l.length * k
  | [] => by simp
  | x :: r => by simp only [List.flatMap_cons, List.length_append, List.length_cons, h x, flatMap_len h r, Nat.add_mul]; omega
theorem entsB_len (l : List En) : (entsB l).length = 1 + l.length * 17 := by simp [entsB, flatMap_len enB_len]; omega
theorem marksY_len (l : List Mk) : (marksY l).length = 1 + l.length * 12 := by simp [marksY, flatMap_len mkB_len]; omega
def votesY (l : List (Vt × Vc)) : List Int := [(l.length : Int)] ++ l.flatMap fun x => voteY x.1 x.2
/-- the bytes of a part -/
def partY (m : Mg) (c : Mc) (p : Int) : List Int := if p = 7 then voteY m.vt c.vt else if p = 8 then votesY c.vs else if p = 9 then c.sm.flatMap be8 else if p = 10 then lenBytes c.dt else wordB m p

def Vc.few (c : Vc) : Prop := c.ms.length ≤ 40 ∧ c.p.length ≤ 40 ∧ c.q.length ≤ 40
theorem voteY_len {v : Vt} {c : Vc} (h : c.few) : (voteY v c).length ≤ 1853 := by
  obtain ⟨h1, h2, h3⟩ := h
  have a1 := marksY_len c.ms
  have a2 := entsB_len c.p
  have a3 := entsB_len c.q
  simp only [voteY, List.length_append, a1, a2, a3, b4, List.length_cons, List.length_nil]
  omega

/-- the requests of all its lists are in range -/
def McOk (c : Mc) : Prop := VcOk c.vt ∧ ∀ x ∈ c.vs, VcOk x.2
/-- P3.1, P3.2: a message -/
def isM (m : Mg) (c : Mc) : Bool := isB m c (voteB m.vt c.vt) (fitVsB c.vs m.vw)
/-- P3.3: its bytes -/
def encM (m : Mg) (c : Mc) : List Int := encUp m (partY m c) (partsOf m.k)

theorem is_all (w : World) (m : Mg) (c : Mc) (hm : MgAt w m c) (hok : McOk c) (ht : Tab w) : Calls Tryz.prog 10 #[.agg m.cells.toArray] w fun e w' => e = .returned (.bool (isM m c)) ∧ Below w.heap.size w w' :=
  is_any w m c hm (voteB m.vt c.vt) (fitVsB c.vs m.vw) (fun _ w1 h1 => isVote_any w1 m.vt c.vt (hm.vt.below h1) hok.1 (Tab.on ht h1)) (fun _ w1 h1 => fitVotes_any w1 m.vw m.vs c.vs (hm.vs.below h1) hok.2 (Tab.on ht h1))

theorem upB_few {α : Type} {ok : α → Bool} {ab : α → α → Bool} {l : List α} (h : upB ok ab l = true) : l.length ≤ 40 := by
  unfold upB at h; simp at h; exact h.1
theorem voteB_few {v : Vt} {c : Vc} (h : voteB v c = true) : c.few := by
  unfold voteB at h
  simp only [Bool.and_eq_true] at h
  obtain ⟨-, -, -, -, h1, h2, h3⟩ := h
  exact ⟨upB_few h1, upB_few h2, upB_few h3⟩
theorem fitVsB_few {l : List (Vt × Vc)} {n : Int} (h : fitVsB l n = true) : l.length ≤ 4 ∧ ∀ x ∈ l, x.2.few := by
  unfold fitVsB at h
  simp only [Bool.and_eq_true, decide_eq_true_eq, Bool.not_eq_true', List.any_eq_false] at h
  refine ⟨h.1, fun x hx => ?_⟩
  have h1 := h.2.2 x hx
  unfold vBad at h1
  simp only [Bool.or_eq_true, Bool.not_eq_true', not_or, Bool.not_eq_false] at h1
  exact voteB_few h1.2

theorem isM_fit {m : Mg} {c : Mc} (h : isM m c = true) {p : Int} (hp : p ∈ partsOf m.k) : fitB m (voteB m.vt c.vt) (fitVsB c.vs m.vw) p = true := by
  unfold isM isB at h
  simp only [Bool.and_eq_true, List.all_eq_true] at h
  exact h.2.2.2 p hp

theorem isM_7 {m : Mg} {c : Mc} (h : isM m c = true) (hp : (7 : Int) ∈ partsOf m.k) : c.vt.few := by
  have := isM_fit h hp
  simp [fitB] at this
  exact voteB_few this.1
theorem isM_8 {m : Mg} {c : Mc} (h : isM m c = true) (hp : (8 : Int) ∈ partsOf m.k) : c.vs.length ≤ 4 ∧ ∀ x ∈ c.vs, x.2.few := by
  have := isM_fit h hp
  simp [fitB] at this
  exact fitVsB_few this
theorem isM_9 {w : World} {m : Mg} {c : Mc} (hm : MgAt w m c) (h : isM m c = true) (hp : (9 : Int) ∈ partsOf m.k) : c.sm.length = 8 := by
  have := isM_fit h hp
  simp [fitB] at this
  obtain ⟨a, k, e, _⟩ := hm.sm
  simp only [Sl.val] at e
  injection e with e1 e2 e3
  rw [← e2]; exact this
theorem isM_10 {w : World} {m : Mg} {c : Mc} (hm : MgAt w m c) (h : isM m c = true) (hp : (10 : Int) ∈ partsOf m.k) : c.dt.length ≤ 64 := by
  have := isM_fit h hp
  simp [fitB] at this
  rw [← hm.dt.1]; exact this
def hm (k f t e : Int) : Mg := { k := k, f := f, t := t, e := e, vw := 0, sq := 0, rq := Rq.zero, ro := 0, ct := 0, pg := 0, rs := 0, vt := Vt.zero, vs := ⟨none, 0, 0⟩, sm := ⟨none, 0, 0⟩, dt := ⟨none, 0, 0⟩ }

/-- a message's block is laid -/
theorem msg_new (V : World) (m : Mg) {U : World} (hU : U = (V.alloc (.cells Vz.toArray 37)).setCells V.heap.size 0 m.cells) :
    U.heap[V.heap.size]? = some (.cells m.cells.toArray 37 (0, 0)) ∧ Below V.heap.size V U ∧ (V.alloc (.cells Vz.toArray 37)).there V.heap.size 0 25 := by
  have hVn : (V.alloc (.cells Vz.toArray 37)).heap[V.heap.size]? = some (.cells Vz.toArray 37 (0, 0)) := heap_alloc_new _ _
  have hkk := fun k (h : k ≠ V.heap.size) => setCells_kept V.heap.size m.cells 0 (V.alloc (.cells Vz.toArray 37)) k h
  refine ⟨?_, ?_, ?_⟩
  · rw [hU, setCells_block _ 37 _ _ _ _ hVn, over_zero]
  · refine ⟨?_, ?_, ?_, ?_, fun k hk => ?_⟩
    · rw [hU, (hkk (V.heap.size + 1) (by omega)).2.2.1]; rfl
    · rw [hU, (hkk (V.heap.size + 1) (by omega)).2.2.2.1]; rfl
    · rw [hU, (hkk (V.heap.size + 1) (by omega)).2.2.2.2]; rfl
    · rw [hU, (hkk (V.heap.size + 1) (by omega)).2.1]; simp
    · rw [hU, (hkk k (by omega)).1]; exact heap_alloc_old _ _ hk
  · intro i hi
    refine ⟨?_, frozen_of_row _ _ _ _ _ hVn⟩
    rw [cell_of_row _ _ _ _ _ _ hVn]; simp [Vz]; omega

theorem nil_at (w : World) (m : Mg) (hv : m.vt.ms = ⟨none, 0, 0⟩ ∧ m.vt.p = ⟨none, 0, 0⟩ ∧ m.vt.q = ⟨none, 0, 0⟩) (h1 : m.vs = ⟨none, 0, 0⟩) (h2 : m.sm = ⟨none, 0, 0⟩) (h3 : m.dt = ⟨none, 0, 0⟩) : MgAt w m Mc.nil := by
  refine ⟨⟨?_, ?_, ?_⟩, ⟨?_, fun x hx => by cases hx⟩, ?_, ?_⟩
  · rw [hv.1]; exact Row.nil _ _ _
  · rw [hv.2.1]; exact Row.nil _ _ _
  · rw [hv.2.2]; exact Row.nil _ _ _
  · rw [h1]; exact Row.nil _ _ _
  · rw [h2]; exact Row.nil _ _ _
  · rw [h3]; exact ⟨rfl, (fun i hi => by simp [Mc.nil] at hi), fun _ => rfl, Nat.le_refl _, by simp [Mc.nil], fun x hx => by simp [Mc.nil] at hx⟩
theorem no_parts {m : Mg} {c : Mc} (h : partsOf m.k = []) : isM m c = false := by simp [isM, isB, h]
theorem Row.kept {α : Type} {S : Nat → Prop} {w w' : World} {k : Nat} {enc : α → List Value} {v : Value} {xs : List α} (h : Row w k enc v xs) (hk : Kept S w w') (hS : ∀ b off n c, v = .slice (some ⟨b, off, none⟩) n c → ¬ S b) : Row w' k enc v xs := by
  obtain ⟨ao, cap, e, h1, h2, h3, h4⟩ := h
  refine ⟨ao, cap, e, h1, h2, h3, fun j x hj => ?_⟩
  obtain ⟨b, off, e2, hc⟩ := h4 j x hj
  refine ⟨b, off, e2, fun i u hu => ?_⟩
  have h5 := hc i u hu
  subst e2
  rw [← h5]
  exact World.cell?_of_block (hk.block b (cell_block h5) (hS b off _ _ e))
end Go.Proofs.YtbpfkeeikhhlnaaGreatDoor
