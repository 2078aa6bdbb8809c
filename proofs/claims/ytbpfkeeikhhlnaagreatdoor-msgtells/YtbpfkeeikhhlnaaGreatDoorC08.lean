/- The document's vote. Laws for stores in a region that draws its order: into the message that 'bare' makes. The document's Is: messages with lists that are too long. The document's numerals: digits tells a number's decimal digits. The document's text of a request. The document's requests, entries, clients: which there may be; which of two entries stands ahead. The document's entries: which there may be; which of two stands ahead. -/
import Derived.Test.YtbpfkeeikhhlnaaGreatDoorC07
import Derived.Test.YtbpfkeeikhhlnaaGreatDoorC04
import Derived.Deep.CutRange
import Derived.Deep.RegionHeld3
import Derived.Test.YtbpfkeeikhhlnaaGreatDoorC02
import Derived.Test.YtbpfkeeikhhlnaaGreatDoorC01
import Derived.Test.YtbpfkeeikhhlnaaGreatDoorC03
import Derived.Test.YtbpfkeeikhhlnaaGreatDoorC06
namespace Go.Proofs.YtbpfkeeikhhlnaaGreatDoor
open Go.RowKit
set_option maxRecDepth 100000

/-- a mark's numbers are in range -/
def MkR (x : Mk) : Prop := (0 ≤ x.s ∧ x.s ≤ 4294967295) ∧ (0 ≤ x.r ∧ x.r ≤ 18446744073709551615)
/-- a vote's numbers are in range -/
def VtR (v : Vt) (c : Vc) : Prop := (0 ≤ v.vw ∧ v.vw ≤ 4294967295) ∧ (0 ≤ v.lo ∧ v.lo ≤ 4294967295) ∧ (∀ x ∈ c.ms, MkR x) ∧ (∀ x ∈ c.p, EnR x) ∧ ∀ x ∈ c.q, EnR x

set_option maxHeartbeats 16000000 in
theorem refVote_any {w : World} {ao : Option Addr} {n c : Nat} {l : List Int} (h : w.ownsRow 0 5 1 (.slice ao n c) n (vals l)) (v : Vt) (cv : Vc) (hrow : ∀ wx a n' c' l', GR w (.slice ao n c) wx a n' c' l' → VtAt wx v cv) (hok : VtR v cv) (hfew : cv.few) (hn : n ≤ 600000) :
    Calls Tryz.prog 30 #[.slice ao n c, .agg v.cells.toArray] w fun e w' => ∃ k ao' c', e = .returned (.slice ao' k c') ∧ GR w (.slice ao n c) w' ao' k c' (l ++ voteY v cv) ∧ k = n + (voteY v cv).length := by
  obtain ⟨W, hW⟩ : ∃ W, W = w.alloc (.cells #[.int .u8 v.f, .int .u8 v.e, .int .u32 v.vw, .int .u32 v.lo, .slice v.ms.a v.ms.n v.ms.c, .slice v.p.a v.p.n v.p.c, .slice v.q.a v.q.n v.q.c] 32) := ⟨_, rfl⟩
  have hbW : Below w.heap.size w W := by rw [hW]; exact (Below.refl _ _).alloc (Nat.le_refl _) _
  have hoW : W.ownsRow 0 5 1 (.slice ao n c) n (vals l) := own_kept h (Kept.ofBelow (S := fun _ => False) hbW) (fun _ _ h => h)
  have hbx : W.heap[w.heap.size]? = some (.cells #[.int .u8 v.f, .int .u8 v.e, .int .u32 v.vw, .int .u32 v.lo, .slice v.ms.a v.ms.n v.ms.c, .slice v.p.a v.p.n v.p.c, .slice v.q.a v.q.n v.q.c] 32 (0, 0)) := by rw [hW]; exact heap_alloc_new _ _
  have hne : (Value.slice ao n c).ownBlock ≠ some w.heap.size := fun e => by have := own_lt h e; omega
  have BX := Lib.hid (fun wx a n' c' l' (g : GR W (.slice ao n c) wx a n' c' l') => show wx.heap[w.heap.size]? = some (.cells #[.int .u8 v.f, .int .u8 v.e, .int .u32 v.vw, .int .u32 v.lo, .slice v.ms.a v.ms.n v.ms.c, .slice v.p.a v.p.n v.p.c, .slice v.q.a v.q.n v.q.c] 32 (0, 0)) by rw [g.block (lt_of_block hbx) hne]; exact hbx)
  have VA := Lib.hid (fun wx a n' c' l' (g : GR W (.slice ao n c) wx a n' c' l') => hrow wx a n' c' l' (g.early hbW))
  have hlm := ((hrow _ _ _ _ _ (GR.start h)).1).len
  have hws : IntKind.u64.wrap v.vw = v.vw := by rw [IntKind.wrap_u64]; unfold VtR at hok; omega
  have hwv : IntKind.u64.wrap v.lo = v.lo := by rw [IntKind.wrap_u64]; unfold VtR at hok; omega
  have hw8 : IntKind.u8.wrap (v.ms.n : Int) = v.ms.n := by
    have : IntKind.u8.wrap (v.ms.n : Int) = (v.ms.n : Int) % 256 := rfl
    have := hfew.1
    omega
  have hmb : (v.ms.n : Int) ≤ 40 := by have := hfew.1; omega
  obtain ⟨m, hm⟩ : ∃ m, m = v.ms.n := ⟨_, rfl⟩
  rw [← hm] at hlm hw8 hmb
  have HMN := Lib.hid hm
  have HLM := Lib.hid hlm
  have HFEW := Lib.hid hfew
  have HOK := Lib.hid hok
  have M0 := GR.start hoW
  obtain ⟨E, hE⟩ : ∃ E, E = w.heap.size := ⟨_, rfl⟩
  rw [← hE] at BX
  have MD := M0.below (Below.refl _ _).drew
  have HBW := Lib.hid hbW
  have HW := Lib.hid hW
  have HE := Lib.hid hE
  simp only [Vt.cells]
  clear hW hE h hok hbW hoW hbx hne hrow hfew hlm hm
  go_enter Tryz.func30, Tryz.ntmps30
  go_upto_region 1 with fail
  rw [← HW.out, ← HE.out]
  refine wp_region_held_drew (S := fun wx => wx.heap[E]? = some (.cells #[.int .u8 v.f, .int .u8 v.e, .int .u32 v.vw, .int .u32 v.lo, .slice v.ms.a v.ms.n v.ms.c, .slice v.p.a v.p.n v.p.c, .slice v.q.a v.q.n v.q.c] 32 (0, 0))) (by kernel_rfl) ((BX.out _ _ _ _ _ MD)) (fun hS => ?_)
  refine tm 0 (.slice ao n c) rfl hS ?_
  refine tg 1 (.pointer (some ⟨E, 0, none⟩)) rfl hS ?_
  refine tk 2 (.int .u8 v.f) rfl (yi_load 5 (.tmp 7) (.pointer (some ⟨E, 0, none⟩)) rfl rfl rfl (fun wq hw => by have q : wq.cell? ⟨E, 0, none⟩ = some (.int .u8 v.f) := (by rw [cell_of_row _ _ _ _ _ _ hw]; rfl); go_simp)) hS ?_
  refine tg 3 (.pointer (some ⟨E, 1, none⟩)) rfl hS ?_
  refine tk 4 (.int .u8 v.e) rfl (yi_load 5 (.tmp 9) (.pointer (some ⟨E, 1, none⟩)) rfl rfl rfl (fun wq hw => by have q : wq.cell? ⟨E, 1, none⟩ = some (.int .u8 v.e) := (by rw [cell_of_row _ _ _ _ _ _ hw]; rfl); go_simp)) hS ?_
  refine tg 7 (.pointer (some ⟨E, 2, none⟩)) rfl hS ?_
  refine tk 8 (.int .u32 v.vw) rfl (yi_load 22 (.tmp 13) (.pointer (some ⟨E, 2, none⟩)) rfl rfl rfl (fun wq hw => by have q : wq.cell? ⟨E, 2, none⟩ = some (.int .u32 v.vw) := (by rw [cell_of_row _ _ _ _ _ _ hw]; rfl); go_simp)) hS ?_
  refine tk 9 (.int .u64 v.vw) rfl (.inl ⟨rfl, fun _ _ => by go_simp <;> first | exact hws | exact hwv⟩) hS ?_
  refine tg 11 (.pointer (some ⟨E, 3, none⟩)) rfl hS ?_
  refine tk 12 (.int .u32 v.lo) rfl (yi_load 22 (.tmp 17) (.pointer (some ⟨E, 3, none⟩)) rfl rfl rfl (fun wq hw => by have q : wq.cell? ⟨E, 3, none⟩ = some (.int .u32 v.lo) := (by rw [cell_of_row _ _ _ _ _ _ hw]; rfl); go_simp)) hS ?_
  refine tk 13 (.int .u64 v.lo) rfl (.inl ⟨rfl, fun _ _ => by go_simp <;> first | exact hws | exact hwv⟩) hS ?_
  refine rdy1 5 rfl (fun K hK => ?_)
  rw [if_pos (by rfl)]
  go_simp
  refine hK.out _ _ ((BX.out _ _ _ _ _ (M0.below (((Below.refl _ _).alloc (Nat.le_refl _) _).drew)))) (fun hS => ?_)
  clear hK K
  refine rdy1 6 rfl (fun K hK => ?_)
  rw [if_pos (by rfl)]
  refine app_e (M0.below (((Below.refl _ _).alloc (Nat.le_refl _) _).drew)) (.tmp 6) (.tmp 11) rfl rfl (some ⟨W.heap.size, 0, none⟩) 2 2 [v.f, v.e] rfl rfl (by exact bytes_new _ [v.f, v.e] 5) (by intro h; cases h) (by omega) ?_
  intro a1 c1 w1 M1
  refine hK.out _ _ ((BX.out _ _ _ _ _ M1)) (fun hS => ?_)
  clear hK K
  refine rdy1 10 rfl (fun K hK => ?_)
  rw [if_pos (by rfl)]
  go_simp
  refine Calls.mono ((put_e M1 v.vw 4 (n + 2 + 4) (by decide) (by omega) rfl)) ?_
  rintro e w2 ⟨a2, c2, rfl, M2⟩
  refine hK.out _ _ ((BX.out _ _ _ _ _ M2)) (fun hS => ?_)
  clear hK K
  refine rdy1 14 rfl (fun K hK => ?_)
  rw [if_pos (by rfl)]
  go_simp
  refine Calls.mono ((put_e M2 v.lo 4 (n + 2 + 4 + 4) (by decide) (by omega) rfl)) ?_
  rintro e w3 ⟨a3, c3, rfl, M3⟩
  refine hK.out _ _ ((BX.out _ _ _ _ _ M3)) (fun hS => ?_)
  clear hK K
  refine tm 15 (.slice a3 (n + 2 + 4 + 4) c3) rfl hS ?_
  refine wpAnyH_done (by kernel_rfl) ?_ _
  have HM3 := Lib.hid M3
  have hl3 := M3
  obtain ⟨q, hq⟩ : ∃ q, q = n + 2 + 4 + 4 := ⟨_, rfl⟩
  rw [← hq] at HM3 ⊢
  have hqb : q ≤ 600010 := by omega
  have HQ := Lib.hid hq
  have q4 : w3.cell? ⟨E, 4, none⟩ = some (.slice v.ms.a m v.ms.c) := by rw [cell_of_row _ _ _ _ _ _ hS, HMN.out]; rfl
  have HO := Lib.hid (HM3.out.below ((Below.refl _ _).alloc (Nat.le_refl _) (.cells #[.int .u8 (m : Int)] 5)))
  clear hS M0 M1 M2 M3 MD hl3 hq hws hwv
  go_upto_region 2 with fail
  go_wp2_with (at_builtin
               refine wpList_app _ rfl (.tmp 21) (.tmp 26) rfl (.slice a3 q c3) q _ rfl HO.out.own (some ⟨w3.heap.size, 0, none⟩) 1 1 [(m : Int)] rfl rfl (bytes_new w3 [(m : Int)] 5) (by intro h; cases h) (by omega) ?_
               intro a4 c4 w4 ho4 hk4 hg4
               have M4 := Lib.hid (HO.out.step ho4 hk4 (hg4.elim .inl (fun e => .inr ⟨_, e, Nat.le_refl _⟩)))
               clear ho4 hk4 hg4)
  go_loopw [0, 5] (fun v0 v5 wr => ∃ (j : Nat) (a1 : Option Addr) (c1 : Nat), v0 = .slice a1 (q + 1 + 12 * j) c1 ∧ v5 = .int .i64 j ∧ j ≤ m ∧ Hid (GR W (.slice ao n c) wr a1 (q + 1 + 12 * j) c1 (l ++ [v.f, v.e] ++ be v.vw 4 ++ be v.lo 4 ++ [(m : Int)] ++ (cv.ms.take j).flatMap mkB))) (fun _ v5 _ => m - (intOf v5).toNat)
  case atStart => exact ⟨0, a4, c4, rfl, rfl, by omega, Lib.hid (by simpa using M4.out)⟩
  case round =>
    clear q4
    obtain ⟨j, a5, c5, rfl, rfl, hj, I⟩ := hrel
    have hbE := BX.out _ _ _ _ _ I.out
    have q4 : wr.cell? ⟨E, 4, none⟩ = some (.slice v.ms.a m v.ms.c) := by rw [cell_of_row _ _ _ _ _ _ hbE, HMN.out]; rfl
    clear hbE
    by_cases hjm : j < m
    · have hjm' : (j : Int) < m := by omega
      obtain ⟨x, hx⟩ : ∃ x, cv.ms[j]? = some x := ⟨_, List.getElem?_eq_getElem (by rw [← HLM.out]; exact hjm)⟩
      obtain ⟨b, o, ha, _⟩ := ((VA.out _ _ _ _ _ I.out).1).cells (by rw [← HLM.out]; omega)
      have HS := Lib.hid (fun wx a n' c' l' (g : GR W (.slice ao n c) wx a n' c' l') => show RowC wx 2 Mk.cells cv.ms b o by
        obtain ⟨b', o', ha', hc⟩ := ((VA.out _ _ _ _ _ g).1).cells (by rw [← HLM.out]; omega)
        rw [ha] at ha'
        injection ha' with ha'
        injection ha' with e1 e2
        subst e1 e2
        exact hc)
      have hxo := HOK.out.2.2.1 x (List.mem_of_getElem? hx)
      have hws : IntKind.u64.wrap x.s = x.s := by rw [IntKind.wrap_u64]; unfold MkR at hxo; omega
      have HX := Lib.hid hx
      have HA := Lib.hid ha
      have ID := I.out.below (Below.refl _ _).drew
      have ID := Lib.hid ID
      rw [ha] at q4
      clear hx hxo ha
      obtain ⟨p, hp⟩ : ∃ p, p = q + 1 + 12 * j := ⟨_, rfl⟩
      rw [← hp] at I ID ⊢
      have hpb : p ≤ 600800 := by omega
      have HP := Lib.hid hp
      clear hp
      go_wp2_with fail
      refine wp_region_held_drew (S := fun wx => wx.heap[E]? = some (.cells #[.int .u8 v.f, .int .u8 v.e, .int .u32 v.vw, .int .u32 v.lo, .slice v.ms.a v.ms.n v.ms.c, .slice v.p.a v.p.n v.p.c, .slice v.q.a v.q.n v.q.c] 32 (0, 0)) ∧ RowC wx 2 Mk.cells cv.ms b o) (by kernel_rfl) (⟨BX.out _ _ _ _ _ ID.out, HS.out _ _ _ _ _ ID.out⟩) (fun hS => ?_)
      refine tm 0 (.slice a5 p c5) rfl hS ?_
      refine tg 1 (.pointer (some ⟨E, 4, none⟩)) rfl hS ?_
      refine tk 2 (.slice (some ⟨b, o, none⟩) m v.ms.c) rfl (yi_load 29 (.tmp 36) (.pointer (some ⟨E, 4, none⟩)) rfl rfl rfl (fun wq hw => by have q : wq.cell? ⟨E, 4, none⟩ = some (.slice (some ⟨b, o, none⟩) m v.ms.c) := (by rw [cell_of_row _ _ _ _ _ _ hw.1, HMN.out, ← HA.out]; rfl); go_simp)) hS ?_
      refine tm 3 (.int .i64 ↑j) rfl hS ?_
      refine tg 4 (.pointer (some ⟨b, o + j * 2, none⟩)) rfl hS ?_
      refine tg 5 (.pointer (some ⟨b, o + j * 2, none⟩)) rfl hS ?_
      refine tk 6 (.int .u32 x.s) rfl (yi_load 22 (.tmp 40) (.pointer (some ⟨b, o + j * 2, none⟩)) rfl rfl rfl (fun wq hw => by have q : wq.cell? ⟨b, o + j * 2, none⟩ = some (.int .u32 x.s) := hw.2 j x HX.out 0 _ rfl; go_simp)) hS ?_
      refine tk 7 (.int .u64 x.s) rfl (.inl ⟨rfl, fun _ _ => by go_simp <;> exact hws⟩) hS ?_
      refine tg 9 (.pointer (some ⟨E, 4, none⟩)) rfl hS ?_
      refine tk 10 (.slice (some ⟨b, o, none⟩) m v.ms.c) rfl (yi_load 29 (.tmp 44) (.pointer (some ⟨E, 4, none⟩)) rfl rfl rfl (fun wq hw => by have q : wq.cell? ⟨E, 4, none⟩ = some (.slice (some ⟨b, o, none⟩) m v.ms.c) := (by rw [cell_of_row _ _ _ _ _ _ hw.1, HMN.out, ← HA.out]; rfl); go_simp)) hS ?_
      refine tm 11 (.int .i64 ↑j) rfl hS ?_
      refine tg 12 (.pointer (some ⟨b, o + j * 2, none⟩)) rfl hS ?_
      refine tg 13 (.pointer (some ⟨b, o + j * 2 + 1, none⟩)) rfl hS ?_
      refine tk 14 (.int .u64 x.r) rfl (yi_load 28 (.tmp 48) (.pointer (some ⟨b, o + j * 2 + 1, none⟩)) rfl rfl rfl (fun wq hw => by have q : wq.cell? ⟨b, o + j * 2 + 1, none⟩ = some (.int .u64 x.r) := hw.2 j x HX.out 1 _ rfl; go_simp)) hS ?_
      refine rdy1 8 rfl (fun K hK => ?_)
      rw [if_pos (by rfl)]
      go_simp
      refine Calls.mono ((put_e ID.out x.s 4 (p + 4) (by decide) (by omega) rfl)) ?_
      rintro e w6 ⟨a6, c6, rfl, M6⟩
      refine hK.out _ _ (⟨BX.out _ _ _ _ _ M6, HS.out _ _ _ _ _ M6⟩) (fun hS => ?_)
      clear hK K
      refine rdy1 15 rfl (fun K hK => ?_)
      rw [if_pos (by rfl)]
      go_simp
      refine Calls.mono ((put_e M6 x.r 8 (p + 4 + 8) (by decide) (by omega) rfl)) ?_
      rintro e w7 ⟨a7, c7, rfl, M7⟩
      refine hK.out _ _ (⟨BX.out _ _ _ _ _ M7, HS.out _ _ _ _ _ M7⟩) (fun hS => ?_)
      clear hK K
      refine tm 16 (.slice a7 (p + 4 + 8) c7) rfl hS ?_
      refine wpAnyH_done (by kernel_rfl) ?_ _
      have M8 := Lib.hid M7
      clear hS M6 M7
      go_wp2_with fail
      have hp := HP.out
      refine ⟨⟨j + 1, a7, c7, by rw [show q + 1 + 12 * (j + 1) = p + 4 + 8 by omega], by go_num, by omega, Lib.hid ?_⟩, by simp [intOf]; omega⟩
      rw [show q + 1 + 12 * (j + 1) = p + 4 + 8 by omega, take_next HX.out]
      have e : l ++ [v.f, v.e] ++ be v.vw 4 ++ be v.lo 4 ++ [(m : Int)] ++ (List.take j cv.ms).flatMap mkB ++ be x.s 4 ++ be x.r 8 = l ++ [v.f, v.e] ++ be v.vw 4 ++ be v.lo 4 ++ [(m : Int)] ++ ((List.take j cv.ms).flatMap mkB ++ mkB x) := by
        simp [mkB, be_4, be_8]
      rw [← e]
      exact M8.out
    · have hjm' : ¬ (j : Int) < m := by omega
      obtain rfl : m = j := by omega
      have hbE := BX.out _ _ _ _ _ I.out
      have ID := I.out.below (Below.refl _ _).drew
      rw [show List.take m cv.ms = cv.ms from List.take_of_length_le (by rw [← HLM.out]; exact Nat.le_refl _)] at ID
      obtain ⟨p, hp⟩ : ∃ p, p = q + 1 + 12 * m := ⟨_, rfl⟩
      rw [← hp] at ID ⊢
      have hpb : p ≤ 600800 := by omega
      have HP := Lib.hid hp
      have ID := Lib.hid ID
      clear hp hbE
      go_wp2_with fail
      refine wp_region_held_drew (S := fun wx => wx.heap[E]? = some (.cells #[.int .u8 v.f, .int .u8 v.e, .int .u32 v.vw, .int .u32 v.lo, .slice v.ms.a v.ms.n v.ms.c, .slice v.p.a v.p.n v.p.c, .slice v.q.a v.q.n v.q.c] 32 (0, 0))) (by kernel_rfl) ((BX.out _ _ _ _ _ ID.out)) (fun hS => ?_)
      refine tm 0 (.slice a5 p c5) rfl hS ?_
      refine tg 1 (.pointer (some ⟨E, 5, none⟩)) rfl hS ?_
      refine tk 2 (.slice v.p.a v.p.n v.p.c) rfl (yi_load 30 (.tmp 52) (.pointer (some ⟨E, 5, none⟩)) rfl rfl rfl (fun wq hw => by have q : wq.cell? ⟨E, 5, none⟩ = some (.slice v.p.a v.p.n v.p.c) := (by rw [cell_of_row _ _ _ _ _ _ hw]; rfl); go_simp)) hS ?_
      refine tg 4 (.pointer (some ⟨E, 6, none⟩)) rfl hS ?_
      refine tk 5 (.slice v.q.a v.q.n v.q.c) rfl (yi_load 30 (.tmp 55) (.pointer (some ⟨E, 6, none⟩)) rfl rfl rfl (fun wq hw => by have q : wq.cell? ⟨E, 6, none⟩ = some (.slice v.q.a v.q.n v.q.c) := (by rw [cell_of_row _ _ _ _ _ _ hw]; rfl); go_simp)) hS ?_
      refine rdy1 3 rfl (fun K hK => ?_)
      rw [if_pos (by rfl)]
      go_simp
      refine Calls.mono ((refList_any ID.out.own v.p cv.p (fun wx a n' c' l' g => (VA.out _ _ _ _ _ (ID.out.trans g)).2.1) HOK.out.2.2.2.1 HFEW.out.2.1 (by omega))) ?_
      rintro e w8 ⟨a8, c8, rfl, R8⟩
      have M8 := ID.out.trans R8
      have hp40 := HFEW.out.2.1
      refine hK.out _ _ ((BX.out _ _ _ _ _ M8)) (fun hS => ?_)
      clear hK K
      refine rdy1 6 rfl (fun K hK => ?_)
      rw [if_pos (by rfl)]
      go_simp
      refine Calls.mono ((refList_any M8.own v.q cv.q (fun wx a n' c' l' g => (VA.out _ _ _ _ _ (M8.trans g)).2.2) HOK.out.2.2.2.2 HFEW.out.2.2 (by omega))) ?_
      rintro e w9 ⟨a9, c9, rfl, R9⟩
      have M9 := M8.trans R9
      refine hK.out _ _ ((BX.out _ _ _ _ _ M9)) (fun hS => ?_)
      clear hK K
      refine tm 7 (.slice a9 (p + 1 + 17 * cv.p.length + 1 + 17 * cv.q.length) c9) rfl hS ?_
      refine wpAnyH_done (by kernel_rfl) ?_ _
      have M10 := Lib.hid (M9.early HBW.out)
      clear hS M8 M9 R8 R9
      go_wp2_with fail
      go_ret
      have e : l ++ [v.f, v.e] ++ be v.vw 4 ++ be v.lo 4 ++ [(m : Int)] ++ cv.ms.flatMap mkB ++ entsB cv.p ++ entsB cv.q = l ++ voteY v cv := by
        simp [voteY, marksY, be_4, HLM.out]
      have M11 := M10.out
      rw [e] at M11
      refine ⟨_, a9, c9, rfl, M11, ?_⟩
      have hq := HQ.out
      have hp := HP.out
      have hlm := HLM.out
      have e1 : (marksY cv.ms).length = 1 + cv.ms.length * 12 := by simp [marksY, flatMap_len mkB_len]; omega
      simp only [voteY, List.length_append, List.length_cons, List.length_nil, entsB_len, e1, b4]
      omega

theorem hwp_st {ty : TypeId} {p v : Value} {w w1 : World} {o : Oper} {a : Act} {ox oy : Operand} {K : Act → World → Prop} {Q : Exit → Act → World → Prop} (h : (Instr.storeAt ty p v).run Tryz.prog w = .ok () w1) (hop : o.op = Op.store ty ox oy) (hx : a.eval ox = p) (hy : a.eval oy = v) (hd : o.dst = none) (hk : K a w1) : Oper.wp Tryz.prog o a w K Q := by
  have e : (execOp a.eval o).run Tryz.prog w = .ok .skip w1 := by
    unfold execOp
    simp [hop, hx, hy, h, Result.andThen]
  unfold Oper.wp
  rw [e, Oper.upon_skip, hd]
  exact hk

theorem Mem.drew {w wr : World} {g : Nat} {m : Mg} {X : Array Value} (h : Mem w wr g m X) : Mem w wr.drew g m X := ⟨h.box, h.res, h.made, h.bel.drew, h.hg⟩

theorem hst22 {w wr : World} {g : Nat} {m : Mg} {X : Array Value} (h : Mem w wr g m X) (hs : X.size = 25) (i : Nat) (hi : i < 25) (x : Int) :
    (Instr.storeAt 22 (.pointer (some ⟨g + 1 + 1, i, none⟩)) (.int .u32 x)).run Tryz.prog wr = .ok () (wr.setCell ⟨g + 1 + 1, i, none⟩ (.int .u32 x)) := by
  have c := h.there i
  have f := h.free i
  obtain ⟨u, hu⟩ : ∃ u, X[i]? = some u := ⟨_, Array.getElem?_eq_getElem (by omega)⟩
  rw [hu] at c
  go_simp

theorem Mem.setRq {w wr : World} {g : Nat} {m : Mg} {X : Array Value} (h : Mem w wr g m X) (a b c d e : Value) :
    Mem w (wr.setCells (g + 1 + 1) 6 [a, b, c, d, e]) g m (((((X.setIfInBounds 6 a).setIfInBounds 7 b).setIfInBounds 8 c).setIfInBounds 9 d).setIfInBounds 10 e) :=
  ((((h.set 6 a).set 7 b).set 8 c).set 9 d).set 10 e

theorem Mem.five {w wr : World} {g : Nat} {m : Mg} {X : Array Value} (h : Mem w wr g m X) (hs : X.size = 25) : wr.there (g + 1 + 1) 6 5 := fun j hj => by
  refine ⟨?_, h.free _⟩
  rw [h.there, Array.getElem?_eq_getElem (by omega)]; rfl

theorem hsize27 : (Tryz.prog.info? 27).map (·.size) = some 5 := by kernel_rfl
theorem hrq_load {w wr : World} {g : Nat} {m : Mg} {X : Array Value} (h : Mem w wr g m X) :
    (Instr.loadAt 27 (.pointer (some ⟨g, 6, none⟩))).run Tryz.prog wr = .ok (.agg #[.int .u8 m.rq.c, .int .u32 m.rq.t, .int .u8 m.rq.k, .int .u8 m.rq.y, .int .u16 m.rq.v]) wr := by
  refine run_loadAt_mid (P := Tryz.prog) wr g 6 27 [.int .u8 m.rq.c, .int .u32 m.rq.t, .int .u8 m.rq.k, .int .u8 m.rq.y, .int .u16 m.rq.v] _ (fun j v hv => ?_) Tryz.underlying27 rfl hsize27
  have hj : j < 5 := by have := (List.getElem?_eq_some_iff.1 hv).1; simpa using this
  rw [h.cell]
  rcases (by omega : j = 0 ∨ j = 1 ∨ j = 2 ∨ j = 3 ∨ j = 4) with rfl | rfl | rfl | rfl | rfl <;> exact hv
theorem hrq_one (a b c d e : Int) : (#[.int .u8 a, .int .u32 b, .int .u8 c, .int .u8 d, .int .u16 e] : Array Value).all (·.oneCell') = true :=
  all_oneCell_toArray (cs := [.int .u8 a, .int .u32 b, .int .u8 c, .int .u8 d, .int .u16 e]) (fun v hv => by
    simp only [List.mem_cons, List.not_mem_nil, or_false] at hv
    rcases hv with rfl | rfl | rfl | rfl | rfl <;> rfl)

/-- the message that is being made lies there -/
def SM (w : World) (m : Mg) (wx : World) : Prop := ∃ X : Array Value, X.size = 25 ∧ Mem w wx w.heap.size m X
theorem SM.cell {w wx : World} {m : Mg} (h : SM w m wx) (i : Nat) : wx.cell? ⟨w.heap.size, i, none⟩ = m.cells[i]? := by
  obtain ⟨X, _, hX⟩ := h
  exact hX.cell i
theorem SM.rq {w wx : World} {m : Mg} (h : SM w m wx) : (Instr.loadAt 27 (.pointer (some ⟨w.heap.size, 6, none⟩))).run Tryz.prog wx = .ok (.agg #[.int .u8 m.rq.c, .int .u32 m.rq.t, .int .u8 m.rq.k, .int .u8 m.rq.y, .int .u16 m.rq.v]) wx := by
  obtain ⟨X, _, hX⟩ := h
  exact hrq_load hX
theorem SM.run22 {w wx : World} {m : Mg} (h : SM w m wx) (i : Nat) (hi : i < 25) (x : Int) :
    (Instr.storeAt 22 (.pointer (some ⟨w.heap.size + 1 + 1, i, none⟩)) (.int .u32 x)).run Tryz.prog wx = .ok () (wx.setCell ⟨w.heap.size + 1 + 1, i, none⟩ (.int .u32 x)) := by
  obtain ⟨X, hXs, hX⟩ := h
  exact hst22 hX hXs i hi x
theorem SM.set {w wx : World} {m : Mg} (h : SM w m wx) (i : Nat) (v : Value) : SM w m (wx.setCell ⟨w.heap.size + 1 + 1, i, none⟩ v) := by
  obtain ⟨X, hXs, hX⟩ := h
  exact ⟨_, by simpa using hXs, hX.set i v⟩
theorem SM.runRq {w wx : World} {m : Mg} (h : SM w m wx) (a b c d e : Int) :
    (Instr.storeAt 27 (.pointer (some ⟨w.heap.size + 1 + 1, 6, none⟩)) (.agg #[.int .u8 a, .int .u32 b, .int .u8 c, .int .u8 d, .int .u16 e])).run Tryz.prog wx = .ok () (wx.setCells (w.heap.size + 1 + 1) 6 [.int .u8 a, .int .u32 b, .int .u8 c, .int .u8 d, .int .u16 e]) := by
  obtain ⟨X, hXs, hX⟩ := h
  exact run_storeAt_mid (P := Tryz.prog) _ (w.heap.size + 1 + 1) 6 27 _ (hX.five hXs) hsize27 (hrq_one _ _ _ _ _)
theorem SM.setRq {w wx : World} {m : Mg} (h : SM w m wx) (a b c d e : Value) : SM w m (wx.setCells (w.heap.size + 1 + 1) 6 [a, b, c, d, e]) := by
  obtain ⟨X, hXs, hX⟩ := h
  exact ⟨_, by simpa using hXs, hX.setRq a b c d e⟩

set_option maxHeartbeats 4000000 in
theorem refIs_long0 (w : World) (m : Mg) (h0 : 4 < m.vs.n) : Calls Tryz.prog 11 #[.agg m.cells.toArray] w fun e w' => e = .returned (.bool false) ∧ Below w.heap.size w w' := by
  obtain ⟨W, hW⟩ : ∃ W, W = w.alloc (.cells m.cells.toArray 37) := ⟨_, rfl⟩
  have hbx := bx1 hW
  have hbl := bl1 hW
  have q22 : W.cell? ⟨w.heap.size, 22, none⟩ = some (.slice m.vs.a m.vs.n m.vs.c) := cell_box hbx 22
  have q23 : W.cell? ⟨w.heap.size, 23, none⟩ = some (.slice m.sm.a m.sm.n m.sm.c) := cell_box hbx 23
  have q24 : W.cell? ⟨w.heap.size, 24, none⟩ = some (.slice m.dt.a m.dt.n m.dt.c) := cell_box hbx 24
  have q19 : W.cell? ⟨w.heap.size, 19, none⟩ = some (.slice m.vt.ms.a m.vt.ms.n m.vt.ms.c) := cell_box hbx 19
  have q20 : W.cell? ⟨w.heap.size, 20, none⟩ = some (.slice m.vt.p.a m.vt.p.n m.vt.p.c) := cell_box hbx 20
  have q21 : W.cell? ⟨w.heap.size, 21, none⟩ = some (.slice m.vt.q.a m.vt.q.n m.vt.q.c) := cell_box hbx 21
  have d0 : decide (4 < (m.vs.n : Int)) = true := by rw [decide_eq_true_eq]; omega
  have HW := Lib.hid hW
  have HB := Lib.hid hbl
  clear hW hbx hbl h0
  generalize m.cells.toArray = A at *
  generalize m.vs.n = n0 at *
  generalize m.sm.n = n1 at *
  generalize m.dt.n = n2 at *
  generalize m.vt.ms.n = n3 at *
  generalize m.vt.p.n = n4 at *
  generalize m.vt.q.n = n5 at *
  go_enter Tryz.func11, Tryz.ntmps11
  go_upto_region 1 with fail
  rw [← HW.out]
  go_wp2_with fail
  exact bodyPost_ret (v := .bool false) (by simp [results, Tryz.results11, go_sem]) rfl ⟨rfl, HB.out⟩

set_option maxHeartbeats 4000000 in
theorem refIs_long1 (w : World) (m : Mg) (h0 : m.vs.n ≤ 4) (h1 : 8 < m.sm.n) : Calls Tryz.prog 11 #[.agg m.cells.toArray] w fun e w' => e = .returned (.bool false) ∧ Below w.heap.size w w' := by
  obtain ⟨W, hW⟩ : ∃ W, W = w.alloc (.cells m.cells.toArray 37) := ⟨_, rfl⟩
  have hbx := bx1 hW
  have hbl := bl1 hW
  have q22 : W.cell? ⟨w.heap.size, 22, none⟩ = some (.slice m.vs.a m.vs.n m.vs.c) := cell_box hbx 22
  have q23 : W.cell? ⟨w.heap.size, 23, none⟩ = some (.slice m.sm.a m.sm.n m.sm.c) := cell_box hbx 23
  have q24 : W.cell? ⟨w.heap.size, 24, none⟩ = some (.slice m.dt.a m.dt.n m.dt.c) := cell_box hbx 24
  have q19 : W.cell? ⟨w.heap.size, 19, none⟩ = some (.slice m.vt.ms.a m.vt.ms.n m.vt.ms.c) := cell_box hbx 19
  have q20 : W.cell? ⟨w.heap.size, 20, none⟩ = some (.slice m.vt.p.a m.vt.p.n m.vt.p.c) := cell_box hbx 20
  have q21 : W.cell? ⟨w.heap.size, 21, none⟩ = some (.slice m.vt.q.a m.vt.q.n m.vt.q.c) := cell_box hbx 21
  have d0 : decide (4 < (m.vs.n : Int)) = false := by rw [decide_eq_false_iff_not]; omega
  have d1 : decide (8 < (m.sm.n : Int)) = true := by rw [decide_eq_true_eq]; omega
  have HW := Lib.hid hW
  have HB := Lib.hid hbl
  clear hW hbx hbl h0 h1
  generalize m.cells.toArray = A at *
  generalize m.vs.n = n0 at *
  generalize m.sm.n = n1 at *
  generalize m.dt.n = n2 at *
  generalize m.vt.ms.n = n3 at *
  generalize m.vt.p.n = n4 at *
  generalize m.vt.q.n = n5 at *
  go_enter Tryz.func11, Tryz.ntmps11
  go_upto_region 1 with fail
  rw [← HW.out]
  go_wp2_with fail
  exact bodyPost_ret (v := .bool false) (by simp [results, Tryz.results11, go_sem]) rfl ⟨rfl, HB.out⟩

set_option maxHeartbeats 4000000 in
theorem refIs_long2 (w : World) (m : Mg) (h0 : m.vs.n ≤ 4) (h1 : m.sm.n ≤ 8) (h2 : 64 < m.dt.n) : Calls Tryz.prog 11 #[.agg m.cells.toArray] w fun e w' => e = .returned (.bool false) ∧ Below w.heap.size w w' := by
  obtain ⟨W, hW⟩ : ∃ W, W = w.alloc (.cells m.cells.toArray 37) := ⟨_, rfl⟩
  have hbx := bx1 hW
  have hbl := bl1 hW
  have q22 : W.cell? ⟨w.heap.size, 22, none⟩ = some (.slice m.vs.a m.vs.n m.vs.c) := cell_box hbx 22
  have q23 : W.cell? ⟨w.heap.size, 23, none⟩ = some (.slice m.sm.a m.sm.n m.sm.c) := cell_box hbx 23
  have q24 : W.cell? ⟨w.heap.size, 24, none⟩ = some (.slice m.dt.a m.dt.n m.dt.c) := cell_box hbx 24
  have q19 : W.cell? ⟨w.heap.size, 19, none⟩ = some (.slice m.vt.ms.a m.vt.ms.n m.vt.ms.c) := cell_box hbx 19
  have q20 : W.cell? ⟨w.heap.size, 20, none⟩ = some (.slice m.vt.p.a m.vt.p.n m.vt.p.c) := cell_box hbx 20
  have q21 : W.cell? ⟨w.heap.size, 21, none⟩ = some (.slice m.vt.q.a m.vt.q.n m.vt.q.c) := cell_box hbx 21
  have d0 : decide (4 < (m.vs.n : Int)) = false := by rw [decide_eq_false_iff_not]; omega
  have d1 : decide (8 < (m.sm.n : Int)) = false := by rw [decide_eq_false_iff_not]; omega
  have d2 : decide (64 < (m.dt.n : Int)) = true := by rw [decide_eq_true_eq]; omega
  have HW := Lib.hid hW
  have HB := Lib.hid hbl
  clear hW hbx hbl h0 h1 h2
  generalize m.cells.toArray = A at *
  generalize m.vs.n = n0 at *
  generalize m.sm.n = n1 at *
  generalize m.dt.n = n2 at *
  generalize m.vt.ms.n = n3 at *
  generalize m.vt.p.n = n4 at *
  generalize m.vt.q.n = n5 at *
  go_enter Tryz.func11, Tryz.ntmps11
  go_upto_region 1 with fail
  rw [← HW.out]
  go_wp2_with fail
  exact bodyPost_ret (v := .bool false) (by simp [results, Tryz.results11, go_sem]) rfl ⟨rfl, HB.out⟩

set_option maxHeartbeats 4000000 in
theorem refIs_long3 (w : World) (m : Mg) (h0 : m.vs.n ≤ 4) (h1 : m.sm.n ≤ 8) (h2 : m.dt.n ≤ 64) (h3 : 40 < m.vt.ms.n) : Calls Tryz.prog 11 #[.agg m.cells.toArray] w fun e w' => e = .returned (.bool false) ∧ Below w.heap.size w w' := by
  obtain ⟨W, hW⟩ : ∃ W, W = w.alloc (.cells m.cells.toArray 37) := ⟨_, rfl⟩
  have hbx := bx1 hW
  have hbl := bl1 hW
  have q22 : W.cell? ⟨w.heap.size, 22, none⟩ = some (.slice m.vs.a m.vs.n m.vs.c) := cell_box hbx 22
  have q23 : W.cell? ⟨w.heap.size, 23, none⟩ = some (.slice m.sm.a m.sm.n m.sm.c) := cell_box hbx 23
  have q24 : W.cell? ⟨w.heap.size, 24, none⟩ = some (.slice m.dt.a m.dt.n m.dt.c) := cell_box hbx 24
  have q19 : W.cell? ⟨w.heap.size, 19, none⟩ = some (.slice m.vt.ms.a m.vt.ms.n m.vt.ms.c) := cell_box hbx 19
  have q20 : W.cell? ⟨w.heap.size, 20, none⟩ = some (.slice m.vt.p.a m.vt.p.n m.vt.p.c) := cell_box hbx 20
  have q21 : W.cell? ⟨w.heap.size, 21, none⟩ = some (.slice m.vt.q.a m.vt.q.n m.vt.q.c) := cell_box hbx 21
  have d0 : decide (4 < (m.vs.n : Int)) = false := by rw [decide_eq_false_iff_not]; omega
  have d1 : decide (8 < (m.sm.n : Int)) = false := by rw [decide_eq_false_iff_not]; omega
  have d2 : decide (64 < (m.dt.n : Int)) = false := by rw [decide_eq_false_iff_not]; omega
  have d3 : decide (40 < (m.vt.ms.n : Int)) = true := by rw [decide_eq_true_eq]; omega
  have HW := Lib.hid hW
  have HB := Lib.hid hbl
  clear hW hbx hbl h0 h1 h2 h3
  generalize m.cells.toArray = A at *
  generalize m.vs.n = n0 at *
  generalize m.sm.n = n1 at *
  generalize m.dt.n = n2 at *
  generalize m.vt.ms.n = n3 at *
  generalize m.vt.p.n = n4 at *
  generalize m.vt.q.n = n5 at *
  go_enter Tryz.func11, Tryz.ntmps11
  go_upto_region 1 with fail
  rw [← HW.out]
  go_wp2_with fail
  exact bodyPost_ret (v := .bool false) (by simp [results, Tryz.results11, go_sem]) rfl ⟨rfl, HB.out⟩

set_option maxHeartbeats 4000000 in
theorem refIs_long4 (w : World) (m : Mg) (h0 : m.vs.n ≤ 4) (h1 : m.sm.n ≤ 8) (h2 : m.dt.n ≤ 64) (h3 : m.vt.ms.n ≤ 40) (h4 : 40 < m.vt.p.n) : Calls Tryz.prog 11 #[.agg m.cells.toArray] w fun e w' => e = .returned (.bool false) ∧ Below w.heap.size w w' := by
  obtain ⟨W, hW⟩ : ∃ W, W = w.alloc (.cells m.cells.toArray 37) := ⟨_, rfl⟩
  have hbx := bx1 hW
  have hbl := bl1 hW
  have q22 : W.cell? ⟨w.heap.size, 22, none⟩ = some (.slice m.vs.a m.vs.n m.vs.c) := cell_box hbx 22
  have q23 : W.cell? ⟨w.heap.size, 23, none⟩ = some (.slice m.sm.a m.sm.n m.sm.c) := cell_box hbx 23
  have q24 : W.cell? ⟨w.heap.size, 24, none⟩ = some (.slice m.dt.a m.dt.n m.dt.c) := cell_box hbx 24
  have q19 : W.cell? ⟨w.heap.size, 19, none⟩ = some (.slice m.vt.ms.a m.vt.ms.n m.vt.ms.c) := cell_box hbx 19
  have q20 : W.cell? ⟨w.heap.size, 20, none⟩ = some (.slice m.vt.p.a m.vt.p.n m.vt.p.c) := cell_box hbx 20
  have q21 : W.cell? ⟨w.heap.size, 21, none⟩ = some (.slice m.vt.q.a m.vt.q.n m.vt.q.c) := cell_box hbx 21
  have d0 : decide (4 < (m.vs.n : Int)) = false := by rw [decide_eq_false_iff_not]; omega
  have d1 : decide (8 < (m.sm.n : Int)) = false := by rw [decide_eq_false_iff_not]; omega
  have d2 : decide (64 < (m.dt.n : Int)) = false := by rw [decide_eq_false_iff_not]; omega
  have d3 : decide (40 < (m.vt.ms.n : Int)) = false := by rw [decide_eq_false_iff_not]; omega
  have d4 : decide (40 < (m.vt.p.n : Int)) = true := by rw [decide_eq_true_eq]; omega
  have HW := Lib.hid hW
  have HB := Lib.hid hbl
  clear hW hbx hbl h0 h1 h2 h3 h4
  generalize m.cells.toArray = A at *
  generalize m.vs.n = n0 at *
  generalize m.sm.n = n1 at *
  generalize m.dt.n = n2 at *
  generalize m.vt.ms.n = n3 at *
  generalize m.vt.p.n = n4 at *
  generalize m.vt.q.n = n5 at *
  go_enter Tryz.func11, Tryz.ntmps11
  go_upto_region 1 with fail
  rw [← HW.out]
  go_wp2_with fail
  exact bodyPost_ret (v := .bool false) (by simp [results, Tryz.results11, go_sem]) rfl ⟨rfl, HB.out⟩

set_option maxHeartbeats 4000000 in
theorem refIs_long5 (w : World) (m : Mg) (h0 : m.vs.n ≤ 4) (h1 : m.sm.n ≤ 8) (h2 : m.dt.n ≤ 64) (h3 : m.vt.ms.n ≤ 40) (h4 : m.vt.p.n ≤ 40) (h5 : 40 < m.vt.q.n) : Calls Tryz.prog 11 #[.agg m.cells.toArray] w fun e w' => e = .returned (.bool false) ∧ Below w.heap.size w w' := by
  obtain ⟨W, hW⟩ : ∃ W, W = w.alloc (.cells m.cells.toArray 37) := ⟨_, rfl⟩
  have hbx := bx1 hW
  have hbl := bl1 hW
  have q22 : W.cell? ⟨w.heap.size, 22, none⟩ = some (.slice m.vs.a m.vs.n m.vs.c) := cell_box hbx 22
  have q23 : W.cell? ⟨w.heap.size, 23, none⟩ = some (.slice m.sm.a m.sm.n m.sm.c) := cell_box hbx 23
  have q24 : W.cell? ⟨w.heap.size, 24, none⟩ = some (.slice m.dt.a m.dt.n m.dt.c) := cell_box hbx 24
  have q19 : W.cell? ⟨w.heap.size, 19, none⟩ = some (.slice m.vt.ms.a m.vt.ms.n m.vt.ms.c) := cell_box hbx 19
  have q20 : W.cell? ⟨w.heap.size, 20, none⟩ = some (.slice m.vt.p.a m.vt.p.n m.vt.p.c) := cell_box hbx 20
  have q21 : W.cell? ⟨w.heap.size, 21, none⟩ = some (.slice m.vt.q.a m.vt.q.n m.vt.q.c) := cell_box hbx 21
  have d0 : decide (4 < (m.vs.n : Int)) = false := by rw [decide_eq_false_iff_not]; omega
  have d1 : decide (8 < (m.sm.n : Int)) = false := by rw [decide_eq_false_iff_not]; omega
  have d2 : decide (64 < (m.dt.n : Int)) = false := by rw [decide_eq_false_iff_not]; omega
  have d3 : decide (40 < (m.vt.ms.n : Int)) = false := by rw [decide_eq_false_iff_not]; omega
  have d4 : decide (40 < (m.vt.p.n : Int)) = false := by rw [decide_eq_false_iff_not]; omega
  have d5 : decide (40 < (m.vt.q.n : Int)) = true := by rw [decide_eq_true_eq]; omega
  have HW := Lib.hid hW
  have HB := Lib.hid hbl
  clear hW hbx hbl h0 h1 h2 h3 h4 h5
  generalize m.cells.toArray = A at *
  generalize m.vs.n = n0 at *
  generalize m.sm.n = n1 at *
  generalize m.dt.n = n2 at *
  generalize m.vt.ms.n = n3 at *
  generalize m.vt.p.n = n4 at *
  generalize m.vt.q.n = n5 at *
  go_enter Tryz.func11, Tryz.ntmps11
  go_upto_region 1 with fail
  rw [← HW.out]
  go_wp2_with fail
  exact bodyPost_ret (v := .bool false) (by simp [results, Tryz.results11, go_sem]) rfl ⟨rfl, HB.out⟩

theorem dec_big (u : Nat) (h : ¬ u < 10) : Lib.decDigits u = Lib.decDigits (u / 10) ++ [UInt8.ofNat (48 + u % 10)] := by
  rw [Lib.decDigits, dif_neg h]

def lit (l : List UInt8) : ByteArray := ⟨l.toArray⟩
theorem lit_app (a b : List UInt8) : lit a ++ lit b = lit (a ++ b) := by
  apply ByteArray.ext
  simp [lit]

theorem strOf_one (x : Int) : strOfNums [x] = lit [UInt8.ofNat x.toNat] := rfl

theorem lit_size (l : List UInt8) : (lit l).size = l.length := by simp [lit, ByteArray.size]

set_option maxHeartbeats 1000000 in
theorem digits_any (n : Nat) (hn : n ≤ 18446744073709551615) (w : World) : Calls Tryz.prog 57 #[.int .u64 n] w fun e w' => e = .returned (.string (lit (Lib.decDigits n))) ∧ Below w.heap.size w w' := by
  have HN := Lib.hid hn
  clear hn
  go_enter Tryz.func57, Tryz.ntmps57
  go_wp2_with fail
  go_loopw [0, 3] (fun v0 vs wr => ∃ (k : Nat) (acc : List UInt8), k ≤ 18446744073709551615 ∧ v0 = .int .u64 k ∧ vs = .string (lit acc) ∧ Hid (Lib.decDigits k ++ acc = Lib.decDigits n) ∧ Hid (Below w.heap.size w wr)) (fun v0 _ _ => (intOf v0).toNat)
  case atStart => exact ⟨n, [], HN.out, rfl, rfl, Lib.hid (by simp), Lib.hid (Below.refl _ _)⟩
  case round =>
    obtain ⟨k, acc, hk, rfl, rfl, HD, HB⟩ := hrel
    obtain ⟨c, hc⟩ : ∃ c : UInt8, c = UInt8.ofNat (48 + k % 10) := ⟨_, rfl⟩
    have hs : (convert 35 9 (.slice (some ⟨wr.heap.size, 0, none⟩) 1 1)).run Tryz.prog (wr.alloc (.cells #[.int .u8 (48 + (k : Int) % 10)] 5)) = .ok (.string (lit [c])) (wr.alloc (.cells #[.int .u8 (48 + (k : Int) % 10)] 5)) := by
      have h := str_bytes (w := wr.alloc (.cells (vals [48 + (k : Int) % 10]).toArray 5)) (c := 1) (bytes_new wr [48 + (k : Int) % 10] 5) (fun h => by cases h)
      rw [strOf_one, show (48 + (k : Int) % 10).toNat = 48 + k % 10 by omega, ← hc] at h
      exact h
    have HB2 := Lib.hid (HB.out.alloc HB.out.size (.cells #[.int .u8 (48 + (k : Int) % 10)] 5))
    have hl : acc.length ≤ 20 := by
      have h1 := congrArg List.length HD.out
      have h2 := dg_len (n : Int) (by have := HN.out; omega)
      simp only [dg, Int.toNat_natCast] at h2
      rw [List.length_append] at h1
      omega
    have sz : (lit [c]).size + (lit acc).size ≤ 9223372036854775807 := by rw [lit_size, lit_size]; simp; omega
    have HC := Lib.hid hc
    clear hc hl
    by_cases h10 : k < 10
    · have hq : (k : Int) / 10 = 0 := by omega
      have HK := Lib.hid h10
      clear HB
      go_wp2_with fail
      go_ret
      refine ⟨?_, HB2.out⟩
      have h := HD.out
      rw [Lib.decDigits_one HK.out] at h
      rw [lit_app, ← h, HC.out, show k % 10 = k from Nat.mod_eq_of_lt HK.out]
      rfl
    · have hq : (k : Int) / 10 ≠ 0 := by omega
      have HK := Lib.hid h10
      clear HB
      go_wp2_with fail
      trace_state
      go_round
      case rel =>
        refine ⟨k / 10, [c] ++ acc, by omega, by go_num, congrArg _ (lit_app _ _), Lib.hid ?_, HB2⟩
        rw [HC.out, ← List.append_assoc, ← dec_big k HK.out]; exact HD.out
      case measure => simp [intOf]; omega

theorem yi_cat {ops : Array Oper} {S : World → Prop} {o : Oper} {a : Act} (x y : Operand) (p q s : List UInt8) (hs : s = p ++ q) (hw : Region.wanted o (yielded ops a.tmps) = true) (ho : o.op = .binOp .add 9 x y 9) (hx : a.eval x = .string (lit p)) (hy : a.eval y = .string (lit q)) (h : p.length + q.length ≤ 1000000) :
    YieldsIf Tryz.prog ops S o (.string (lit s)) a := by
  subst hs
  refine .inl ⟨hw, fun w _ => ?_⟩
  have hz : (lit p).size + (lit q).size ≤ 9223372036854775807 := by rw [lit_size, lit_size]; omega
  unfold execOp
  simp only [ho, hx, hy]
  rw [← lit_app]
  go_simp

theorem cell_at {w : World} {g : Nat} {cs : Array Value} {T : TypeId} {v : Value} {i : Nat} (h : w.heap[g]? = some (.cells cs T (0, 0))) (hv : cs[i]? = some v) : w.cell? ⟨g, i, none⟩ = some v := by
  simp [World.cell?, h, hv]

set_option maxHeartbeats 2000000 in
theorem refText_any (r : Rq) (hr : r.ok) (w : World) : Calls Tryz.prog 19 #[.agg r.cells.toArray] w fun e w' => e = .returned (.string (lit r.text)) ∧ Below w.heap.size w w' := by
  obtain ⟨c, t, k, y, v⟩ := r
  obtain ⟨⟨c0, c1⟩, ⟨t0, t1⟩, ⟨k0, k1⟩, ⟨y0, y1⟩, v0, v1⟩ := hr
  simp only at c0 c1 t0 t1 k0 k1 y0 y1 v0 v1
  obtain ⟨c, rfl⟩ := Int.eq_ofNat_of_zero_le c0
  obtain ⟨t, rfl⟩ := Int.eq_ofNat_of_zero_le t0
  obtain ⟨k, rfl⟩ := Int.eq_ofNat_of_zero_le k0
  obtain ⟨y, rfl⟩ := Int.eq_ofNat_of_zero_le y0
  obtain ⟨v, rfl⟩ := Int.eq_ofNat_of_zero_le v0
  have L : ∀ n : Nat, n ≤ 4294967295 → (Lib.decDigits n).length ≤ 20 := fun n hn => by
    have := dg_len (n : Int) (by omega)
    simpa [dg] using this
  have l1 := L c (by omega)
  have l2 := L t (by omega)
  have l3 := L k (by omega)
  have l4 := L y (by omega)
  have l5 := L v (by omega)
  clear L
  have W64 : ∀ n : Nat, n ≤ 4294967295 → IntKind.u64.wrap (n : Int) = n := fun n hn => by simp [IntKind.wrap, IntKind.bits, IntKind.signed]; omega
  have x1 := W64 c (by omega)
  have x2 := W64 t (by omega)
  have x3 := W64 k (by omega)
  have x4 := W64 y (by omega)
  have x5 := W64 v (by omega)
  clear W64
  have C0 := Lib.hid (digits_any c (by omega))
  obtain ⟨d0, hd0⟩ : ∃ d, d = Lib.decDigits c := ⟨_, rfl⟩
  rw [← hd0] at C0 l1
  have D0 := Lib.hid hd0
  clear hd0
  have C1 := Lib.hid (digits_any t (by omega))
  obtain ⟨d1, hd1⟩ : ∃ d, d = Lib.decDigits t := ⟨_, rfl⟩
  rw [← hd1] at C1 l2
  have D1 := Lib.hid hd1
  clear hd1
  have C2 := Lib.hid (digits_any k (by omega))
  obtain ⟨d2, hd2⟩ : ∃ d, d = Lib.decDigits k := ⟨_, rfl⟩
  rw [← hd2] at C2 l3
  have D2 := Lib.hid hd2
  clear hd2
  have C3 := Lib.hid (digits_any y (by omega))
  obtain ⟨d3, hd3⟩ : ∃ d, d = Lib.decDigits y := ⟨_, rfl⟩
  rw [← hd3] at C3 l4
  have D3 := Lib.hid hd3
  clear hd3
  have C4 := Lib.hid (digits_any v (by omega))
  obtain ⟨d4, hd4⟩ : ∃ d, d = Lib.decDigits v := ⟨_, rfl⟩
  rw [← hd4] at C4 l5
  have D4 := Lib.hid hd4
  clear hd4
  obtain ⟨s0, hs0⟩ : ∃ s, s = d0 ++ [58] := ⟨_, rfl⟩
  have m0 : s0.length ≤ 21 := by rw [hs0, List.length_append]; first | omega | (simp only [List.length_cons, List.length_nil]; omega)
  have Es0 := Lib.hid hs0
  clear hs0
  obtain ⟨s1, hs1⟩ : ∃ s, s = s0 ++ d1 := ⟨_, rfl⟩
  have m1 : s1.length ≤ 42 := by rw [hs1, List.length_append]; first | omega | (simp only [List.length_cons, List.length_nil]; omega)
  have Es1 := Lib.hid hs1
  clear hs1
  obtain ⟨s2, hs2⟩ : ∃ s, s = s1 ++ [58] := ⟨_, rfl⟩
  have m2 : s2.length ≤ 63 := by rw [hs2, List.length_append]; first | omega | (simp only [List.length_cons, List.length_nil]; omega)
  have Es2 := Lib.hid hs2
  clear hs2
  obtain ⟨s3, hs3⟩ : ∃ s, s = s2 ++ d2 := ⟨_, rfl⟩
  have m3 : s3.length ≤ 84 := by rw [hs3, List.length_append]; first | omega | (simp only [List.length_cons, List.length_nil]; omega)
  have Es3 := Lib.hid hs3
  clear hs3
  obtain ⟨s4, hs4⟩ : ∃ s, s = s3 ++ [58] := ⟨_, rfl⟩
  have m4 : s4.length ≤ 105 := by rw [hs4, List.length_append]; first | omega | (simp only [List.length_cons, List.length_nil]; omega)
  have Es4 := Lib.hid hs4
  clear hs4
  obtain ⟨s5, hs5⟩ : ∃ s, s = s4 ++ d3 := ⟨_, rfl⟩
  have m5 : s5.length ≤ 126 := by rw [hs5, List.length_append]; first | omega | (simp only [List.length_cons, List.length_nil]; omega)
  have Es5 := Lib.hid hs5
  clear hs5
  obtain ⟨s6, hs6⟩ : ∃ s, s = s5 ++ [58] := ⟨_, rfl⟩
  have m6 : s6.length ≤ 147 := by rw [hs6, List.length_append]; first | omega | (simp only [List.length_cons, List.length_nil]; omega)
  have Es6 := Lib.hid hs6
  clear hs6
  obtain ⟨s7, hs7⟩ : ∃ s, s = s6 ++ d4 := ⟨_, rfl⟩
  have m7 : s7.length ≤ 168 := by rw [hs7, List.length_append]; first | omega | (simp only [List.length_cons, List.length_nil]; omega)
  have Es7 := Lib.hid hs7
  clear hs7
  obtain ⟨g, hg⟩ : ∃ g, g = w.heap.size := ⟨_, rfl⟩
  obtain ⟨W, hW⟩ : ∃ W, W = w.alloc (.cells #[.int .u8 ↑c, .int .u32 ↑t, .int .u8 ↑k, .int .u8 ↑y, .int .u16 ↑v] 27) := ⟨_, rfl⟩
  have HB : Hid (Below w.heap.size w W) := Lib.hid (by rw [hW]; exact (Below.refl _ _).alloc (Nat.le_refl _) _)
  have HG : Hid (W.heap[g]? = some (.cells #[.int .u8 ↑c, .int .u32 ↑t, .int .u8 ↑k, .int .u8 ↑y, .int .u16 ↑v] 27 (0, 0))) := Lib.hid (by rw [hW, hg]; exact heap_alloc_new _ _)
  have EG := Lib.hid hg
  have EW := Lib.hid hW
  clear hg hW
  simp only [Rq.cells]
  go_enter Tryz.func19, Tryz.ntmps19
  go_upto_region 1 with fail
  rw [← EG.out, ← EW.out]
  clear EG EW
  refine wp_region_held_drew (S := fun w' => Below w.heap.size w w' ∧ w'.heap[g]? = some (.cells #[.int .u8 ↑c, .int .u32 ↑t, .int .u8 ↑k, .int .u8 ↑y, .int .u16 ↑v] 27 (0, 0))) (by kernel_rfl) (⟨HB.out.drew, HG.out⟩) (fun hS => ?_)
  refine tg 0 (.pointer (some ⟨g, 0, none⟩)) rfl hS ?_
  refine tk 1 (.int .u8 ↑c) rfl (yi_load 5 _ (.pointer (some ⟨g, 0, none⟩)) rfl rfl rfl (fun w hw => by have q := cell_at hw.2 (i := 0) rfl; go_simp)) hS ?_
  refine tg 2 (.int .u64 ↑c) rfl hS ?_
  refine tg 5 (.pointer (some ⟨g, 1, none⟩)) rfl hS ?_
  refine tk 6 (.int .u32 ↑t) rfl (yi_load 22 _ (.pointer (some ⟨g, 1, none⟩)) rfl rfl rfl (fun w hw => by have q := cell_at hw.2 (i := 1) rfl; go_simp)) hS ?_
  refine tg 7 (.int .u64 ↑t) rfl hS ?_
  refine tg 11 (.pointer (some ⟨g, 2, none⟩)) rfl hS ?_
  refine tg 12 (.pointer (some ⟨g, 2, none⟩)) rfl hS ?_
  refine tk 13 (.int .u8 ↑k) rfl (yi_load 5 _ (.pointer (some ⟨g, 2, none⟩)) rfl rfl rfl (fun w hw => by have q := cell_at hw.2 (i := 2) rfl; go_simp)) hS ?_
  refine tg 14 (.int .u64 ↑k) rfl hS ?_
  refine tg 18 (.pointer (some ⟨g, 2, none⟩)) rfl hS ?_
  refine tg 19 (.pointer (some ⟨g, 3, none⟩)) rfl hS ?_
  refine tk 20 (.int .u8 ↑y) rfl (yi_load 5 _ (.pointer (some ⟨g, 3, none⟩)) rfl rfl rfl (fun w hw => by have q := cell_at hw.2 (i := 3) rfl; go_simp)) hS ?_
  refine tg 21 (.int .u64 ↑y) rfl hS ?_
  refine tg 25 (.pointer (some ⟨g, 2, none⟩)) rfl hS ?_
  refine tg 26 (.pointer (some ⟨g, 4, none⟩)) rfl hS ?_
  refine tk 27 (.int .u16 ↑v) rfl (yi_load 23 _ (.pointer (some ⟨g, 4, none⟩)) rfl rfl rfl (fun w hw => by have q := cell_at hw.2 (i := 4) rfl; go_simp)) hS ?_
  refine tg 28 (.int .u64 ↑v) rfl hS ?_
  refine rdy1 3 rfl (fun K hK => ?_)
  rw [if_pos (by rfl)]
  go_simp
  refine Calls.mono (C0.out _) ?_
  rintro e w1 ⟨rfl, hb⟩
  refine hK.out _ _ (⟨Below.up hS.1 hb, (hb.block g (lt_of_block hS.2)).trans hS.2⟩) (fun hS => ?_)
  clear hK K
  refine tk 4 (.string (lit s0)) rfl (yi_cat _ _ (d0) ([58]) s0 Es0.out rfl rfl rfl rfl (by first | omega | (simp only [List.length_cons, List.length_nil]; omega))) hS ?_
  refine rdy1 8 rfl (fun K hK => ?_)
  rw [if_pos (by rfl)]
  go_simp
  refine Calls.mono (C1.out _) ?_
  rintro e w1 ⟨rfl, hb⟩
  refine hK.out _ _ (⟨Below.up hS.1 hb, (hb.block g (lt_of_block hS.2)).trans hS.2⟩) (fun hS => ?_)
  clear hK K
  refine tk 9 (.string (lit s1)) rfl (yi_cat _ _ (s0) (d1) s1 Es1.out rfl rfl rfl rfl (by first | omega | (simp only [List.length_cons, List.length_nil]; omega))) hS ?_
  refine tk 10 (.string (lit s2)) rfl (yi_cat _ _ (s1) ([58]) s2 Es2.out rfl rfl rfl rfl (by first | omega | (simp only [List.length_cons, List.length_nil]; omega))) hS ?_
  refine rdy1 15 rfl (fun K hK => ?_)
  rw [if_pos (by rfl)]
  go_simp
  refine Calls.mono (C2.out _) ?_
  rintro e w1 ⟨rfl, hb⟩
  refine hK.out _ _ (⟨Below.up hS.1 hb, (hb.block g (lt_of_block hS.2)).trans hS.2⟩) (fun hS => ?_)
  clear hK K
  refine tk 16 (.string (lit s3)) rfl (yi_cat _ _ (s2) (d2) s3 Es3.out rfl rfl rfl rfl (by first | omega | (simp only [List.length_cons, List.length_nil]; omega))) hS ?_
  refine tk 17 (.string (lit s4)) rfl (yi_cat _ _ (s3) ([58]) s4 Es4.out rfl rfl rfl rfl (by first | omega | (simp only [List.length_cons, List.length_nil]; omega))) hS ?_
  refine rdy1 22 rfl (fun K hK => ?_)
  rw [if_pos (by rfl)]
  go_simp
  refine Calls.mono (C3.out _) ?_
  rintro e w1 ⟨rfl, hb⟩
  refine hK.out _ _ (⟨Below.up hS.1 hb, (hb.block g (lt_of_block hS.2)).trans hS.2⟩) (fun hS => ?_)
  clear hK K
  refine tk 23 (.string (lit s5)) rfl (yi_cat _ _ (s4) (d3) s5 Es5.out rfl rfl rfl rfl (by first | omega | (simp only [List.length_cons, List.length_nil]; omega))) hS ?_
  refine tk 24 (.string (lit s6)) rfl (yi_cat _ _ (s5) ([58]) s6 Es6.out rfl rfl rfl rfl (by first | omega | (simp only [List.length_cons, List.length_nil]; omega))) hS ?_
  refine rdy1 29 rfl (fun K hK => ?_)
  rw [if_pos (by rfl)]
  go_simp
  refine Calls.mono (C4.out _) ?_
  rintro e w1 ⟨rfl, hb⟩
  refine hK.out _ _ (⟨Below.up hS.1 hb, (hb.block g (lt_of_block hS.2)).trans hS.2⟩) (fun hS => ?_)
  clear hK K
  refine tk 30 (.string (lit s7)) rfl (yi_cat _ _ (s6) (d4) s7 Es7.out rfl rfl rfl rfl (by first | omega | (simp only [List.length_cons, List.length_nil]; omega))) hS ?_
  refine tm 31 (.string (lit s7)) rfl hS ?_
  refine wpAnyH_done (by kernel_rfl) ?_ _
  go_wp2_with fail
  go_ret
  refine ⟨?_, hS.1⟩
  rw [Es7.out, Es6.out, Es5.out, Es4.out, Es3.out, Es2.out, Es1.out, Es0.out, D0.out, D1.out, D2.out, D3.out, D4.out]
  simp [Rq.text, dg, List.append_assoc]

set_option maxHeartbeats 4000000 in
theorem refIsReq_any (r : Rq) (w : World) : Calls Tryz.prog 13 #[.agg r.cells.toArray] w fun e w' => e = .returned (.bool r.is) ∧ Below w.heap.size w w' := by
  have hq := eql27 r Rq.zero
  have hg := fun op a b w => guard27 op a b r Rq.zero w
  obtain ⟨bb, hb⟩ : ∃ b, b = r.is := ⟨_, rfl⟩
  rw [← hb]
  unfold Rq.is at hb
  have HB := Lib.hid hb
  clear hb
  by_cases h0 : r = Rq.zero
  · simp only [h0, decide_true] at hq
    simp only [h0, Rq.zero, Rq.cells] at hq hg ⊢
    go_enter Tryz.func13, Tryz.ntmps13
    go_wp2_with fail
    go_ret
    refine ⟨?_, (Below.refl _ _).alloc (Nat.le_refl _) _⟩
    rw [HB.out, h0]
    simp
  · have H0 := Lib.hid h0
    simp only [h0, decide_false] at hq
    obtain ⟨c, t, k, y, v⟩ := r
    simp only [Rq.zero, Rq.cells] at hq hg ⊢
    have HQ : (decide ((⟨c, t, k, y, v⟩ : Rq) = Rq.zero)) = false := decide_eq_false H0.out
    rw [HQ] at HB
    simp only [Bool.false_or] at HB
    clear h0 H0 HQ
    by_cases g1 : 1 ≤ c
    · skip
      by_cases g2 : c ≤ 4
      · skip
        by_cases g3 : t ≠ 0
        · skip
          by_cases g4 : 1 ≤ k
          · skip
            by_cases g5 : k ≤ 3
            · skip
              by_cases g6 : y < 64
              · skip
                by_cases g7 : k = 2
                · by_cases g8 : v = 0
                  · skip
                    go_enter Tryz.func13, Tryz.ntmps13
                    go_wp2_with fail
                    go_ret
                    refine ⟨?_, (Below.refl _ _).alloc (Nat.le_refl _) _⟩
                    rw [HB.out]
                    clear hq hg HB
                    simp_all [Rq.isOp]
                    try (intros; omega)
                  · skip
                    go_enter Tryz.func13, Tryz.ntmps13
                    go_wp2_with fail
                    go_ret
                    refine ⟨?_, (Below.refl _ _).alloc (Nat.le_refl _) _⟩
                    rw [HB.out]
                    clear hq hg HB
                    simp_all [Rq.isOp]
                    try (intros; omega)
                · skip
                  go_enter Tryz.func13, Tryz.ntmps13
                  go_wp2_with fail
                  go_ret
                  refine ⟨?_, (Below.refl _ _).alloc (Nat.le_refl _) _⟩
                  rw [HB.out]
                  clear hq hg HB
                  simp_all [Rq.isOp]
                  try (intros; omega)
              · skip
                go_enter Tryz.func13, Tryz.ntmps13
                go_wp2_with fail
                go_ret
                refine ⟨?_, (Below.refl _ _).alloc (Nat.le_refl _) _⟩
                rw [HB.out]
                clear hq hg HB
                simp_all [Rq.isOp]
                try (intros; omega)
            · skip
              go_enter Tryz.func13, Tryz.ntmps13
              go_wp2_with fail
              go_ret
              refine ⟨?_, (Below.refl _ _).alloc (Nat.le_refl _) _⟩
              rw [HB.out]
              clear hq hg HB
              simp_all [Rq.isOp]
              try (intros; omega)
          · skip
            go_enter Tryz.func13, Tryz.ntmps13
            go_wp2_with fail
            go_ret
            refine ⟨?_, (Below.refl _ _).alloc (Nat.le_refl _) _⟩
            rw [HB.out]
            clear hq hg HB
            simp_all [Rq.isOp]
            try (intros; omega)
        · skip
          go_enter Tryz.func13, Tryz.ntmps13
          go_wp2_with fail
          go_ret
          refine ⟨?_, (Below.refl _ _).alloc (Nat.le_refl _) _⟩
          rw [HB.out]
          clear hq hg HB
          simp_all [Rq.isOp]
          try (intros; omega)
      · skip
        go_enter Tryz.func13, Tryz.ntmps13
        go_wp2_with fail
        go_ret
        refine ⟨?_, (Below.refl _ _).alloc (Nat.le_refl _) _⟩
        rw [HB.out]
        clear hq hg HB
        simp_all [Rq.isOp]
        try (intros; omega)
    · skip
      go_enter Tryz.func13, Tryz.ntmps13
      go_wp2_with fail
      go_ret
      refine ⟨?_, (Below.refl _ _).alloc (Nat.le_refl _) _⟩
      rw [HB.out]
      clear hq hg HB
      simp_all [Rq.isOp]
      try (intros; omega)

set_option maxHeartbeats 1000000 in
theorem refNull_any (r : Rq) (w : World) : Calls Tryz.prog 37 #[.agg r.cells.toArray] w fun e w' => e = .returned (.bool (decide (r = Rq.zero))) ∧ Below w.heap.size w w' := by
  have hq := eql27 r Rq.zero
  have hg := fun op a b w => guard27 op a b r Rq.zero w
  generalize decide (r = Rq.zero) = b at *
  simp only [Rq.zero, Rq.cells] at hq hg ⊢
  go_enter Tryz.func37, Tryz.ntmps37
  go_wp2_with fail
  go_ret
  exact ⟨rfl, (Below.refl _ _).alloc (Nat.le_refl _) _⟩

theorem refClient_any (c : Int) (w : World) : Calls Tryz.prog 36 #[.int .u8 c] w fun e w' => e = .returned (.bool (decide (11 ≤ c) && decide (c ≤ 14))) ∧ w' = w := by
  by_cases h1 : 10 < c
  · by_cases h2 : c ≤ 14
    · go_enter Tryz.func36, Tryz.ntmps36
      go_wp2
      go_ret
      rw [show (decide (11 ≤ c) && decide (c ≤ 14)) = true by simp; omega]
      exact ⟨rfl, rfl⟩
    · go_enter Tryz.func36, Tryz.ntmps36
      go_wp2
      go_ret
      rw [show (decide (11 ≤ c) && decide (c ≤ 14)) = false by simp; omega]
      exact ⟨rfl, rfl⟩
  · go_enter Tryz.func36, Tryz.ntmps36
    go_wp2
    go_ret
    rw [show (decide (11 ≤ c) && decide (c ≤ 14)) = false by simp; omega]
    exact ⟨rfl, rfl⟩

theorem less_gt : ∀ (a b : List UInt8), (!(Op.bytesLess a b || a == b)) = Op.bytesLess b a
  | [], [] => by simp [Op.bytesLess]
  | [], _ :: _ => by simp [Op.bytesLess]
  | _ :: _, [] => by simp [Op.bytesLess]
  | a :: x, b :: y => by
    have ih := less_gt x y
    rw [Op.bytesLess, Op.bytesLess]
    by_cases h1 : a < b
    · have h2 : ¬ b < a := by rw [UInt8.lt_iff_toNat_lt] at *; omega
      have h3 : ¬ b = a := fun e => by subst e; exact h2 h1
      simp [h1, h2, h3]
    · by_cases h2 : b < a
      · have h3 : ¬ a = b := fun e => by subst e; exact h1 h2
        simp [h1, h2, h3]
      · have h3 : a = b := by rw [UInt8.lt_iff_toNat_lt] at *; exact UInt8.toNat_inj.1 (by omega)
        subst h3
        simp only [h1, decide_false, Bool.false_or]
        rw [← ih]
        by_cases h4 : x = y
        · subst h4; simp
        · simp

theorem lit_list (l : List UInt8) : (lit l).toList = l := by
  rw [Lib.toList_data]; simp [lit]

/-- enAt the other way round -/
def enLess (x y : En) : Bool := if x.s = y.s then Op.bytesLess x.rq.text y.rq.text else decide (x.s < y.s)
theorem enLess_at (x y : En) : enLess x y = enAt y x := by
  unfold enLess enAt textGt
  by_cases h : x.s = y.s
  · rw [if_pos h, if_pos h.symm, less_gt, show (⟨x.rq.text.toArray⟩ : ByteArray) = lit x.rq.text from rfl, show (⟨y.rq.text.toArray⟩ : ByteArray) = lit y.rq.text from rfl, lit_list, lit_list]
  · rw [if_neg h, if_neg (fun e => h e.symm)]

set_option maxHeartbeats 2000000 in
theorem refEntry_any (x : En) (hx : 0 ≤ x.s) (w : World) : Calls Tryz.prog 48 #[.agg x.cells.toArray] w fun e w' => e = .returned (.bool (enOk x)) ∧ Below w.heap.size w w' := by
  obtain ⟨r, hr⟩ : ∃ r, r = enOk x := ⟨_, rfl⟩
  rw [← hr]
  unfold enOk isPl isVw at hr
  have HR := Lib.hid hr
  clear hr
  obtain ⟨W, hW⟩ : ∃ W, W = w.alloc (.cells x.cells.toArray 80) := ⟨_, rfl⟩
  obtain ⟨g, hg⟩ : ∃ g, g = w.heap.size := ⟨_, rfl⟩
  have hb : Below w.heap.size w W := by rw [hW]; exact (Below.refl _ _).alloc (Nat.le_refl _) _
  have hG : W.heap[g]? = some (.cells x.cells.toArray 80 (0, 0)) := by rw [hW, hg]; exact heap_alloc_new _ _
  have HBL := Lib.hid hb
  have q0 : W.cell? ⟨g, 0, none⟩ = some (.int .u32 x.s) := cell_at hG (i := 0) rfl
  have q1 : W.cell? ⟨g, 1, none⟩ = some (.int .u32 x.v) := cell_at hG (i := 1) rfl
  have q2 : W.cell? ⟨g, 2, none⟩ = some (.int .u8 x.rq.c) := cell_at hG (i := 2) rfl
  have q3 : W.cell? ⟨g, 3, none⟩ = some (.int .u32 x.rq.t) := cell_at hG (i := 3) rfl
  have q4 : W.cell? ⟨g, 4, none⟩ = some (.int .u8 x.rq.k) := cell_at hG (i := 4) rfl
  have q5 : W.cell? ⟨g, 5, none⟩ = some (.int .u8 x.rq.y) := cell_at hG (i := 5) rfl
  have q6 : W.cell? ⟨g, 6, none⟩ = some (.int .u16 x.rq.v) := cell_at hG (i := 6) rfl
  have C := Lib.hid (refIsReq_any x.rq W)
  generalize x.rq.is = b at C HR
  simp only [En.cells] at hW ⊢
  simp only [Rq.cells] at C
  have HX := Lib.hid hx
  have EG := Lib.hid hg
  have EW := Lib.hid hW
  clear hG hb hg hW hx
  by_cases h1 : 0 < x.s
  · by_cases h2 : x.s ≤ 1073741824
    · by_cases h3 : x.v ≤ 1048576
      · go_enter Tryz.func48, Tryz.ntmps48
        go_upto_region 1 with fail
        rw [← EG.out, ← EW.out]
        clear EG EW
        go_wp2_with fail
        refine Calls.mono C.out ?_
        rintro e w' ⟨rfl, hb⟩
        have HB := Lib.hid (HBL.out.trans (hb.mono HBL.out.size))
        clear hb
        go_wp2_with fail
        go_ret
        refine ⟨?_, HB.out⟩
        rw [HR.out]
        rw [show (decide (1 ≤ x.s) && decide (x.s ≤ 1073741824)) = true by simp; omega, decide_eq_true h3]
        rfl
      · go_enter Tryz.func48, Tryz.ntmps48
        go_upto_region 1 with fail
        rw [← EG.out, ← EW.out]
        clear EG EW
        go_wp2_with fail
        go_ret
        refine ⟨?_, HBL.out⟩
        rw [HR.out, show decide (x.v ≤ 1048576) = false by simp; omega]
        simp
    · go_enter Tryz.func48, Tryz.ntmps48
      go_upto_region 1 with fail
      rw [← EG.out, ← EW.out]
      clear EG EW
      go_wp2_with fail
      go_ret
      refine ⟨?_, HBL.out⟩
      rw [HR.out, show (decide (1 ≤ x.s) && decide (x.s ≤ 1073741824)) = false by simp; omega]
      rfl
  · go_enter Tryz.func48, Tryz.ntmps48
    go_upto_region 1 with fail
    rw [← EG.out, ← EW.out]
    clear EG EW
    go_wp2_with fail
    go_ret
    refine ⟨?_, HBL.out⟩
    rw [HR.out, show (decide (1 ≤ x.s) && decide (x.s ≤ 1073741824)) = false by simp; omega]
    rfl

set_option maxHeartbeats 4000000 in
theorem refLess_any (x y : En) (hx : x.rq.ok) (hy : y.rq.ok) (w : World) : Calls Tryz.prog 49 #[.agg x.cells.toArray, .agg y.cells.toArray] w fun e w' => e = .returned (.bool (enLess x y)) ∧ Below w.heap.size w w' := by
  obtain ⟨r, hr⟩ : ∃ r, r = enLess x y := ⟨_, rfl⟩
  rw [← hr]
  unfold enLess at hr
  obtain ⟨W, hW⟩ : ∃ W, W = (w.alloc (.cells x.cells.toArray 80)).alloc (.cells y.cells.toArray 80) := ⟨_, rfl⟩
  have hWb := bl2 hW
  have hWs : W.heap.size = w.heap.size + 2 := by rw [hW]; simp
  have fa : ∀ w', Below W.heap.size W w' → w'.heap[w.heap.size]? = some (.cells x.cells.toArray 80 (0, 0)) := fun w' h => by rw [h.block w.heap.size (by omega), hW]; exact heap_alloc2_old _ _ _
  have fb : ∀ w', Below W.heap.size W w' → w'.heap[w.heap.size + 1]? = some (.cells y.cells.toArray 80 (0, 0)) := fun w' h => by rw [h.block (w.heap.size + 1) (by omega), hW]; exact heap_alloc2_new _ _ _
  have q0 : W.cell? ⟨w.heap.size, 0, none⟩ = some (.int .u32 x.s) := by rw [cell_of_row _ _ _ _ _ _ (fa W (Below.refl _ _))]; rfl
  have q1 : W.cell? ⟨w.heap.size + 1, 0, none⟩ = some (.int .u32 y.s) := by rw [cell_of_row _ _ _ _ _ _ (fb W (Below.refl _ _))]; rfl
  have LA := Lib.hid (fun w' h => rq_load (fa w' h))
  have LB := Lib.hid (fun w' h => rq_load (fb w' h))
  have CA := Lib.hid (fun w' (_ : Below W.heap.size W w') => refText_any x.rq hx w')
  have CB := Lib.hid (fun w' (_ : Below W.heap.size W w') => refText_any y.rq hy w')
  have HWB := Lib.hid hWb
  have HW0 := Lib.hid (Below.refl W.heap.size W)
  have HR := Lib.hid hr
  simp only [En.cells] at hW ⊢
  have HW := Lib.hid hW
  clear hWb hWs hW fa fb hr
  go_enter Tryz.func49, Tryz.ntmps49
  go_upto_region 1 with fail
  rw [← HW.out]
  clear HW
  generalize (#[.int .u32 x.s, .int .u32 x.v, .int .u8 x.rq.c, .int .u32 x.rq.t, .int .u8 x.rq.k, .int .u8 x.rq.y, .int .u16 x.rq.v] : Array Value) = xa
  generalize (#[.int .u32 y.s, .int .u32 y.v, .int .u8 y.rq.c, .int .u32 y.rq.t, .int .u8 y.rq.k, .int .u8 y.rq.y, .int .u16 y.rq.v] : Array Value) = ya
  by_cases h : x.s = y.s
  · have HE := Lib.hid h
    rw [if_pos h, ← lit_list x.rq.text, ← lit_list y.rq.text] at HR
    rw [h] at q0
    generalize lit x.rq.text = tx at *
    generalize lit y.rq.text = ty at *
    generalize x.rq.cells.toArray = ra at *
    generalize y.rq.cells.toArray = rb at *
    generalize y.s = xs at *
    clear h HE
    generalize hg : w.heap.size = g at *
    go_upto_region 3 with fail
    refine wp_region_held_drew (S := fun w' => Below W.heap.size W w') (by kernel_rfl) (HW0.out.drew) (fun hS => ?_)
    refine tg 0 (.pointer (some ⟨g, 2, none⟩)) rfl hS ?_
    refine tk 1 (.agg ra) rfl (yi_load 27 _ (.pointer (some ⟨g, 2, none⟩)) rfl rfl rfl (fun w hw => LA.out w hw)) hS ?_
    refine tg 3 (.pointer (some ⟨g + 1, 2, none⟩)) rfl hS ?_
    refine tk 4 (.agg rb) rfl (yi_load 27 _ (.pointer (some ⟨g + 1, 2, none⟩)) rfl rfl rfl (fun w hw => LB.out w hw)) hS ?_
    refine rdy1 2 rfl (fun K hK => ?_)
    rw [if_pos (by rfl)]
    go_simp
    refine Calls.mono (CA.out _ hS) ?_
    rintro e w1 ⟨rfl, hb⟩
    refine hK.out _ _ (hS.trans (hb.mono hS.size)) (fun hS => ?_)
    clear hK K
    refine rdy1 5 rfl (fun K hK => ?_)
    rw [if_pos (by rfl)]
    go_simp
    refine Calls.mono (CB.out _ hS) ?_
    rintro e w2 ⟨rfl, hb⟩
    refine hK.out _ _ (hS.trans (hb.mono hS.size)) (fun hS => ?_)
    clear hK K
    refine tg 6 (.bool (Op.bytesLess tx.toList ty.toList)) rfl hS ?_
    refine tm 7 (.bool (Op.bytesLess tx.toList ty.toList)) rfl hS ?_
    refine wpAnyH_done (by kernel_rfl) ?_ _
    go_wp2_with fail
    go_ret
    refine ⟨by rw [HR.out]; rfl, ?_⟩
    rw [hg]
    exact HWB.out.trans (hS.mono (by have := HWB.out.size; omega))
  · have d : (x.s == y.s) = false := by simp [h]
    rw [if_neg h] at HR
    by_cases h2 : x.s < y.s
    · go_wp2_with fail
      go_ret
      exact ⟨by rw [HR.out, decide_eq_true h2]; rfl, HWB.out⟩
    · go_wp2_with fail
      go_ret
      refine ⟨?_, HWB.out⟩
      rw [HR.out, decide_eq_false (show ¬ x.s < y.s by omega)]
      rfl
end Go.Proofs.YtbpfkeeikhhlnaaGreatDoor
