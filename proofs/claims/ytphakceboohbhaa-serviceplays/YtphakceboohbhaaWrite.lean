/- What each function of package wire that writes leaves behind: the bytes that it adds, and that nothing else has changed. -/
import Derived.Test.YtphakceboohbhaaBase
import Derived.Laws.BitsAllLaws
namespace Go.Proofs.Ytphakceboohbhaa
open Go.RowKit
set_option maxRecDepth 100000

theorem bytes_new (w : World) (l : List Int) (t : TypeId) : Bytes (w.alloc (.cells (vals l).toArray t)) (some ⟨w.heap.size, 0, none⟩) l := by
  intro i hi
  refine ⟨_, rfl, ?_⟩
  have hadd : (⟨w.heap.size, 0, none⟩ : Addr).add i = ⟨w.heap.size, i, none⟩ := by unfold Addr.add; split <;> simp_all
  rw [hadd, cell_of_row _ _ i _ _ _ (heap_alloc_new w _)]
  simp [vals, List.getElem?_eq_getElem hi]

/-- a writer's row is appended to and stored again -/
theorem app_done {w w1 w' : World} {B n n' cap cap' : Nat} {ao ao' : Option Addr} {g : Option Nat} {xs' : List Int} (hb1 : w1.heap[B]? = some (.cells #[.slice ao n cap] 80 (0, 0)))
    (hk0 : Kept (fun k => k = B ∨ some k = g) w w1) (hg : (Value.slice ao n cap).ownBlock = g) (hne : g ≠ some B) (hlt : B < w.heap.size)
    (ho' : w'.ownsRow 0 5 1 (.slice ao' n' cap') n' (vals xs')) (hk' : Kept (fun k => some k = (Value.slice ao n cap).ownBlock) w1 w')
    (hg' : (Value.slice ao' n' cap').ownBlock = (Value.slice ao n cap).ownBlock ∨ (Value.slice ao' n' cap').ownBlock = some w1.heap.size) :
    w'.heap[B]? = some (.cells #[.slice ao n cap] 80 (0, 0)) ∧ Wrote w B g xs' (w'.setCell ⟨B, 0, none⟩ (.slice ao' n' cap')) := by
  have hb' : w'.heap[B]? = some (.cells #[.slice ao n cap] 80 (0, 0)) := by
    rw [hk'.block B (lt_of_block hb1) (by rw [hg]; exact fun e => hne e.symm)]; exact hb1
  refine ⟨hb', wrote_of hb' ho' (hk0.trans hk' (fun i _ e => .inr (e.trans hg))) ?_ hlt hne⟩
  rcases hg' with e | e
  · exact .inl (e.trans hg)
  · exact .inr ⟨_, e, hk0.size⟩

/-- the same where a new row holds what is appended -/
theorem app_new {w w' : World} {o : Obj} {B n n' cap cap' : Nat} {ao ao' : Option Addr} {g : Option Nat} {xs' : List Int} (hb : w.heap[B]? = some (.cells #[.slice ao n cap] 80 (0, 0)))
    (hg : (Value.slice ao n cap).ownBlock = g) (hne : g ≠ some B)
    (ho' : w'.ownsRow 0 5 1 (.slice ao' n' cap') n' (vals xs')) (hk' : Kept (fun k => some k = (Value.slice ao n cap).ownBlock) (w.alloc o) w')
    (hg' : (Value.slice ao' n' cap').ownBlock = (Value.slice ao n cap).ownBlock ∨ (Value.slice ao' n' cap').ownBlock = some (w.alloc o).heap.size) :
    w'.heap[B]? = some (.cells #[.slice ao n cap] 80 (0, 0)) ∧ Wrote w B g xs' (w'.setCell ⟨B, 0, none⟩ (.slice ao' n' cap')) :=
  app_done (by rw [Below.heap_alloc _ _ _ (lt_of_block hb)]; exact hb) ((Kept.refl _ w).alloc o) hg hne (lt_of_block hb) ho' hk' hg'

set_option maxHeartbeats 1600000 in
theorem u8_any (w : World) (B : Nat) (g : Option Nat) (xs : List Int) (x : Int) (h : Wr w B g xs) (hl : xs.length ≤ 1000000) :
    Calls Try.prog 37 #[.pointer (some ⟨B, 0, none⟩), .int .u8 x] w fun e w' => e = .returned (.tuple #[]) ∧ Wrote w B g (xs ++ [x]) w' := by
  obtain ⟨ao, n, cap, hb, ho, hg, hne⟩ := h
  have hn : n ≤ 1000000 := by have := ho.1; simp [vals] at this; omega
  have HB := Lib.hid hb
  have HO := Lib.hid ho
  have HG := Lib.hid hg
  have HN := Lib.hid hne
  have hc := cell_of_one hb
  clear hb ho hg hne
  go_enter Try.func37, Try.ntmps37
  go_wp2_with (at_builtin
               refine wpList_app _ rfl (.tmp 8) (.tmp 10) rfl (.slice ao n cap) n xs rfl (HO.out.alloc _) (some ⟨w.heap.size, 0, none⟩) 1 1 [x] rfl rfl (bytes_new w [x] 5) (by intro h; cases h) (by omega) ?_
               intro ao' cap' w' ho' hk' hg'
               obtain ⟨hb', hw'⟩ := app_new HB.out HG.out HN.out ho' hk' hg'
               have hc' := cell_of_one hb'
               have hf' := free_of_one hb'
               have HW' := Lib.hid hw'
               clear ho' hk' hg' hb' hw')
  go_end0
  exact ⟨rfl, HW'.out⟩

set_option maxHeartbeats 1600000 in
theorem u16_any (w : World) (B : Nat) (g : Option Nat) (xs : List Int) (x : Int) (h : Wr w B g xs) (hl : xs.length ≤ 1000000) :
    Calls Try.prog 40 #[.pointer (some ⟨B, 0, none⟩), .int .u16 x] w fun e w' => e = .returned (.tuple #[]) ∧ Wrote w B g (xs ++ [x / 256 % 256, x % 256]) w' := by
  obtain ⟨ao, n, cap, hb, ho, hg, hne⟩ := h
  have hn : n ≤ 1000000 := by have := ho.1; simp [vals] at this; omega
  have HB := Lib.hid hb
  have HO := Lib.hid ho
  have HG := Lib.hid hg
  have HN := Lib.hid hne
  have hc := cell_of_one hb
  clear hb ho hg hne
  go_enter Try.func40, Try.ntmps40
  go_wp2_with (at_builtin
               refine wpList_app _ rfl (.tmp 8) (.tmp 14) rfl (.slice ao n cap) n xs rfl (HO.out.alloc _) (some ⟨w.heap.size, 0, none⟩) 2 2 [x / 256 % 256, x % 256] rfl rfl (bytes_new w [x / 256 % 256, x % 256] 5) (by intro h; cases h) (by omega) ?_
               intro ao' cap' w' ho' hk' hg'
               obtain ⟨hb', hw'⟩ := app_new HB.out HG.out HN.out ho' hk' hg'
               have hc' := cell_of_one hb'
               have hf' := free_of_one hb'
               have HW' := Lib.hid hw'
               clear ho' hk' hg' hb' hw')
  go_end0
  exact ⟨rfl, HW'.out⟩

set_option maxHeartbeats 1600000 in
theorem u32_any (w : World) (B : Nat) (g : Option Nat) (xs : List Int) (x : Int) (h : Wr w B g xs) (hl : xs.length ≤ 1000000) :
    Calls Try.prog 38 #[.pointer (some ⟨B, 0, none⟩), .int .u32 x] w fun e w' => e = .returned (.tuple #[]) ∧ Wrote w B g (xs ++ [x / 16777216 % 256, x / 65536 % 256, x / 256 % 256, x % 256]) w' := by
  obtain ⟨ao, n, cap, hb, ho, hg, hne⟩ := h
  have hn : n ≤ 1000000 := by have := ho.1; simp [vals] at this; omega
  have HB := Lib.hid hb
  have HO := Lib.hid ho
  have HG := Lib.hid hg
  have HN := Lib.hid hne
  have hc := cell_of_one hb
  clear hb ho hg hne
  go_enter Try.func38, Try.ntmps38
  go_wp2_with (at_builtin
               refine wpList_app _ rfl (.tmp 8) (.tmp 20) rfl (.slice ao n cap) n xs rfl (HO.out.alloc _) (some ⟨w.heap.size, 0, none⟩) 4 4 [x / 16777216 % 256, x / 65536 % 256, x / 256 % 256, x % 256] rfl rfl (bytes_new w [x / 16777216 % 256, x / 65536 % 256, x / 256 % 256, x % 256] 5) (by intro h; cases h) (by omega) ?_
               intro ao' cap' w' ho' hk' hg'
               obtain ⟨hb', hw'⟩ := app_new HB.out HG.out HN.out ho' hk' hg'
               have hc' := cell_of_one hb'
               have hf' := free_of_one hb'
               have HW' := Lib.hid hw'
               clear ho' hk' hg' hb' hw')
  go_end0
  exact ⟨rfl, HW'.out⟩

theorem new_any (w : World) :
    Calls Try.prog 36 #[] w fun e w' => e = .returned (.pointer (some ⟨w.heap.size, 0, none⟩)) ∧ w.alloc (.cells #[.slice none 0 0] 80) = w' := by
  go_enter Try.func36, Try.ntmps36
  go_wp2
  go_ret
  exact ⟨rfl, rfl⟩

/-- the eight bytes of x -/
def be8 (x : Int) : List Int := [x / 72057594037927936 % 256, x / 281474976710656 % 256, x / 1099511627776 % 256, x / 4294967296 % 256, x / 16777216 % 256, x / 65536 % 256, x / 256 % 256, x % 256]

theorem be8_parts (x : Int) (xs : List Int) (c d : Int) (hc : c = IntKind.u16.wrap (x / 4294967296)) (hd : d = x % 4294967296) :
    xs ++ [x / 72057594037927936 % 256] ++ [x / 281474976710656 % 256] ++ [c / 256 % 256, c % 256] ++ [d / 16777216 % 256, d / 65536 % 256, d / 256 % 256, d % 256] = xs ++ be8 x := by
  have hw : IntKind.u16.wrap (x / 4294967296) = x / 4294967296 % 65536 := by
    simp [IntKind.wrap, IntKind.signed, IntKind.bits]
  rw [hw] at hc
  subst hc hd
  simp only [be8, List.append_assoc, List.cons_append, List.nil_append, List.append_cancel_left_eq, List.cons.injEq, and_true, true_and]
  omega

/-- what a call that appends l to a writer ends with, whatever lies behind the length -/
theorem app_more {w w1 w' : World} {B n n' cap cap' : Nat} {ao ao' : Option Addr} {g g1 : Option Nat} {xs' : List Int} (hb1 : w1.heap[B]? = some (.cells #[.slice ao n cap] 80 (0, 0)))
    (hk0 : Kept (fun k => k = B ∨ some k = g) w w1) (hg : (Value.slice ao n cap).ownBlock = g1) (hne : g1 ≠ some B) (hg1 : g1 = g ∨ ∃ k, g1 = some k ∧ w.heap.size ≤ k)
    (ho' : w'.ownsRow 0 5 1 (.slice ao' n' cap') n' (vals xs')) (hk' : Kept (fun k => some k = (Value.slice ao n cap).ownBlock) w1 w')
    (hg' : (Value.slice ao' n' cap').ownBlock = (Value.slice ao n cap).ownBlock ∨ (Value.slice ao' n' cap').ownBlock = some w1.heap.size) :
    w'.heap[B]? = some (.cells #[.slice ao n cap] 80 (0, 0)) ∧ Wrote w B g xs' (w'.setCell ⟨B, 0, none⟩ (.slice ao' n' cap')) := by
  obtain ⟨h1, h2⟩ := app_done (w := w1) hb1 (Kept.refl _ _) hg hne (lt_of_block hb1) ho' hk' hg'
  exact ⟨h1, Wrote.trans hk0 hg1 h2⟩

/-- bytes, behind their length -/
def lenBytes (l : List Int) : List Int := [(l.length : Int) / 256 % 256, (l.length : Int) % 256] ++ l

set_option maxHeartbeats 1600000 in
theorem clone_some (w : World) (ad : Addr) (cap : Nat) (l : List Int) (hb : Bytes w (some ad) l) (hl2 : l.length ≤ 1000000) :
    Calls Try.prog 43 #[.slice (some ad) l.length cap] w fun e w' => ∃ g c, e = .returned (.slice (some ⟨g, 0, none⟩) l.length c) ∧ w'.ownsRow 0 5 1 (.slice (some ⟨g, 0, none⟩) l.length c) l.length (vals l) ∧ w.heap.size ≤ g ∧ Below w.heap.size w w' := by
  have HC := Lib.hid hb
  clear hb
  generalize hm : l.length = m at *
  have HM := Lib.hid hm
  clear hm
  have hq : ∀ (w : World) (a : Option Addr) (n c n' c' : Nat), (binOp .eql 43 (.slice a n c) (.slice none n' c')).run Try.prog w = .ok (.bool a.isNone) w := fun w a n c n' c' => Lib.run_eql_slice_nil w _ _ a n c n' c' Try.underlying43
  have HA := Lib.hid (bytes_kept HC.out ((Kept.refl (fun _ => False) w).alloc (.cells #[] 5)) (fun _ _ _ h => h))
  go_enter Try.func43, Try.ntmps43
  go_wp2_with (at_builtin
               refine wpList_app _ rfl (.tmp 5) (.tmp 6) rfl (.slice (some ⟨w.heap.size, 0, none⟩) 0 0) 0 [] rfl (World.ownsRow_lit w #[] 0 (Nat.zero_le _) (by unfold maxLen; omega) rfl) (some ad) m cap l rfl HM.out HA.out (by intro h; cases h) (by omega) ?_
               intro ao' cap' w' ho' hk' hg'
               rw [Nat.zero_add] at ho' hg' ⊢
               rw [List.nil_append] at ho'
               have HO' := Lib.hid ho'
               have HK' := Lib.hid hk'
               have HG' := Lib.hid hg'
               clear ho' hk' hg')
  go_ret
  have hnn : ao' ≠ none := by
    intro e; subst e
    rcases HG'.out with e | e <;> simp [Value.ownBlock] at e
  rcases HO'.out.2 with ⟨hv, _⟩ | ⟨g', c', cur, hv, _, hgg, rest⟩
  · injection hv with hv; exact absurd hv hnn
  · injection hv with hv _ _
    subst hv
    refine ⟨g', cap', rfl, HO'.out, ?_, ((Kept.refl (fun k => some k = some w.heap.size) w).alloc (.cells #[] 5) |>.trans HK'.out (fun i _ e => e)).below (Nat.le_refl _) (fun k e => by injection e with e; omega)⟩
    rcases HG'.out with e | e
    · simp [Value.ownBlock] at e; omega
    · simp [Value.ownBlock] at e; omega

theorem clone_none (w : World) :
    Calls Try.prog 43 #[.slice none 0 0] w fun e w' => e = .returned (.slice none 0 0) ∧ w = w' := by
  have hq : ∀ (w : World) (a : Option Addr) (n c n' c' : Nat), (binOp .eql 43 (.slice a n c) (.slice none n' c')).run Try.prog w = .ok (.bool a.isNone) w := fun w a n c n' c' => Lib.run_eql_slice_nil w _ _ a n c n' c' Try.underlying43
  go_enter Try.func43, Try.ntmps43
  go_wp2
  go_ret
  exact ⟨rfl, rfl⟩

/-- a row of bytes that was made since there were H blocks -/
def New (H : Nat) (w : World) (ao : Option Addr) (c : Nat) (l : List Int) : Prop :=
  w.ownsRow 0 5 1 (.slice ao l.length c) l.length (vals l) ∧ ∀ ad, ao = some ad → H ≤ ad.block

theorem clone_any (w : World) (ao : Option Addr) (cap : Nat) (l : List Int) (hb : Bytes w ao l) (hnone : ao = none → l = [] ∧ cap = 0) (hl : l.length ≤ 1000000) :
    Calls Try.prog 43 #[.slice ao l.length cap] w fun e w' => ∃ ao' c', e = .returned (.slice ao' l.length c') ∧ New w.heap.size w' ao' c' l ∧ Below w.heap.size w w' := by
  cases ao with
  | none =>
    obtain ⟨rfl, rfl⟩ := hnone rfl
    refine (clone_none w).mono ?_
    rintro e w' ⟨rfl, rfl⟩
    exact ⟨none, 0, rfl, ⟨⟨rfl, .inl ⟨rfl, rfl⟩⟩, fun _ h => by cases h⟩, Below.refl _ _⟩
  | some ad =>
    refine (clone_some w ad cap l hb hl).mono ?_
    rintro e w' ⟨g, c, rfl, ho, hg, hk⟩
    exact ⟨_, c, rfl, ⟨ho, fun a e => by injection e with e; subst e; exact hg⟩, hk⟩

set_option maxHeartbeats 1600000 in
theorem all_any (w : World) (B : Nat) (g : Option Nat) (xs : List Int) (h : Wr w B g xs) (hl : xs.length ≤ 1000000) :
    Calls Try.prog 39 #[.pointer (some ⟨B, 0, none⟩)] w fun e w' => ∃ ao' c', e = .returned (.slice ao' xs.length c') ∧ New w.heap.size w' ao' c' xs ∧ Below w.heap.size w w' := by
  obtain ⟨ao, n, cap, hb, ho, hg, hne⟩ := h
  obtain rfl : n = xs.length := by have := ho.1; simp [vals] at this; omega
  have hnone : ao = none → xs = [] ∧ cap = 0 := by
    intro e; subst e
    obtain ⟨ao', c', e, h⟩ := own_form ho
    injection e with e1 e2 e3
    subst e1 e3
    obtain ⟨h1, h2⟩ := h rfl
    exact ⟨List.eq_nil_of_length_eq_zero h1, h2⟩
  have hc := cell_of_one hb
  have C := Lib.hid (clone_any w ao cap xs (own_bytes ho) hnone hl)
  clear hb ho hg hne hnone
  generalize xs.length = n at *
  go_enter Try.func39, Try.ntmps39
  go_wp2_with fail
  refine C.out.mono ?_
  rintro e w' ⟨ao', c', rfl, hn, hk⟩
  have HN := Lib.hid hn
  have HK := Lib.hid hk
  clear hn hk
  go_wp2_with fail
  go_ret
  exact ⟨ao', c', rfl, HN.out, HK.out⟩

theorem Wr.below {w w' : World} {B : Nat} {g : Option Nat} {xs : List Int} (h : Wr w B g xs) (hk : Below w.heap.size w w') : Wr w' B g xs :=
  h.kept (Kept.ofBelow (S := fun _ => False) hk) (fun h => h) (fun _ _ h => h)

theorem Wrote.bel {w w' : World} {B : Nat} {g : Option Nat} {xs : List Int} {H : Nat} (h : Wrote w B g xs w') (hH : H ≤ w.heap.size) (hB : H ≤ B) (hg : ∀ k, g = some k → H ≤ k) : Below H w w' := by
  obtain ⟨g', _, hk, _⟩ := h
  exact hk.below hH (fun k e => e.elim (fun e => by omega) (fun e => hg k e.symm))
end Go.Proofs.Ytphakceboohbhaa
