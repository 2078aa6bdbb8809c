/- Copies of rows (slices.Clone). -/
import Derived.Test.YtmkeckablkccnaaDoorNb0
namespace Go.Proofs.YtmkeckablkccnaaDoor
open Go.RowKit
set_option maxRecDepth 100000

/-- a row of its own, made since -/
def Cop (H : Nat) (e k : Nat) (l : List Value) (n : Nat) (v : Sl) (w : World) : Prop := v.n = n ∧ w.ownsRow 0 e k (.slice v.a v.n v.c) v.n l ∧ ∀ ad, v.a = some ad → H ≤ ad.block

theorem infoc127 : (Tryd.prog.info? 127).map (fun i => (i.zero, i.size, i.bytes)) = some (some (.agg #[.int .u32 0, .int .u64 0]), 2, 16) := by kernel_rfl
theorem clone118_none (w : World) : Calls Tryd.prog 118 #[.slice none 0 0] w fun e w' => e = .returned (.slice none 0 0) ∧ w' = w := by
  have hq : ∀ (w : World) (a : Option Addr) (n c n' c' : Nat), (binOp .eql 29 (.slice a n c) (.slice none n' c')).run Tryd.prog w = .ok (.bool a.isNone) w := fun w a n c n' c' => Lib.run_eql_slice_nil w _ _ a n c n' c' Tryd.underlying29
  go_enter Tryd.func118, Tryd.ntmps118
  go_wp2_with fail
  go_ret
  exact ⟨rfl, rfl⟩
set_option maxHeartbeats 1600000 in
theorem clone118_some (w : World) (ad : Addr) (m cap : Nat) (l : List Mk) (hr : Row w 2 Mk.cells (.slice (some ad) m cap) l) :
    Calls Tryd.prog 118 #[.slice (some ad) m cap] w fun e w' => ∃ v' : Sl, e = .returned (.slice v'.a v'.n v'.c) ∧ Cop w.heap.size 127 2 (l.flatMap Mk.cells) m v' w' ∧ Below w.heap.size w w' := by
  obtain ⟨i0, hi0, hz0, hz1, hz2⟩ := info_parts infoc127
  have hm : m ≤ 1000000 := by
    obtain ⟨ao, c, e, _, _, h, _⟩ := hr
    injection e with _ e _
    omega
  have HM := Lib.hid hm
  have HA := Lib.hid (hr.below ((Below.refl w.heap.size w).alloc (Nat.le_refl _) (.cells #[] 127)))
  have HI := Lib.hid hi0
  have HZ0 := Lib.hid hz0
  have HZ1 := Lib.hid hz1
  have HZ2 := Lib.hid hz2
  clear hr hm hi0 hz0 hz1 hz2
  have hq : ∀ (w : World) (a : Option Addr) (n c n' c' : Nat), (binOp .eql 29 (.slice a n c) (.slice none n' c')).run Tryd.prog w = .ok (.bool a.isNone) w := fun w a n c n' c' => Lib.run_eql_slice_nil w _ _ a n c n' c' Tryd.underlying29
  go_enter Tryd.func118, Tryd.ntmps118
  go_wp2_with (at_builtin
               refine wpList_appR Mk.cells 2 29 127 16 i0 _ _ rfl (.tmp 5) (.tmp 6) rfl Tryd.underlying29 HI.out HZ0.out HZ1.out HZ2.out rfl (by decide) (by decide) (.slice (some ⟨w.heap.size, 0, none⟩) 0 0) 0 [] rfl (World.ownsRow_lit w #[] 0 (Nat.zero_le _) (by unfold maxLen; omega) rfl) (some ad) m cap l rfl HA.out (fun x _ => rfl) (fun x _ u hu => by simp [Mk.cells] at hu; rcases hu with rfl | rfl <;> rfl) (by omega) ?_
               intro ao' cap' w' ho' hk' hg'
               rw [Nat.zero_add] at ho' hg' ⊢
               rw [List.nil_append] at ho'
               have HO' := Lib.hid ho'
               have HK' := Lib.hid hk'
               have HG' := Lib.hid hg'
               clear ho' hk' hg')
  go_ret
  refine ⟨⟨ao', m, cap'⟩, rfl, ⟨rfl, HO'.out, fun a e => ?_⟩, ((Kept.refl (fun k => some k = some w.heap.size) w).alloc (.cells #[] 127) |>.trans HK'.out (fun i _ e => e)).below (Nat.le_refl _) (fun k e => by injection e with e; omega)⟩
  have e2 : ao' = some a := e
  subst e2
  rcases HG'.out with e | e
  · simp [Value.ownBlock] at e; omega
  · simp [Value.ownBlock] at e; omega
theorem clone118 (w : World) (v : Sl) (l : List Mk) (hr : Row w 2 Mk.cells v.val l) :
    Calls Tryd.prog 118 #[.slice v.a v.n v.c] w fun e w' => ∃ v' : Sl, e = .returned (.slice v'.a v'.n v'.c) ∧ Cop w.heap.size 127 2 (l.flatMap Mk.cells) l.length v' w' ∧ Below w.heap.size w w' := by
  obtain ⟨va, vn, vc⟩ := v
  have hr' := hr
  obtain ⟨ao, c, e, h1, h2, h3, h4⟩ := hr
  unfold Sl.val at e
  injection e with e1 e2 e3
  simp only at e1 e2 e3
  subst e1 e2 e3
  cases va with
  | none =>
    obtain rfl := h1 rfl
    obtain rfl : l = [] := by
      cases l with
      | nil => rfl
      | cons y l => obtain ⟨b, off, e, _⟩ := h4 0 y rfl; cases e
    refine (clone118_none w).mono ?_
    rintro e w' ⟨rfl, rfl⟩
    exact ⟨⟨none, 0, 0⟩, rfl, ⟨rfl, ⟨rfl, .inl ⟨rfl, rfl⟩⟩, fun _ h => by cases h⟩, Below.refl _ _⟩
  | some ad => exact clone118_some w ad _ _ l hr'

theorem infoc130 : (Tryd.prog.info? 130).map (fun i => (i.zero, i.size, i.bytes)) = some (some (.agg #[.int .u32 0, .int .u32 0, .int .u8 0, .int .u32 0, .int .u8 0, .int .u8 0, .int .u16 0]), 7, 20) := by kernel_rfl
theorem clone119_none (w : World) : Calls Tryd.prog 119 #[.slice none 0 0] w fun e w' => e = .returned (.slice none 0 0) ∧ w' = w := by
  have hq : ∀ (w : World) (a : Option Addr) (n c n' c' : Nat), (binOp .eql 30 (.slice a n c) (.slice none n' c')).run Tryd.prog w = .ok (.bool a.isNone) w := fun w a n c n' c' => Lib.run_eql_slice_nil w _ _ a n c n' c' Tryd.underlying30
  go_enter Tryd.func119, Tryd.ntmps119
  go_wp2_with fail
  go_ret
  exact ⟨rfl, rfl⟩
set_option maxHeartbeats 1600000 in
theorem clone119_some (w : World) (ad : Addr) (m cap : Nat) (l : List En) (hr : Row w 7 En.cells (.slice (some ad) m cap) l) :
    Calls Tryd.prog 119 #[.slice (some ad) m cap] w fun e w' => ∃ v' : Sl, e = .returned (.slice v'.a v'.n v'.c) ∧ Cop w.heap.size 130 7 (l.flatMap En.cells) m v' w' ∧ Below w.heap.size w w' := by
  obtain ⟨i0, hi0, hz0, hz1, hz2⟩ := info_parts infoc130
  have hm : m ≤ 1000000 := by
    obtain ⟨ao, c, e, _, _, h, _⟩ := hr
    injection e with _ e _
    omega
  have HM := Lib.hid hm
  have HA := Lib.hid (hr.below ((Below.refl w.heap.size w).alloc (Nat.le_refl _) (.cells #[] 130)))
  have HI := Lib.hid hi0
  have HZ0 := Lib.hid hz0
  have HZ1 := Lib.hid hz1
  have HZ2 := Lib.hid hz2
  clear hr hm hi0 hz0 hz1 hz2
  have hq : ∀ (w : World) (a : Option Addr) (n c n' c' : Nat), (binOp .eql 30 (.slice a n c) (.slice none n' c')).run Tryd.prog w = .ok (.bool a.isNone) w := fun w a n c n' c' => Lib.run_eql_slice_nil w _ _ a n c n' c' Tryd.underlying30
  go_enter Tryd.func119, Tryd.ntmps119
  go_wp2_with (at_builtin
               refine wpList_appR En.cells 7 30 130 20 i0 _ _ rfl (.tmp 5) (.tmp 6) rfl Tryd.underlying30 HI.out HZ0.out HZ1.out HZ2.out rfl (by decide) (by decide) (.slice (some ⟨w.heap.size, 0, none⟩) 0 0) 0 [] rfl (World.ownsRow_lit w #[] 0 (Nat.zero_le _) (by unfold maxLen; omega) rfl) (some ad) m cap l rfl HA.out (fun x _ => rfl) (fun x _ u hu => by simp [En.cells] at hu; rcases hu with rfl | rfl | rfl | rfl | rfl | rfl | rfl <;> rfl) (by omega) ?_
               intro ao' cap' w' ho' hk' hg'
               rw [Nat.zero_add] at ho' hg' ⊢
               rw [List.nil_append] at ho'
               have HO' := Lib.hid ho'
               have HK' := Lib.hid hk'
               have HG' := Lib.hid hg'
               clear ho' hk' hg')
  go_ret
  refine ⟨⟨ao', m, cap'⟩, rfl, ⟨rfl, HO'.out, fun a e => ?_⟩, ((Kept.refl (fun k => some k = some w.heap.size) w).alloc (.cells #[] 130) |>.trans HK'.out (fun i _ e => e)).below (Nat.le_refl _) (fun k e => by injection e with e; omega)⟩
  have e2 : ao' = some a := e
  subst e2
  rcases HG'.out with e | e
  · simp [Value.ownBlock] at e; omega
  · simp [Value.ownBlock] at e; omega
theorem clone119 (w : World) (v : Sl) (l : List En) (hr : Row w 7 En.cells v.val l) :
    Calls Tryd.prog 119 #[.slice v.a v.n v.c] w fun e w' => ∃ v' : Sl, e = .returned (.slice v'.a v'.n v'.c) ∧ Cop w.heap.size 130 7 (l.flatMap En.cells) l.length v' w' ∧ Below w.heap.size w w' := by
  obtain ⟨va, vn, vc⟩ := v
  have hr' := hr
  obtain ⟨ao, c, e, h1, h2, h3, h4⟩ := hr
  unfold Sl.val at e
  injection e with e1 e2 e3
  simp only at e1 e2 e3
  subst e1 e2 e3
  cases va with
  | none =>
    obtain rfl := h1 rfl
    obtain rfl : l = [] := by
      cases l with
      | nil => rfl
      | cons y l => obtain ⟨b, off, e, _⟩ := h4 0 y rfl; cases e
    refine (clone119_none w).mono ?_
    rintro e w' ⟨rfl, rfl⟩
    exact ⟨⟨none, 0, 0⟩, rfl, ⟨rfl, ⟨rfl, .inl ⟨rfl, rfl⟩⟩, fun _ h => by cases h⟩, Below.refl _ _⟩
  | some ad => exact clone119_some w ad _ _ l hr'

theorem infoc32 : (Tryd.prog.info? 32).map (fun i => (i.zero, i.size, i.bytes)) = some (some (.agg #[.int .u8 0, .int .u8 0, .int .u32 0, .int .u32 0, .slice none 0 0, .slice none 0 0, .slice none 0 0]), 7, 88) := by kernel_rfl
theorem clone91_none (w : World) : Calls Tryd.prog 91 #[.slice none 0 0] w fun e w' => e = .returned (.slice none 0 0) ∧ w' = w := by
  have hq : ∀ (w : World) (a : Option Addr) (n c n' c' : Nat), (binOp .eql 33 (.slice a n c) (.slice none n' c')).run Tryd.prog w = .ok (.bool a.isNone) w := fun w a n c n' c' => Lib.run_eql_slice_nil w _ _ a n c n' c' Tryd.underlying33
  go_enter Tryd.func91, Tryd.ntmps91
  go_wp2_with fail
  go_ret
  exact ⟨rfl, rfl⟩
set_option maxHeartbeats 1600000 in
theorem clone91_some (w : World) (ad : Addr) (m cap : Nat) (l : List (Vt × Vc)) (hr : Row w 7 vcell (.slice (some ad) m cap) l) :
    Calls Tryd.prog 91 #[.slice (some ad) m cap] w fun e w' => ∃ v' : Sl, e = .returned (.slice v'.a v'.n v'.c) ∧ Cop w.heap.size 32 7 (l.flatMap vcell) m v' w' ∧ Below w.heap.size w w' := by
  obtain ⟨i0, hi0, hz0, hz1, hz2⟩ := info_parts infoc32
  have hm : m ≤ 1000000 := by
    obtain ⟨ao, c, e, _, _, h, _⟩ := hr
    injection e with _ e _
    omega
  have HM := Lib.hid hm
  have HA := Lib.hid (hr.below ((Below.refl w.heap.size w).alloc (Nat.le_refl _) (.cells #[] 32)))
  have HI := Lib.hid hi0
  have HZ0 := Lib.hid hz0
  have HZ1 := Lib.hid hz1
  have HZ2 := Lib.hid hz2
  clear hr hm hi0 hz0 hz1 hz2
  have hq : ∀ (w : World) (a : Option Addr) (n c n' c' : Nat), (binOp .eql 33 (.slice a n c) (.slice none n' c')).run Tryd.prog w = .ok (.bool a.isNone) w := fun w a n c n' c' => Lib.run_eql_slice_nil w _ _ a n c n' c' Tryd.underlying33
  go_enter Tryd.func91, Tryd.ntmps91
  go_wp2_with (at_builtin
               refine wpList_appR vcell 7 33 32 88 i0 _ _ rfl (.tmp 5) (.tmp 6) rfl Tryd.underlying33 HI.out HZ0.out HZ1.out HZ2.out rfl (by decide) (by decide) (.slice (some ⟨w.heap.size, 0, none⟩) 0 0) 0 [] rfl (World.ownsRow_lit w #[] 0 (Nat.zero_le _) (by unfold maxLen; omega) rfl) (some ad) m cap l rfl HA.out (fun x _ => rfl) (fun x _ u hu => by exact Vt.one x.1 u hu) (by omega) ?_
               intro ao' cap' w' ho' hk' hg'
               rw [Nat.zero_add] at ho' hg' ⊢
               rw [List.nil_append] at ho'
               have HO' := Lib.hid ho'
               have HK' := Lib.hid hk'
               have HG' := Lib.hid hg'
               clear ho' hk' hg')
  go_ret
  refine ⟨⟨ao', m, cap'⟩, rfl, ⟨rfl, HO'.out, fun a e => ?_⟩, ((Kept.refl (fun k => some k = some w.heap.size) w).alloc (.cells #[] 32) |>.trans HK'.out (fun i _ e => e)).below (Nat.le_refl _) (fun k e => by injection e with e; omega)⟩
  have e2 : ao' = some a := e
  subst e2
  rcases HG'.out with e | e
  · simp [Value.ownBlock] at e; omega
  · simp [Value.ownBlock] at e; omega
theorem clone91 (w : World) (v : Sl) (l : List (Vt × Vc)) (hr : Row w 7 vcell v.val l) :
    Calls Tryd.prog 91 #[.slice v.a v.n v.c] w fun e w' => ∃ v' : Sl, e = .returned (.slice v'.a v'.n v'.c) ∧ Cop w.heap.size 32 7 (l.flatMap vcell) l.length v' w' ∧ Below w.heap.size w w' := by
  obtain ⟨va, vn, vc⟩ := v
  have hr' := hr
  obtain ⟨ao, c, e, h1, h2, h3, h4⟩ := hr
  unfold Sl.val at e
  injection e with e1 e2 e3
  simp only at e1 e2 e3
  subst e1 e2 e3
  cases va with
  | none =>
    obtain rfl := h1 rfl
    obtain rfl : l = [] := by
      cases l with
      | nil => rfl
      | cons y l => obtain ⟨b, off, e, _⟩ := h4 0 y rfl; cases e
    refine (clone91_none w).mono ?_
    rintro e w' ⟨rfl, rfl⟩
    exact ⟨⟨none, 0, 0⟩, rfl, ⟨rfl, ⟨rfl, .inl ⟨rfl, rfl⟩⟩, fun _ h => by cases h⟩, Below.refl _ _⟩
  | some ad => exact clone91_some w ad _ _ l hr'

theorem infoc28 : (Tryd.prog.info? 28).map (fun i => (i.zero, i.size, i.bytes)) = some (some (.int .u64 0), 1, 8) := by kernel_rfl
theorem clone92_none (w : World) : Calls Tryd.prog 92 #[.slice none 0 0] w fun e w' => e = .returned (.slice none 0 0) ∧ w' = w := by
  have hq : ∀ (w : World) (a : Option Addr) (n c n' c' : Nat), (binOp .eql 34 (.slice a n c) (.slice none n' c')).run Tryd.prog w = .ok (.bool a.isNone) w := fun w a n c n' c' => Lib.run_eql_slice_nil w _ _ a n c n' c' Tryd.underlying34
  go_enter Tryd.func92, Tryd.ntmps92
  go_wp2_with fail
  go_ret
  exact ⟨rfl, rfl⟩
set_option maxHeartbeats 1600000 in
theorem clone92_some (w : World) (ad : Addr) (m cap : Nat) (l : List Int) (hr : Row w 1 (fun x => [Value.int .u64 x]) (.slice (some ad) m cap) l) :
    Calls Tryd.prog 92 #[.slice (some ad) m cap] w fun e w' => ∃ v' : Sl, e = .returned (.slice v'.a v'.n v'.c) ∧ Cop w.heap.size 28 1 (l.flatMap (fun x => [Value.int .u64 x])) m v' w' ∧ Below w.heap.size w w' := by
  obtain ⟨i0, hi0, hz0, hz1, hz2⟩ := info_parts infoc28
  have hm : m ≤ 1000000 := by
    obtain ⟨ao, c, e, _, _, h, _⟩ := hr
    injection e with _ e _
    omega
  have HM := Lib.hid hm
  have HA := Lib.hid (hr.below ((Below.refl w.heap.size w).alloc (Nat.le_refl _) (.cells #[] 28)))
  have HI := Lib.hid hi0
  have HZ0 := Lib.hid hz0
  have HZ1 := Lib.hid hz1
  have HZ2 := Lib.hid hz2
  clear hr hm hi0 hz0 hz1 hz2
  have hq : ∀ (w : World) (a : Option Addr) (n c n' c' : Nat), (binOp .eql 34 (.slice a n c) (.slice none n' c')).run Tryd.prog w = .ok (.bool a.isNone) w := fun w a n c n' c' => Lib.run_eql_slice_nil w _ _ a n c n' c' Tryd.underlying34
  go_enter Tryd.func92, Tryd.ntmps92
  go_wp2_with (at_builtin
               refine wpList_appR (fun x => [Value.int .u64 x]) 1 34 28 8 i0 _ _ rfl (.tmp 5) (.tmp 6) rfl Tryd.underlying34 HI.out HZ0.out HZ1.out HZ2.out rfl (by decide) (by decide) (.slice (some ⟨w.heap.size, 0, none⟩) 0 0) 0 [] rfl (World.ownsRow_lit w #[] 0 (Nat.zero_le _) (by unfold maxLen; omega) rfl) (some ad) m cap l rfl HA.out (fun x _ => rfl) (fun x _ u hu => by simp at hu; subst hu; rfl) (by omega) ?_
               intro ao' cap' w' ho' hk' hg'
               rw [Nat.zero_add] at ho' hg' ⊢
               rw [List.nil_append] at ho'
               have HO' := Lib.hid ho'
               have HK' := Lib.hid hk'
               have HG' := Lib.hid hg'
               clear ho' hk' hg')
  go_ret
  refine ⟨⟨ao', m, cap'⟩, rfl, ⟨rfl, HO'.out, fun a e => ?_⟩, ((Kept.refl (fun k => some k = some w.heap.size) w).alloc (.cells #[] 28) |>.trans HK'.out (fun i _ e => e)).below (Nat.le_refl _) (fun k e => by injection e with e; omega)⟩
  have e2 : ao' = some a := e
  subst e2
  rcases HG'.out with e | e
  · simp [Value.ownBlock] at e; omega
  · simp [Value.ownBlock] at e; omega
theorem clone92 (w : World) (v : Sl) (l : List Int) (hr : Row w 1 (fun x => [Value.int .u64 x]) v.val l) :
    Calls Tryd.prog 92 #[.slice v.a v.n v.c] w fun e w' => ∃ v' : Sl, e = .returned (.slice v'.a v'.n v'.c) ∧ Cop w.heap.size 28 1 (l.flatMap (fun x => [Value.int .u64 x])) l.length v' w' ∧ Below w.heap.size w w' := by
  obtain ⟨va, vn, vc⟩ := v
  have hr' := hr
  obtain ⟨ao, c, e, h1, h2, h3, h4⟩ := hr
  unfold Sl.val at e
  injection e with e1 e2 e3
  simp only at e1 e2 e3
  subst e1 e2 e3
  cases va with
  | none =>
    obtain rfl := h1 rfl
    obtain rfl : l = [] := by
      cases l with
      | nil => rfl
      | cons y l => obtain ⟨b, off, e, _⟩ := h4 0 y rfl; cases e
    refine (clone92_none w).mono ?_
    rintro e w' ⟨rfl, rfl⟩
    exact ⟨⟨none, 0, 0⟩, rfl, ⟨rfl, ⟨rfl, .inl ⟨rfl, rfl⟩⟩, fun _ h => by cases h⟩, Below.refl _ _⟩
  | some ad => exact clone92_some w ad _ _ l hr'

theorem infoc5 : (Tryd.prog.info? 5).map (fun i => (i.zero, i.size, i.bytes)) = some (some (.int .u8 0), 1, 1) := by kernel_rfl
theorem clone93_none (w : World) : Calls Tryd.prog 93 #[.slice none 0 0] w fun e w' => e = .returned (.slice none 0 0) ∧ w' = w := by
  have hq : ∀ (w : World) (a : Option Addr) (n c n' c' : Nat), (binOp .eql 35 (.slice a n c) (.slice none n' c')).run Tryd.prog w = .ok (.bool a.isNone) w := fun w a n c n' c' => Lib.run_eql_slice_nil w _ _ a n c n' c' Tryd.underlying35
  go_enter Tryd.func93, Tryd.ntmps93
  go_wp2_with fail
  go_ret
  exact ⟨rfl, rfl⟩
set_option maxHeartbeats 1600000 in
theorem clone93_some (w : World) (ad : Addr) (m cap : Nat) (l : List Int) (hr : Row w 1 (fun x => [Value.int .u8 x]) (.slice (some ad) m cap) l) :
    Calls Tryd.prog 93 #[.slice (some ad) m cap] w fun e w' => ∃ v' : Sl, e = .returned (.slice v'.a v'.n v'.c) ∧ Cop w.heap.size 5 1 (l.flatMap (fun x => [Value.int .u8 x])) m v' w' ∧ Below w.heap.size w w' := by
  obtain ⟨i0, hi0, hz0, hz1, hz2⟩ := info_parts infoc5
  have hm : m ≤ 1000000 := by
    obtain ⟨ao, c, e, _, _, h, _⟩ := hr
    injection e with _ e _
    omega
  have HM := Lib.hid hm
  have HA := Lib.hid (hr.below ((Below.refl w.heap.size w).alloc (Nat.le_refl _) (.cells #[] 5)))
  have HI := Lib.hid hi0
  have HZ0 := Lib.hid hz0
  have HZ1 := Lib.hid hz1
  have HZ2 := Lib.hid hz2
  clear hr hm hi0 hz0 hz1 hz2
  have hq : ∀ (w : World) (a : Option Addr) (n c n' c' : Nat), (binOp .eql 35 (.slice a n c) (.slice none n' c')).run Tryd.prog w = .ok (.bool a.isNone) w := fun w a n c n' c' => Lib.run_eql_slice_nil w _ _ a n c n' c' Tryd.underlying35
  go_enter Tryd.func93, Tryd.ntmps93
  go_wp2_with (at_builtin
               refine wpList_appR (fun x => [Value.int .u8 x]) 1 35 5 1 i0 _ _ rfl (.tmp 5) (.tmp 6) rfl Tryd.underlying35 HI.out HZ0.out HZ1.out HZ2.out rfl (by decide) (by decide) (.slice (some ⟨w.heap.size, 0, none⟩) 0 0) 0 [] rfl (World.ownsRow_lit w #[] 0 (Nat.zero_le _) (by unfold maxLen; omega) rfl) (some ad) m cap l rfl HA.out (fun x _ => rfl) (fun x _ u hu => by simp at hu; subst hu; rfl) (by omega) ?_
               intro ao' cap' w' ho' hk' hg'
               rw [Nat.zero_add] at ho' hg' ⊢
               rw [List.nil_append] at ho'
               have HO' := Lib.hid ho'
               have HK' := Lib.hid hk'
               have HG' := Lib.hid hg'
               clear ho' hk' hg')
  go_ret
  refine ⟨⟨ao', m, cap'⟩, rfl, ⟨rfl, HO'.out, fun a e => ?_⟩, ((Kept.refl (fun k => some k = some w.heap.size) w).alloc (.cells #[] 5) |>.trans HK'.out (fun i _ e => e)).below (Nat.le_refl _) (fun k e => by injection e with e; omega)⟩
  have e2 : ao' = some a := e
  subst e2
  rcases HG'.out with e | e
  · simp [Value.ownBlock] at e; omega
  · simp [Value.ownBlock] at e; omega
theorem clone93 (w : World) (v : Sl) (l : List Int) (hr : Row w 1 (fun x => [Value.int .u8 x]) v.val l) :
    Calls Tryd.prog 93 #[.slice v.a v.n v.c] w fun e w' => ∃ v' : Sl, e = .returned (.slice v'.a v'.n v'.c) ∧ Cop w.heap.size 5 1 (l.flatMap (fun x => [Value.int .u8 x])) l.length v' w' ∧ Below w.heap.size w w' := by
  obtain ⟨va, vn, vc⟩ := v
  have hr' := hr
  obtain ⟨ao, c, e, h1, h2, h3, h4⟩ := hr
  unfold Sl.val at e
  injection e with e1 e2 e3
  simp only at e1 e2 e3
  subst e1 e2 e3
  cases va with
  | none =>
    obtain rfl := h1 rfl
    obtain rfl : l = [] := by
      cases l with
      | nil => rfl
      | cons y l => obtain ⟨b, off, e, _⟩ := h4 0 y rfl; cases e
    refine (clone93_none w).mono ?_
    rintro e w' ⟨rfl, rfl⟩
    exact ⟨⟨none, 0, 0⟩, rfl, ⟨rfl, ⟨rfl, .inl ⟨rfl, rfl⟩⟩, fun _ h => by cases h⟩, Below.refl _ _⟩
  | some ad => exact clone93_some w ad _ _ l hr'

end Go.Proofs.YtmkeckablkccnaaDoor
