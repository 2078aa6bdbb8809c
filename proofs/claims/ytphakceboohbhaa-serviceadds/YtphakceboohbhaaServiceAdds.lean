/- For every numbers the law ServiceAdds returns true: numbers that are added to one key, by whatever clients, wrap round at 2^16, and each is told the sum that it made. No condition. -/
import Derived.Test.YtphakceboohbhaaRows
import Derived.Test.YtphakceboohbhaaTb
import Derived.WalkKit
import Derived.ProofKit
import Derived.OpenShut
import Derived.ShutString
import Derived.ChangeOld
import Derived.Below
namespace Go.Proofs.Ytphakceboohbhaa.serviceAdds
open Go.ChangeShapes Go.WideShapes Go.ChangeAt Go.RowKit
set_option maxRecDepth 100000

theorem own : ownKnob Try.prog.godebug = none := by kernel_rfl
theorem laidOut : laidOutB Try.prog = true := by kernel_rfl

/-- the loop's facts: the map at A, the times at B, the sum q -/
def AI (w wr : World) (A B : Nat) (s : Sv) (t : Nat → Int) (q : Int) (j : Nat) : Prop :=
  MI w wr A s ∧ Tb wr B t ∧ w.heap.size ≤ B ∧ A ≠ B ∧ (∀ c, 1 ≤ c ∧ c ≤ 4 → s.T (c - 1) = t c) ∧ (∀ c, 0 ≤ t c ∧ t c ≤ j) ∧ s.V 9 = q

set_option maxHeartbeats 16000000 in
theorem core (av : Option Addr) (vs : List Int) (cv : Nat) (w : World) (hr : RowU w 1 u16c (.slice av vs.length cv) vs) (hv : ∀ x ∈ vs, 0 ≤ x ∧ x ≤ 65535) (h1 : vs.length ≤ 60) :
    Calls Try.prog 6 #[.slice av vs.length cv] w fun e w' => e = .returned (.bool true) ∧ Below w.heap.size w w' := by
  have KN := Lib.hid (known_any w)
  have d1 : decide (60 < (vs.length : Int)) = false := by rw [decide_eq_false_iff_not]; omega
  have HR := Lib.hid (And.intro hr hv)
  obtain ⟨n, hn⟩ : ∃ n, n = vs.length := ⟨_, rfl⟩
  rw [← hn] at d1 h1 ⊢
  have HN := Lib.hid (And.intro hn h1)
  clear hr hv hn h1
  go_enter Try.func6, Try.ntmps6
  go_wp2_with fail
  refine KN.out.mono ?_
  rintro e w1 ⟨rfl, b1⟩
  have NW := Lib.hid (new_mi w w1 b1)
  replace b1 := Lib.hid b1
  clear KN
  go_wp2_with fail
  refine NW.out.mono ?_
  rintro e w2 ⟨rfl, m2, b2⟩
  have hB := tb_new w2
  have bz : Below w2.heap.size w2 (w2.alloc (.cells #[.int .u32 0, .int .u32 0, .int .u32 0, .int .u32 0, .int .u32 0] 30)) := (Below.refl _ w2).alloc (Nat.le_refl _) _
  have K0 : AI w (w2.alloc (.cells #[.int .u32 0, .int .u32 0, .int .u32 0, .int .u32 0, .int .u32 0] 30)) w1.heap.size w2.heap.size s0 nul 0 0 :=
    ⟨m2.below bz, hB, m2.2.2.1.size, by have := m2.1.lt; omega, fun _ _ => rfl, fun _ => by simp [nul], rfl⟩
  replace K0 := Lib.hid K0
  clear NW m2 b2 hB bz b1
  go_wp2_with fail
  generalize w1.heap.size = A at *
  generalize w2.heap.size = B at *
  generalize w2.alloc (.cells #[.int .u32 0, .int .u32 0, .int .u32 0, .int .u32 0, .int .u32 0] 30) = w3 at *
  go_loopw [4, 6] (fun v4 v6 wr => ∃ (j : Nat) (s : Sv) (t : Nat → Int) (q : Int), v4 = .int .u16 q ∧ v6 = .int .i64 j ∧ j ≤ n ∧ Hid (AI w wr A B s t q j)) (fun _ v6 _ => n - (intOf v6).toNat)
  case atStart => exact ⟨0, _, _, _, rfl, rfl, by omega, K0⟩
  case round =>
    obtain ⟨j, s, t, q, rfl, rfl, hj, I⟩ := hrel
    by_cases hjn : j < n
    · have hjn' : (j : Int) < n := by omega
      have hlv : j < vs.length := by have := HN.out.1; omega
      have hj60 : (j : Int) < 60 := by have := HN.out.2; omega
      obtain ⟨x, hx⟩ : ∃ x, vs[j]? = some x := ⟨_, List.getElem?_eq_getElem hlv⟩
      have hx0 : 0 ≤ x ∧ x ≤ 65535 := HR.out.2 _ (List.mem_of_getElem? hx)
      have hcV := fun wx (k : Below w.heap.size w wx) => row_cell HR.out.1 (Kept.ofBelow (S := fun _ => False) k) hx (u := .int .u16 x) rfl
      obtain ⟨g, off, hav, -⟩ := hcV w (Below.refl _ _)
      subst hav
      have hxc : Hid (∀ wx, Below w.heap.size w wx → wx.cell? ⟨g, off + j, none⟩ = some (.int .u16 x)) := Lib.hid (fun wx k => by
        obtain ⟨k1, off1, e, hc⟩ := hcV wx k
        injection e with e; injection e with e1 e2; subst e1 e2
        exact hc)
      have c0 := hxc.out _ I.out.1.2.2.1
      obtain ⟨m, hm⟩ : ∃ m : Nat, x.tmod 4 = m := ⟨(x % 4).toNat, by rw [Int.tmod_eq_emod_of_nonneg hx0.1]; omega⟩
      have hm4 : m < 4 := by rw [Int.tmod_eq_emod_of_nonneg hx0.1] at hm; omega
      have hmw : IntKind.u8.wrap (m : Int) = m := by
        have : IntKind.u8.wrap (m : Int) = (m : Int) % 256 := rfl
        omega
      obtain ⟨cn, hcn⟩ : ∃ c : Nat, (m : Int) + 1 = c := ⟨m + 1, rfl⟩
      have hcw : IntKind.u8.wrap ((m : Int) + 1) = cn := by
        have : IntKind.u8.wrap ((m : Int) + 1) = ((m : Int) + 1) % 256 := rfl
        omega
      have hcm : 1 ≤ cn ∧ cn ≤ 4 := by omega
      have hc5 : (cn : Int) < 5 := by omega
      have t0 := I.out.2.1.cell cn (by omega)
      have tf := I.out.2.1.frozen cn
      obtain ⟨tn, htn⟩ : ∃ z, t cn + 1 = z := ⟨_, rfl⟩
      have hw1 : IntKind.u32.wrap (t cn + 1) = tn := by
        have h2 := I.out.2.2.2.2.2.1 cn
        have h3 := HN.out
        have : IntKind.u32.wrap (t cn + 1) = (t cn + 1) % 4294967296 := rfl
        omega
      have HX := Lib.hid (And.intro hx0 (And.intro hcm (And.intro hlv htn)))
      clear hcV hx hx0 hlv hm4 hcm htn
      have bs : Below w.heap.size w (wr.setCell ⟨B, cn, none⟩ (.int .u32 tn)) := I.out.1.2.2.1.setCell I.out.2.2.1 _
      have c1 := hxc.out _ bs
      have hT := I.out.2.1.set cn tn (by have := HX.out; omega)
      have hM : MI w (wr.setCell ⟨B, cn, none⟩ (.int .u32 tn)) A s := ⟨Mp.kept (S := fun i => i = B) I.out.1.1 ((Kept.refl _ wr).setCell _ _ (fun _ => rfl)) I.out.2.2.2.1, I.out.1.2.1, bs, I.out.1.2.2.2⟩
      have HM := Lib.hid (And.intro hM hT)
      obtain ⟨q2, hq2⟩ : ∃ z, IntKind.u16.wrap (q + x) = z := ⟨_, rfl⟩
      clear bs hT hM
      go_wp2_with fail
      generalize wr.setCell ⟨B, cn, none⟩ (.int .u32 tn) = w6 at *
      have HA : Hid ((∀ c, 1 ≤ c ∧ c ≤ 4 → s.T (c - 1) = t c) ∧ (∀ c, 0 ≤ t c ∧ t c ≤ j) ∧ s.V 9 = q ∧ w.heap.size ≤ B ∧ A ≠ B) := Lib.hid ⟨I.out.2.2.2.2.1, I.out.2.2.2.2.2.1, I.out.2.2.2.2.2.2, I.out.2.2.1, I.out.2.2.2.1⟩
      have htn := HX.out.2.2.2
      have hreal : (⟨cn, tn, 3, 9, x⟩ : Rq).real = true := real_mk (by have := HX.out.2.1; omega) (by have := HA.out.2.1 cn; omega) (by decide) (by decide) (.inl (by decide))
      have hlt : ct s.T cn < tn := by rw [ct_in s.T cn HX.out.2.1, HA.out.1 cn HX.out.2.1]; omega
      have hN := ap_new (s := s) (r := ⟨cn, tn, 3, 9, x⟩) hreal hlt
      have eR : apR s ⟨cn, tn, 3, 9, x⟩ = q2 := by
        rw [hN.2.1]
        show doR _ (s.V 9) = q2
        rw [HA.out.2.2.1]
        unfold doR
        simp only [show ¬ ((3 : Int) = 1) by decide, if_false, if_true]
        rw [← hq2]; rfl
      have eV : doV ⟨cn, tn, 3, 9, x⟩ (s.V 9) = q2 := by
        rw [HA.out.2.2.1]
        unfold doV
        simp only [show ¬ ((3 : Int) = 1) by decide, if_false, if_true]
        rw [← hq2]; rfl
      obtain ⟨s', hs'⟩ : ∃ z, apS s ⟨cn, tn, 3, 9, x⟩ = z := ⟨_, rfl⟩
      have AP := Lib.hid (ap_mi HM.out.1.drew cn tn 3 9 x s' q2 true (ok_mk (by have := HX.out; omega) (by have := HX.out; have := HA.out.2.1 cn; have := HN.out; omega) (by decide) (by decide) HX.out.1) hs' eR hN.2.2.1)
      have HS : Hid ((∀ c, 1 ≤ c ∧ c ≤ 4 → s'.T (c - 1) = upd t cn tn c) ∧ (∀ c, 0 ≤ upd t cn tn c ∧ upd t cn tn c ≤ ((j + 1 : Nat) : Int)) ∧ s'.V 9 = q2) := Lib.hid (by
        rw [hN.1] at hs'
        subst hs'
        refine ⟨fun c hc => ?_, fun c => ?_, ?_⟩
        · show upd s.T (cn - 1) tn (c - 1) = _
          have := HX.out.2.1
          unfold upd
          by_cases e : c = cn
          · rw [if_pos (by omega), if_pos e]
          · rw [if_neg (by omega), if_neg e]; exact HA.out.1 c hc
        · have := HA.out.2.1 c
          have := HA.out.2.1 cn
          unfold upd
          split <;> omega
        · show upd s.V 9 _ 9 = q2
          unfold upd
          rw [if_pos rfl]; exact eV)
      have hc : Hid (∀ wx, Below w.heap.size w wx ∧ Tb wx B (upd t cn tn) → wx.cell? ⟨B, cn, none⟩ = some (.int .u32 tn) ∧ wx.cell? ⟨g, off + j, none⟩ = some (.int .u16 x)) := Lib.hid (fun wx hw => by
        refine ⟨?_, hxc.out wx hw.1⟩
        rw [hw.2.cell cn (by have := HX.out.2.1; omega)]
        simp [upd])
      have BG : Hid (Below w.heap.size w w6.drew ∧ Tb w6.drew B (upd t cn tn)) := Lib.hid ⟨HM.out.1.drew.2.2.1, HM.out.2⟩
      have hq0 : 0 ≤ q2 ∧ q2 ≤ 65535 := by
        rw [← hq2]
        show 0 ≤ (q + x) % 65536 ∧ (q + x) % 65536 ≤ 65535
        omega
      have hqw : IntKind.u32.wrap q2 = q2 := by
        have : IntKind.u32.wrap q2 = q2 % 4294967296 := rfl
        omega
      clear hreal hlt hN eR eV hs' hq2 hq0 htn c0 c1 t0 tf hw1 hcn hcw hmw hm
      refine wp_region_held_drew (S := fun wx => Below w.heap.size w wx ∧ Tb wx B (upd t cn tn)) (by kernel_rfl) (BG.out) (fun hS => ?_)
      refine takeA (i := 0) (v := .pointer (some ⟨A, 0, none⟩)) ({ tmps := #[.slice (some ⟨g, off, none⟩) n cv, undef, u2, .pointer (some ⟨A, 0, none⟩), .int .u16 q2, .pointer (some ⟨B, 0, none⟩), .int .i64 ↑j, .int .u8 ↑cn, u8, u9, .bool true, .bool false, .slice (some ⟨g, off, none⟩) n cv, .int .i64 ↑n, .bool false, .pointer (some ⟨A, 0, none⟩), .int .i64 ↑j, .slice (some ⟨g, off, none⟩) n cv, .int .i64 ↑n, .bool true, u20, u21, .slice (some ⟨g, off, none⟩) n cv, .int .i64 ↑j, .pointer (some ⟨g, off + j, none⟩), .int .u16 x, .int .u16 ↑m, .int .u8 ↑m, .int .u8 ↑cn, .int .u8 ↑cn, .pointer (some ⟨B, cn, none⟩), .int .u32 (t cn), .int .u32 tn, .pointer (some ⟨B, cn, none⟩), .int .u16 q, .slice (some ⟨g, off, none⟩) n cv, .int .i64 ↑j, .pointer (some ⟨g, off + j, none⟩), .int .u16 x, .int .u16 q2, u40, .pointer (some ⟨A, 0, none⟩), u42, u43, u44, u45, u46, u47, u48, u49, u50, u51, u52, u53, u54, u55, u56, u57, u58, u59, u60, u61, u62, u63, u64, u65, u66, u67, u68], defers := [] }) rfl (by kernel_rfl) (by kernel_rfl) (by kernel_rfl) (fun _ _ _ h => h) (.inl ⟨rfl, fun _ _ => rfl⟩) hS rfl ?_
      refine takeA (i := 1) (v := .int .u8 ↑cn) ({ tmps := #[.slice (some ⟨g, off, none⟩) n cv, undef, u2, .pointer (some ⟨A, 0, none⟩), .int .u16 q2, .pointer (some ⟨B, 0, none⟩), .int .i64 ↑j, .int .u8 ↑cn, u8, u9, .bool true, .bool false, .slice (some ⟨g, off, none⟩) n cv, .int .i64 ↑n, .bool false, .pointer (some ⟨A, 0, none⟩), .int .i64 ↑j, .slice (some ⟨g, off, none⟩) n cv, .int .i64 ↑n, .bool true, u20, u21, .slice (some ⟨g, off, none⟩) n cv, .int .i64 ↑j, .pointer (some ⟨g, off + j, none⟩), .int .u16 x, .int .u16 ↑m, .int .u8 ↑m, .int .u8 ↑cn, .int .u8 ↑cn, .pointer (some ⟨B, cn, none⟩), .int .u32 (t cn), .int .u32 tn, .pointer (some ⟨B, cn, none⟩), .int .u16 q, .slice (some ⟨g, off, none⟩) n cv, .int .i64 ↑j, .pointer (some ⟨g, off + j, none⟩), .int .u16 x, .int .u16 q2, u40, .pointer (some ⟨A, 0, none⟩), .int .u8 ↑cn, u43, u44, u45, u46, u47, u48, u49, u50, u51, u52, u53, u54, u55, u56, u57, u58, u59, u60, u61, u62, u63, u64, u65, u66, u67, u68], defers := [] }) rfl (by kernel_rfl) (by kernel_rfl) (by kernel_rfl) (fun _ _ _ h => h) (.inl ⟨rfl, fun _ _ => rfl⟩) hS rfl ?_
      refine takeA (i := 2) (v := .int .u8 ↑cn) ({ tmps := #[.slice (some ⟨g, off, none⟩) n cv, undef, u2, .pointer (some ⟨A, 0, none⟩), .int .u16 q2, .pointer (some ⟨B, 0, none⟩), .int .i64 ↑j, .int .u8 ↑cn, u8, u9, .bool true, .bool false, .slice (some ⟨g, off, none⟩) n cv, .int .i64 ↑n, .bool false, .pointer (some ⟨A, 0, none⟩), .int .i64 ↑j, .slice (some ⟨g, off, none⟩) n cv, .int .i64 ↑n, .bool true, u20, u21, .slice (some ⟨g, off, none⟩) n cv, .int .i64 ↑j, .pointer (some ⟨g, off + j, none⟩), .int .u16 x, .int .u16 ↑m, .int .u8 ↑m, .int .u8 ↑cn, .int .u8 ↑cn, .pointer (some ⟨B, cn, none⟩), .int .u32 (t cn), .int .u32 tn, .pointer (some ⟨B, cn, none⟩), .int .u16 q, .slice (some ⟨g, off, none⟩) n cv, .int .i64 ↑j, .pointer (some ⟨g, off + j, none⟩), .int .u16 x, .int .u16 q2, u40, .pointer (some ⟨A, 0, none⟩), .int .u8 ↑cn, .int .u8 ↑cn, u44, u45, u46, u47, u48, u49, u50, u51, u52, u53, u54, u55, u56, u57, u58, u59, u60, u61, u62, u63, u64, u65, u66, u67, u68], defers := [] }) rfl (by kernel_rfl) (by kernel_rfl) (by kernel_rfl) (fun _ _ _ h => h) (.inl ⟨rfl, fun _ _ => rfl⟩) hS rfl ?_
      refine takeA (i := 3) (v := .pointer (some ⟨B, cn, none⟩)) ({ tmps := #[.slice (some ⟨g, off, none⟩) n cv, undef, u2, .pointer (some ⟨A, 0, none⟩), .int .u16 q2, .pointer (some ⟨B, 0, none⟩), .int .i64 ↑j, .int .u8 ↑cn, u8, u9, .bool true, .bool false, .slice (some ⟨g, off, none⟩) n cv, .int .i64 ↑n, .bool false, .pointer (some ⟨A, 0, none⟩), .int .i64 ↑j, .slice (some ⟨g, off, none⟩) n cv, .int .i64 ↑n, .bool true, u20, u21, .slice (some ⟨g, off, none⟩) n cv, .int .i64 ↑j, .pointer (some ⟨g, off + j, none⟩), .int .u16 x, .int .u16 ↑m, .int .u8 ↑m, .int .u8 ↑cn, .int .u8 ↑cn, .pointer (some ⟨B, cn, none⟩), .int .u32 (t cn), .int .u32 tn, .pointer (some ⟨B, cn, none⟩), .int .u16 q, .slice (some ⟨g, off, none⟩) n cv, .int .i64 ↑j, .pointer (some ⟨g, off + j, none⟩), .int .u16 x, .int .u16 q2, u40, .pointer (some ⟨A, 0, none⟩), .int .u8 ↑cn, .int .u8 ↑cn, .pointer (some ⟨B, cn, none⟩), u45, u46, u47, u48, u49, u50, u51, u52, u53, u54, u55, u56, u57, u58, u59, u60, u61, u62, u63, u64, u65, u66, u67, u68], defers := [] }) rfl (by kernel_rfl) (by kernel_rfl) (by kernel_rfl) (fun _ _ _ h => h) (.inl ⟨rfl, fun _ _ => by go_simp⟩) hS rfl ?_
      refine takeA (i := 4) (v := .int .u32 tn) ({ tmps := #[.slice (some ⟨g, off, none⟩) n cv, undef, u2, .pointer (some ⟨A, 0, none⟩), .int .u16 q2, .pointer (some ⟨B, 0, none⟩), .int .i64 ↑j, .int .u8 ↑cn, u8, u9, .bool true, .bool false, .slice (some ⟨g, off, none⟩) n cv, .int .i64 ↑n, .bool false, .pointer (some ⟨A, 0, none⟩), .int .i64 ↑j, .slice (some ⟨g, off, none⟩) n cv, .int .i64 ↑n, .bool true, u20, u21, .slice (some ⟨g, off, none⟩) n cv, .int .i64 ↑j, .pointer (some ⟨g, off + j, none⟩), .int .u16 x, .int .u16 ↑m, .int .u8 ↑m, .int .u8 ↑cn, .int .u8 ↑cn, .pointer (some ⟨B, cn, none⟩), .int .u32 (t cn), .int .u32 tn, .pointer (some ⟨B, cn, none⟩), .int .u16 q, .slice (some ⟨g, off, none⟩) n cv, .int .i64 ↑j, .pointer (some ⟨g, off + j, none⟩), .int .u16 x, .int .u16 q2, u40, .pointer (some ⟨A, 0, none⟩), .int .u8 ↑cn, .int .u8 ↑cn, .pointer (some ⟨B, cn, none⟩), .int .u32 tn, u46, u47, u48, u49, u50, u51, u52, u53, u54, u55, u56, u57, u58, u59, u60, u61, u62, u63, u64, u65, u66, u67, u68], defers := [] }) rfl (by kernel_rfl) (by kernel_rfl) (by kernel_rfl) (fun _ _ _ h => h) (yi_load 29 _ (.pointer (some ⟨B, cn, none⟩)) rfl rfl rfl (fun wx hw => by obtain ⟨q0, q1⟩ := hc.out wx hw; go_simp)) hS rfl ?_
      refine takeA (i := 5) (v := .slice (some ⟨g, off, none⟩) n cv) ({ tmps := #[.slice (some ⟨g, off, none⟩) n cv, undef, u2, .pointer (some ⟨A, 0, none⟩), .int .u16 q2, .pointer (some ⟨B, 0, none⟩), .int .i64 ↑j, .int .u8 ↑cn, u8, u9, .bool true, .bool false, .slice (some ⟨g, off, none⟩) n cv, .int .i64 ↑n, .bool false, .pointer (some ⟨A, 0, none⟩), .int .i64 ↑j, .slice (some ⟨g, off, none⟩) n cv, .int .i64 ↑n, .bool true, u20, u21, .slice (some ⟨g, off, none⟩) n cv, .int .i64 ↑j, .pointer (some ⟨g, off + j, none⟩), .int .u16 x, .int .u16 ↑m, .int .u8 ↑m, .int .u8 ↑cn, .int .u8 ↑cn, .pointer (some ⟨B, cn, none⟩), .int .u32 (t cn), .int .u32 tn, .pointer (some ⟨B, cn, none⟩), .int .u16 q, .slice (some ⟨g, off, none⟩) n cv, .int .i64 ↑j, .pointer (some ⟨g, off + j, none⟩), .int .u16 x, .int .u16 q2, u40, .pointer (some ⟨A, 0, none⟩), .int .u8 ↑cn, .int .u8 ↑cn, .pointer (some ⟨B, cn, none⟩), .int .u32 tn, .slice (some ⟨g, off, none⟩) n cv, u47, u48, u49, u50, u51, u52, u53, u54, u55, u56, u57, u58, u59, u60, u61, u62, u63, u64, u65, u66, u67, u68], defers := [] }) rfl (by kernel_rfl) (by kernel_rfl) (by kernel_rfl) (fun _ _ _ h => h) (.inl ⟨rfl, fun _ _ => rfl⟩) hS rfl ?_
      refine takeA (i := 6) (v := .int .i64 ↑j) ({ tmps := #[.slice (some ⟨g, off, none⟩) n cv, undef, u2, .pointer (some ⟨A, 0, none⟩), .int .u16 q2, .pointer (some ⟨B, 0, none⟩), .int .i64 ↑j, .int .u8 ↑cn, u8, u9, .bool true, .bool false, .slice (some ⟨g, off, none⟩) n cv, .int .i64 ↑n, .bool false, .pointer (some ⟨A, 0, none⟩), .int .i64 ↑j, .slice (some ⟨g, off, none⟩) n cv, .int .i64 ↑n, .bool true, u20, u21, .slice (some ⟨g, off, none⟩) n cv, .int .i64 ↑j, .pointer (some ⟨g, off + j, none⟩), .int .u16 x, .int .u16 ↑m, .int .u8 ↑m, .int .u8 ↑cn, .int .u8 ↑cn, .pointer (some ⟨B, cn, none⟩), .int .u32 (t cn), .int .u32 tn, .pointer (some ⟨B, cn, none⟩), .int .u16 q, .slice (some ⟨g, off, none⟩) n cv, .int .i64 ↑j, .pointer (some ⟨g, off + j, none⟩), .int .u16 x, .int .u16 q2, u40, .pointer (some ⟨A, 0, none⟩), .int .u8 ↑cn, .int .u8 ↑cn, .pointer (some ⟨B, cn, none⟩), .int .u32 tn, .slice (some ⟨g, off, none⟩) n cv, .int .i64 ↑j, u48, u49, u50, u51, u52, u53, u54, u55, u56, u57, u58, u59, u60, u61, u62, u63, u64, u65, u66, u67, u68], defers := [] }) rfl (by kernel_rfl) (by kernel_rfl) (by kernel_rfl) (fun _ _ _ h => h) (.inl ⟨rfl, fun _ _ => rfl⟩) hS rfl ?_
      refine takeA (i := 7) (v := .pointer (some ⟨g, off + j, none⟩)) ({ tmps := #[.slice (some ⟨g, off, none⟩) n cv, undef, u2, .pointer (some ⟨A, 0, none⟩), .int .u16 q2, .pointer (some ⟨B, 0, none⟩), .int .i64 ↑j, .int .u8 ↑cn, u8, u9, .bool true, .bool false, .slice (some ⟨g, off, none⟩) n cv, .int .i64 ↑n, .bool false, .pointer (some ⟨A, 0, none⟩), .int .i64 ↑j, .slice (some ⟨g, off, none⟩) n cv, .int .i64 ↑n, .bool true, u20, u21, .slice (some ⟨g, off, none⟩) n cv, .int .i64 ↑j, .pointer (some ⟨g, off + j, none⟩), .int .u16 x, .int .u16 ↑m, .int .u8 ↑m, .int .u8 ↑cn, .int .u8 ↑cn, .pointer (some ⟨B, cn, none⟩), .int .u32 (t cn), .int .u32 tn, .pointer (some ⟨B, cn, none⟩), .int .u16 q, .slice (some ⟨g, off, none⟩) n cv, .int .i64 ↑j, .pointer (some ⟨g, off + j, none⟩), .int .u16 x, .int .u16 q2, u40, .pointer (some ⟨A, 0, none⟩), .int .u8 ↑cn, .int .u8 ↑cn, .pointer (some ⟨B, cn, none⟩), .int .u32 tn, .slice (some ⟨g, off, none⟩) n cv, .int .i64 ↑j, .pointer (some ⟨g, off + j, none⟩), u49, u50, u51, u52, u53, u54, u55, u56, u57, u58, u59, u60, u61, u62, u63, u64, u65, u66, u67, u68], defers := [] }) rfl (by kernel_rfl) (by kernel_rfl) (by kernel_rfl) (fun _ _ _ h => h) (.inl ⟨rfl, fun _ _ => by go_simp⟩) hS rfl ?_
      refine takeA (i := 8) (v := .int .u16 x) ({ tmps := #[.slice (some ⟨g, off, none⟩) n cv, undef, u2, .pointer (some ⟨A, 0, none⟩), .int .u16 q2, .pointer (some ⟨B, 0, none⟩), .int .i64 ↑j, .int .u8 ↑cn, u8, u9, .bool true, .bool false, .slice (some ⟨g, off, none⟩) n cv, .int .i64 ↑n, .bool false, .pointer (some ⟨A, 0, none⟩), .int .i64 ↑j, .slice (some ⟨g, off, none⟩) n cv, .int .i64 ↑n, .bool true, u20, u21, .slice (some ⟨g, off, none⟩) n cv, .int .i64 ↑j, .pointer (some ⟨g, off + j, none⟩), .int .u16 x, .int .u16 ↑m, .int .u8 ↑m, .int .u8 ↑cn, .int .u8 ↑cn, .pointer (some ⟨B, cn, none⟩), .int .u32 (t cn), .int .u32 tn, .pointer (some ⟨B, cn, none⟩), .int .u16 q, .slice (some ⟨g, off, none⟩) n cv, .int .i64 ↑j, .pointer (some ⟨g, off + j, none⟩), .int .u16 x, .int .u16 q2, u40, .pointer (some ⟨A, 0, none⟩), .int .u8 ↑cn, .int .u8 ↑cn, .pointer (some ⟨B, cn, none⟩), .int .u32 tn, .slice (some ⟨g, off, none⟩) n cv, .int .i64 ↑j, .pointer (some ⟨g, off + j, none⟩), .int .u16 x, u50, u51, u52, u53, u54, u55, u56, u57, u58, u59, u60, u61, u62, u63, u64, u65, u66, u67, u68], defers := [] }) rfl (by kernel_rfl) (by kernel_rfl) (by kernel_rfl) (fun _ _ _ h => h) (yi_load 27 _ (.pointer (some ⟨g, off + j, none⟩)) rfl rfl rfl (fun wx hw => by obtain ⟨q0, q1⟩ := hc.out wx hw; go_simp)) hS rfl ?_
      refine takeA (i := 9) (v := .agg #[.int .u8 3, .int .u8 9, .int .u16 x]) ({ tmps := #[.slice (some ⟨g, off, none⟩) n cv, undef, u2, .pointer (some ⟨A, 0, none⟩), .int .u16 q2, .pointer (some ⟨B, 0, none⟩), .int .i64 ↑j, .int .u8 ↑cn, u8, u9, .bool true, .bool false, .slice (some ⟨g, off, none⟩) n cv, .int .i64 ↑n, .bool false, .pointer (some ⟨A, 0, none⟩), .int .i64 ↑j, .slice (some ⟨g, off, none⟩) n cv, .int .i64 ↑n, .bool true, u20, u21, .slice (some ⟨g, off, none⟩) n cv, .int .i64 ↑j, .pointer (some ⟨g, off + j, none⟩), .int .u16 x, .int .u16 ↑m, .int .u8 ↑m, .int .u8 ↑cn, .int .u8 ↑cn, .pointer (some ⟨B, cn, none⟩), .int .u32 (t cn), .int .u32 tn, .pointer (some ⟨B, cn, none⟩), .int .u16 q, .slice (some ⟨g, off, none⟩) n cv, .int .i64 ↑j, .pointer (some ⟨g, off + j, none⟩), .int .u16 x, .int .u16 q2, u40, .pointer (some ⟨A, 0, none⟩), .int .u8 ↑cn, .int .u8 ↑cn, .pointer (some ⟨B, cn, none⟩), .int .u32 tn, .slice (some ⟨g, off, none⟩) n cv, .int .i64 ↑j, .pointer (some ⟨g, off + j, none⟩), .int .u16 x, .agg #[.int .u8 3, .int .u8 9, .int .u16 x], u51, u52, u53, u54, u55, u56, u57, u58, u59, u60, u61, u62, u63, u64, u65, u66, u67, u68], defers := [] }) rfl (by kernel_rfl) (by kernel_rfl) (by kernel_rfl) (fun _ _ _ h => h) (.inl ⟨rfl, fun _ _ => by go_simp⟩) hS rfl ?_
      refine takeA (i := 10) (v := .agg #[.int .u8 ↑cn, .int .u32 tn, .int .u8 3, .int .u8 9, .int .u16 x]) ({ tmps := #[.slice (some ⟨g, off, none⟩) n cv, undef, u2, .pointer (some ⟨A, 0, none⟩), .int .u16 q2, .pointer (some ⟨B, 0, none⟩), .int .i64 ↑j, .int .u8 ↑cn, u8, u9, .bool true, .bool false, .slice (some ⟨g, off, none⟩) n cv, .int .i64 ↑n, .bool false, .pointer (some ⟨A, 0, none⟩), .int .i64 ↑j, .slice (some ⟨g, off, none⟩) n cv, .int .i64 ↑n, .bool true, u20, u21, .slice (some ⟨g, off, none⟩) n cv, .int .i64 ↑j, .pointer (some ⟨g, off + j, none⟩), .int .u16 x, .int .u16 ↑m, .int .u8 ↑m, .int .u8 ↑cn, .int .u8 ↑cn, .pointer (some ⟨B, cn, none⟩), .int .u32 (t cn), .int .u32 tn, .pointer (some ⟨B, cn, none⟩), .int .u16 q, .slice (some ⟨g, off, none⟩) n cv, .int .i64 ↑j, .pointer (some ⟨g, off + j, none⟩), .int .u16 x, .int .u16 q2, u40, .pointer (some ⟨A, 0, none⟩), .int .u8 ↑cn, .int .u8 ↑cn, .pointer (some ⟨B, cn, none⟩), .int .u32 tn, .slice (some ⟨g, off, none⟩) n cv, .int .i64 ↑j, .pointer (some ⟨g, off + j, none⟩), .int .u16 x, .agg #[.int .u8 3, .int .u8 9, .int .u16 x], .agg #[.int .u8 ↑cn, .int .u32 tn, .int .u8 3, .int .u8 9, .int .u16 x], u52, u53, u54, u55, u56, u57, u58, u59, u60, u61, u62, u63, u64, u65, u66, u67, u68], defers := [] }) rfl (by kernel_rfl) (by kernel_rfl) (by kernel_rfl) (fun _ _ _ h => h) (.inl ⟨rfl, fun _ _ => by go_simp⟩) hS rfl ?_
      refine wpAnyH_ready (rs := [11]) (by kernel_rfl) (by simp) ?_
      refine AllReadyH.cons rfl (fun K hK => ?_) AllReadyH.nil
      rw [if_pos (by rfl)]
      go_simp
      refine Calls.mono (AP.out) ?_
      rintro e w7 ⟨rfl, m7, k7⟩
      have M7 := Lib.hid (And.intro m7 (Tb.kept (w := w6.drew) HM.out.2 k7 (fun e => HA.out.2.2.2.2 e.symm)))
      clear m7 k7
      refine hK.out ({ tmps := #[.slice (some ⟨g, off, none⟩) n cv, undef, u2, .pointer (some ⟨A, 0, none⟩), .int .u16 q2, .pointer (some ⟨B, 0, none⟩), .int .i64 ↑j, .int .u8 ↑cn, u8, u9, .bool true, .bool false, .slice (some ⟨g, off, none⟩) n cv, .int .i64 ↑n, .bool false, .pointer (some ⟨A, 0, none⟩), .int .i64 ↑j, .slice (some ⟨g, off, none⟩) n cv, .int .i64 ↑n, .bool true, u20, u21, .slice (some ⟨g, off, none⟩) n cv, .int .i64 ↑j, .pointer (some ⟨g, off + j, none⟩), .int .u16 x, .int .u16 ↑m, .int .u8 ↑m, .int .u8 ↑cn, .int .u8 ↑cn, .pointer (some ⟨B, cn, none⟩), .int .u32 (t cn), .int .u32 tn, .pointer (some ⟨B, cn, none⟩), .int .u16 q, .slice (some ⟨g, off, none⟩) n cv, .int .i64 ↑j, .pointer (some ⟨g, off + j, none⟩), .int .u16 x, .int .u16 q2, u40, .pointer (some ⟨A, 0, none⟩), .int .u8 ↑cn, .int .u8 ↑cn, .pointer (some ⟨B, cn, none⟩), .int .u32 tn, .slice (some ⟨g, off, none⟩) n cv, .int .i64 ↑j, .pointer (some ⟨g, off + j, none⟩), .int .u16 x, .agg #[.int .u8 3, .int .u8 9, .int .u16 x], .agg #[.int .u8 ↑cn, .int .u32 tn, .int .u8 3, .int .u8 9, .int .u16 x], .tuple #[.int .u32 q2, .bool true], u53, u54, u55, u56, u57, u58, u59, u60, u61, u62, u63, u64, u65, u66, u67, u68], defers := [] }) _ (⟨M7.out.1.2.2.1, M7.out.2⟩) (fun hS => ?_)
      clear hK K
      refine takeA (i := 12) (v := .tuple #[.int .u32 q2, .bool true]) ({ tmps := #[.slice (some ⟨g, off, none⟩) n cv, undef, u2, .pointer (some ⟨A, 0, none⟩), .int .u16 q2, .pointer (some ⟨B, 0, none⟩), .int .i64 ↑j, .int .u8 ↑cn, u8, u9, .bool true, .bool false, .slice (some ⟨g, off, none⟩) n cv, .int .i64 ↑n, .bool false, .pointer (some ⟨A, 0, none⟩), .int .i64 ↑j, .slice (some ⟨g, off, none⟩) n cv, .int .i64 ↑n, .bool true, u20, u21, .slice (some ⟨g, off, none⟩) n cv, .int .i64 ↑j, .pointer (some ⟨g, off + j, none⟩), .int .u16 x, .int .u16 ↑m, .int .u8 ↑m, .int .u8 ↑cn, .int .u8 ↑cn, .pointer (some ⟨B, cn, none⟩), .int .u32 (t cn), .int .u32 tn, .pointer (some ⟨B, cn, none⟩), .int .u16 q, .slice (some ⟨g, off, none⟩) n cv, .int .i64 ↑j, .pointer (some ⟨g, off + j, none⟩), .int .u16 x, .int .u16 q2, .tuple #[.int .u32 q2, .bool true], .pointer (some ⟨A, 0, none⟩), .int .u8 ↑cn, .int .u8 ↑cn, .pointer (some ⟨B, cn, none⟩), .int .u32 tn, .slice (some ⟨g, off, none⟩) n cv, .int .i64 ↑j, .pointer (some ⟨g, off + j, none⟩), .int .u16 x, .agg #[.int .u8 3, .int .u8 9, .int .u16 x], .agg #[.int .u8 ↑cn, .int .u32 tn, .int .u8 3, .int .u8 9, .int .u16 x], .tuple #[.int .u32 q2, .bool true], u53, u54, u55, u56, u57, u58, u59, u60, u61, u62, u63, u64, u65, u66, u67, u68], defers := [] }) rfl (by kernel_rfl) (by kernel_rfl) (by kernel_rfl) (fun _ _ _ h => h) (.inl ⟨rfl, fun _ _ => rfl⟩) hS rfl ?_
      refine takeA (i := 13) (v := .int .u32 q2) ({ tmps := #[.slice (some ⟨g, off, none⟩) n cv, undef, u2, .pointer (some ⟨A, 0, none⟩), .int .u16 q2, .pointer (some ⟨B, 0, none⟩), .int .i64 ↑j, .int .u8 ↑cn, u8, u9, .bool true, .bool false, .slice (some ⟨g, off, none⟩) n cv, .int .i64 ↑n, .bool false, .pointer (some ⟨A, 0, none⟩), .int .i64 ↑j, .slice (some ⟨g, off, none⟩) n cv, .int .i64 ↑n, .bool true, u20, u21, .slice (some ⟨g, off, none⟩) n cv, .int .i64 ↑j, .pointer (some ⟨g, off + j, none⟩), .int .u16 x, .int .u16 ↑m, .int .u8 ↑m, .int .u8 ↑cn, .int .u8 ↑cn, .pointer (some ⟨B, cn, none⟩), .int .u32 (t cn), .int .u32 tn, .pointer (some ⟨B, cn, none⟩), .int .u16 q, .slice (some ⟨g, off, none⟩) n cv, .int .i64 ↑j, .pointer (some ⟨g, off + j, none⟩), .int .u16 x, .int .u16 q2, .tuple #[.int .u32 q2, .bool true], .pointer (some ⟨A, 0, none⟩), .int .u8 ↑cn, .int .u8 ↑cn, .pointer (some ⟨B, cn, none⟩), .int .u32 tn, .slice (some ⟨g, off, none⟩) n cv, .int .i64 ↑j, .pointer (some ⟨g, off + j, none⟩), .int .u16 x, .agg #[.int .u8 3, .int .u8 9, .int .u16 x], .agg #[.int .u8 ↑cn, .int .u32 tn, .int .u8 3, .int .u8 9, .int .u16 x], .tuple #[.int .u32 q2, .bool true], .int .u32 q2, u54, u55, u56, u57, u58, u59, u60, u61, u62, u63, u64, u65, u66, u67, u68], defers := [] }) rfl (by kernel_rfl) (by kernel_rfl) (by kernel_rfl) (fun _ _ _ h => h) (.inl ⟨rfl, fun _ _ => by go_simp⟩) hS rfl ?_
      refine takeA (i := 14) (v := .bool true) ({ tmps := #[.slice (some ⟨g, off, none⟩) n cv, undef, u2, .pointer (some ⟨A, 0, none⟩), .int .u16 q2, .pointer (some ⟨B, 0, none⟩), .int .i64 ↑j, .int .u8 ↑cn, u8, u9, .bool true, .bool false, .slice (some ⟨g, off, none⟩) n cv, .int .i64 ↑n, .bool false, .pointer (some ⟨A, 0, none⟩), .int .i64 ↑j, .slice (some ⟨g, off, none⟩) n cv, .int .i64 ↑n, .bool true, u20, u21, .slice (some ⟨g, off, none⟩) n cv, .int .i64 ↑j, .pointer (some ⟨g, off + j, none⟩), .int .u16 x, .int .u16 ↑m, .int .u8 ↑m, .int .u8 ↑cn, .int .u8 ↑cn, .pointer (some ⟨B, cn, none⟩), .int .u32 (t cn), .int .u32 tn, .pointer (some ⟨B, cn, none⟩), .int .u16 q, .slice (some ⟨g, off, none⟩) n cv, .int .i64 ↑j, .pointer (some ⟨g, off + j, none⟩), .int .u16 x, .int .u16 q2, .tuple #[.int .u32 q2, .bool true], .pointer (some ⟨A, 0, none⟩), .int .u8 ↑cn, .int .u8 ↑cn, .pointer (some ⟨B, cn, none⟩), .int .u32 tn, .slice (some ⟨g, off, none⟩) n cv, .int .i64 ↑j, .pointer (some ⟨g, off + j, none⟩), .int .u16 x, .agg #[.int .u8 3, .int .u8 9, .int .u16 x], .agg #[.int .u8 ↑cn, .int .u32 tn, .int .u8 3, .int .u8 9, .int .u16 x], .tuple #[.int .u32 q2, .bool true], .int .u32 q2, .bool true, u55, u56, u57, u58, u59, u60, u61, u62, u63, u64, u65, u66, u67, u68], defers := [] }) rfl (by kernel_rfl) (by kernel_rfl) (by kernel_rfl) (fun _ _ _ h => h) (.inl ⟨rfl, fun _ _ => by go_simp⟩) hS rfl ?_
      refine takeA (i := 15) (v := .int .u32 q2) ({ tmps := #[.slice (some ⟨g, off, none⟩) n cv, undef, u2, .pointer (some ⟨A, 0, none⟩), .int .u16 q2, .pointer (some ⟨B, 0, none⟩), .int .i64 ↑j, .int .u8 ↑cn, .int .u32 q2, u9, .bool true, .bool false, .slice (some ⟨g, off, none⟩) n cv, .int .i64 ↑n, .bool false, .pointer (some ⟨A, 0, none⟩), .int .i64 ↑j, .slice (some ⟨g, off, none⟩) n cv, .int .i64 ↑n, .bool true, u20, u21, .slice (some ⟨g, off, none⟩) n cv, .int .i64 ↑j, .pointer (some ⟨g, off + j, none⟩), .int .u16 x, .int .u16 ↑m, .int .u8 ↑m, .int .u8 ↑cn, .int .u8 ↑cn, .pointer (some ⟨B, cn, none⟩), .int .u32 (t cn), .int .u32 tn, .pointer (some ⟨B, cn, none⟩), .int .u16 q, .slice (some ⟨g, off, none⟩) n cv, .int .i64 ↑j, .pointer (some ⟨g, off + j, none⟩), .int .u16 x, .int .u16 q2, .tuple #[.int .u32 q2, .bool true], .pointer (some ⟨A, 0, none⟩), .int .u8 ↑cn, .int .u8 ↑cn, .pointer (some ⟨B, cn, none⟩), .int .u32 tn, .slice (some ⟨g, off, none⟩) n cv, .int .i64 ↑j, .pointer (some ⟨g, off + j, none⟩), .int .u16 x, .agg #[.int .u8 3, .int .u8 9, .int .u16 x], .agg #[.int .u8 ↑cn, .int .u32 tn, .int .u8 3, .int .u8 9, .int .u16 x], .tuple #[.int .u32 q2, .bool true], .int .u32 q2, .bool true, u55, u56, u57, u58, u59, u60, u61, u62, u63, u64, u65, u66, u67, u68], defers := [] }) rfl (by kernel_rfl) (by kernel_rfl) (by kernel_rfl) (fun _ _ _ h => h) (.inl ⟨rfl, fun _ _ => rfl⟩) hS rfl ?_
      refine takeA (i := 16) (v := .bool true) ({ tmps := #[.slice (some ⟨g, off, none⟩) n cv, undef, u2, .pointer (some ⟨A, 0, none⟩), .int .u16 q2, .pointer (some ⟨B, 0, none⟩), .int .i64 ↑j, .int .u8 ↑cn, .int .u32 q2, .bool true, .bool true, .bool false, .slice (some ⟨g, off, none⟩) n cv, .int .i64 ↑n, .bool false, .pointer (some ⟨A, 0, none⟩), .int .i64 ↑j, .slice (some ⟨g, off, none⟩) n cv, .int .i64 ↑n, .bool true, u20, u21, .slice (some ⟨g, off, none⟩) n cv, .int .i64 ↑j, .pointer (some ⟨g, off + j, none⟩), .int .u16 x, .int .u16 ↑m, .int .u8 ↑m, .int .u8 ↑cn, .int .u8 ↑cn, .pointer (some ⟨B, cn, none⟩), .int .u32 (t cn), .int .u32 tn, .pointer (some ⟨B, cn, none⟩), .int .u16 q, .slice (some ⟨g, off, none⟩) n cv, .int .i64 ↑j, .pointer (some ⟨g, off + j, none⟩), .int .u16 x, .int .u16 q2, .tuple #[.int .u32 q2, .bool true], .pointer (some ⟨A, 0, none⟩), .int .u8 ↑cn, .int .u8 ↑cn, .pointer (some ⟨B, cn, none⟩), .int .u32 tn, .slice (some ⟨g, off, none⟩) n cv, .int .i64 ↑j, .pointer (some ⟨g, off + j, none⟩), .int .u16 x, .agg #[.int .u8 3, .int .u8 9, .int .u16 x], .agg #[.int .u8 ↑cn, .int .u32 tn, .int .u8 3, .int .u8 9, .int .u16 x], .tuple #[.int .u32 q2, .bool true], .int .u32 q2, .bool true, u55, u56, u57, u58, u59, u60, u61, u62, u63, u64, u65, u66, u67, u68], defers := [] }) rfl (by kernel_rfl) (by kernel_rfl) (by kernel_rfl) (fun _ _ _ h => h) (.inl ⟨rfl, fun _ _ => rfl⟩) hS rfl ?_
      refine wpAnyH_done (by kernel_rfl) ?_ _
      clear hS AP BG HM I
      have GE := get_any w7 A 9 s'.V s'.T s'.R M7.out.1.1
      rw [if_pos (by decide), HS.out.2.2] at GE
      replace GE := Lib.hid GE
      go_wp2_with fail
      refine GE.out.mono ?_
      rintro e w8 ⟨rfl, rfl⟩
      go_wp2_with fail
      have K : AI w w8 A B s' (upd t cn tn) q2 (j + 1) := ⟨M7.out.1, M7.out.2, HA.out.2.2.2.1, HA.out.2.2.2.2, HS.out.1, HS.out.2.1, HS.out.2.2⟩
      exact ⟨⟨j + 1, s', _, q2, rfl, by go_num, by omega, Lib.hid K⟩, by simp [intOf]; omega⟩
    · obtain rfl : j = n := by omega
      go_wp2_with fail
      go_ret
      exact ⟨rfl, I.out.1.2.2.1⟩

theorem walk (v : Value) (vs : List Int) (w : World) (hr : RowU w 1 u16c v vs) (hv : ∀ x ∈ vs, 0 ≤ x ∧ x ≤ 65535) :
    Calls Try.prog 6 #[v] w fun e w' => e = .returned (.bool true) ∧ Below w.heap.size w w' := by
  obtain ⟨av, cv, rfl, hr2⟩ := id hr
  by_cases h1 : vs.length ≤ 60
  · exact core av vs cv w hr hv h1
  · have KN := Lib.hid (known_any w)
    have d1 : decide (60 < (vs.length : Int)) = true := by rw [decide_eq_true_iff]; omega
    generalize vs.length = n at *
    clear hr hr2 hv h1
    go_enter Try.func6, Try.ntmps6
    go_wp2_with fail
    refine KN.out.mono ?_
    rintro e w1 ⟨rfl, b1⟩
    replace b1 := Lib.hid b1
    go_wp2_with fail
    go_ret
    exact ⟨rfl, b1.out⟩


theorem lifted (os : Os) (started : os.Started) (H : Type) (enc : TypeId × Value → H) :
    ReturnsInHanded {} Try.checked os 6 .any (Rows.serviceAddsSpec.pre6 enc Try.prog Try.f6 Rows.serviceAddsRow.domain false) (Rows.serviceAddsSpec.post enc Try.prog Try.f6 false true false false) := by
  refine returnsInHanded_of_change (C := Try.checked) own started (by kernel_rfl) Try.func6
    (ChangeSpec.witness6 (enc := enc) (C := Try.checked) false ⟨#[], #[.slice none 0 0], []⟩ 8 (by kernel_rfl) (by kernel_rfl) (by kernel_rfl) (by kernel_rfl)) ?_
  intro W base args ds gs before hval0 hW hcnd _
  have hval : ∀ (j : Nat) t v, Try.f6.params[j]? = some t → args[j]? = some v → Value.okWide Try.prog W .any base t v := hval0
  have hW' := hW
  obtain ⟨p, q, hA0, hV, rfl, hfz, hnd⟩ := hW
  have hA : DataW.TrodAll enc Try.prog W 0 (fun _ => true) true Try.f6.params.toList args.toList ds p := hA0
  rw [Try.params6] at hA hval
  obtain ⟨v0, vs0, d0, ds0, p0, q0, hargs, rfl, rfl, h0, r0⟩ := trodAll_cons hA
  obtain ⟨rfl, rfl, rfl⟩ := trodAll_nil r0
  obtain rfl : args = #[v0] := by cases args; simp_all
  obtain ⟨rfl, rfl⟩ := trodVars_none hV
  have k0 := h0
  have lt0 : ∀ x ∈ p0, x.block < W.heap.size := by obtain ⟨m, hm⟩ := k0; exact DataW.trod_lt m _ _ _ hm
  obtain ⟨ax0, ln0, cx0, rfl⟩ := okWide_slice Try.underlying50 (hval 0 50 v0 rfl rfl)
  obtain ⟨fuel0, hf0⟩ := h0
  obtain ⟨l0, hr0, ok0⟩ := open_u16s (show DataW.trod enc Try.prog W 0 (fun _ => true) true fuel0 50 [.slice ax0 ln0 cx0] = _ from by simpa [Value.cells] using hf0)
  clear hA0 hval0
  refine (walk (.slice ax0 ln0 cx0) l0 W hr0 ok0).mono fun e W' ⟨he, bel⟩ => ?_
  subst he
  exact ⟨_, rfl, _, _, _, [], _, [], hW', trodAll_mk1 (shut_bool Try.underlying4 _), (trodAll_cons_mk (Below.trod laidOut (by kernel_rfl) (of_decide_eq_true (by kernel_rfl)) k0 bel lt0) trodAll_mk0), rfl, bel.frame _, fun h => by cases h⟩

theorem over : Rows.serviceAddsRow.holds Try.pinned (OpenSpec.ofChange Rows.serviceAddsSpec) :=
  OpenClaim.holds_of_wide 6 Try.f6 rfl rfl rfl rfl rfl rfl rfl ⟨rfl, rfl, rfl, rfl, rfl⟩ rfl rfl rfl rfl rfl (by kernel_rfl) Try.func6 (by kernel_rfl)
    (of_decide_eq_true (by kernel_rfl)) (by unfold Func.isWrapper; first | (rw [if_pos (by decide +kernel)]; kernel_rfl) | (rw [if_neg (by decide +kernel)]; exact ⟨rfl, rfl⟩))
    (fun os started H enc _ => lifted os started H enc)

theorem proved : Rows.ServiceAddsSaid := over
#print axioms proved
end Go.Proofs.Ytphakceboohbhaa.serviceAdds
