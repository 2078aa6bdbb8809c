/- For every bytes the law ServiceOnce returns true: whatever requests come again, and again, in whatever order behind one another, change nothing the second time. No condition. -/
import Derived.Test.YtphakceboohbhaaRows
import Derived.Test.YtphakceboohbhaaAr
import Derived.Test.YtphakceboohbhaaTk
import Derived.WalkKit
import Derived.ProofKit
import Derived.OpenShut
import Derived.ShutString
import Derived.ChangeOld
import Derived.Below
namespace Go.Proofs.Ytphakceboohbhaa.serviceOnce
open Go.ChangeShapes Go.WideShapes Go.ChangeAt Go.RowKit
set_option maxRecDepth 100000

theorem own : ownKnob Try.prog.godebug = none := by kernel_rfl
theorem laidOut : laidOutB Try.prog = true := by kernel_rfl

theorem row_new1 {α : Type} (w : World) (k : Nat) (enc : α → List Value) (x : α) (T : TypeId) (A : Array Value) (hA : A = (enc x).toArray) : RowU (w.alloc (.cells A T)) k enc (.slice (some ⟨w.heap.size, 0, none⟩) 1 1) [x] := by
  subst hA
  refine ⟨_, 1, rfl, fun h => (by cases h), by simp, by simp [maxLen], fun j y hj => ?_⟩
  have hj0 : j = 0 := by
    cases j with
    | zero => rfl
    | succ j => simp at hj
  subst hj0
  simp at hj
  subst hj
  refine ⟨_, _, rfl, fun i u hu => ?_⟩
  rw [cell_of_row _ _ _ _ _ _ (heap_alloc_new w _)]
  simpa using hu
/-- the first loop's facts: the map at A, the times at B, the requests in the row v -/
def OI (w wr : World) (A B : Nat) (s : Sv) (t : Nat → Int) (rs : List Rq) (v : Value) (j : Nat) : Prop :=
  MI w wr A s ∧ Tb wr B t ∧ w.heap.size ≤ B ∧ A ≠ B ∧ (∀ c, 1 ≤ c ∧ c ≤ 4 → s.T (c - 1) = t c) ∧ (∀ c, 0 ≤ t c ∧ t c ≤ j) ∧
    RR wr v j rs ∧ rs.length = j ∧ (∀ g, v.ownBlock = some g → w.heap.size ≤ g ∧ g ≠ A ∧ g ≠ B) ∧ (∀ r ∈ rs, r.real = true ∧ r.ok ∧ r.t ≤ t r.c.toNat)

/-- the second loop's facts: the map at A, its copy at C, the times at B, the requests in the row v -/
def PI (w wr : World) (A B C : Nat) (s : Sv) (t : Nat → Int) (rs : List Rq) (v : Value) (j : Nat) : Prop :=
  MI w wr A s ∧ Tb wr B t ∧ RR wr v j rs ∧ Ms wr C s ∧ A ≠ C
theorem PI.below {w wr w' : World} {A B C : Nat} {s : Sv} {t : Nat → Int} {rs : List Rq} {v : Value} {j : Nat} (h : PI w wr A B C s t rs v j) (b : Below wr.heap.size wr w') : PI w w' A B C s t rs v j :=
  ⟨h.1.below b, h.2.1.below b, own_kept' h.2.2.1 (Kept.ofBelow (S := fun _ => False) b) (fun _ _ h => h), h.2.2.2.1.below b h.2.2.2.1.lt, h.2.2.2.2⟩
theorem ap_again {s : Sv} {r : Rq} (hr : r.real = true) (h : r.t ≤ ct s.T r.c) : apS s r = s ∧ apB s r = (r.t == ct s.T r.c) := by
  by_cases e : r.t = ct s.T r.c
  · have hh := ap_same (s := s) hr e
    exact ⟨hh.1, by rw [hh.2.2.1]; simp [e]⟩
  · have hh := ap_old (s := s) (r := r) (by omega)
    exact ⟨hh.1, by rw [hh.2.2.1]; simp [e]⟩
theorem same_self (V T R : Nat → Int) : sameM V T R V T R = true := by simp [sameM]

set_option maxHeartbeats 32000000 in
theorem core (ak : Option Addr) (l : List Int) (ck : Nat) (ag : Option Addr) (l2 : List Int) (cg : Nat) (w : World)
    (hb : Bytes w ak l) (hby : ∀ x ∈ l, isByte x) (hb2 : Bytes w ag l2) (hby2 : ∀ x ∈ l2, isByte x) (h1 : l.length ≤ 40) (h2 : l2.length ≤ 60) :
    Calls Try.prog 4 #[.slice ak l.length ck, .slice ag l2.length cg] w fun e w' => e = .returned (.bool true) ∧ Below w.heap.size w w' := by
  have KN := Lib.hid (known_any w)
  have d1 : decide (40 < (l.length : Int)) = false := by rw [decide_eq_false_iff_not]; omega
  have d2 : decide (60 < (l2.length : Int)) = false := by rw [decide_eq_false_iff_not]; omega
  have HI := Lib.hid (And.intro hb (And.intro hby (And.intro hb2 hby2)))
  obtain ⟨n, hn⟩ : ∃ n, n = l.length := ⟨_, rfl⟩
  obtain ⟨n2, hn2⟩ : ∃ n2, n2 = l2.length := ⟨_, rfl⟩
  rw [← hn] at d1 h1 ⊢
  rw [← hn2] at d2 h2 ⊢
  have HN := Lib.hid (And.intro hn (And.intro hn2 (And.intro h1 h2)))
  clear hb hby hb2 hby2 hn hn2 h1 h2
  go_enter Try.func4, Try.ntmps4
  go_wp2_with fail
  refine KN.out.mono ?_
  rintro e w1 ⟨rfl, b1⟩
  have NW := Lib.hid (new_mi w w1 b1)
  clear KN b1
  go_wp2_with fail
  refine NW.out.mono ?_
  rintro e w2 ⟨rfl, m2, b2⟩
  have hB := tb_new w2
  have bz : Below w2.heap.size w2 (w2.alloc (.cells #[.int .u32 0, .int .u32 0, .int .u32 0, .int .u32 0, .int .u32 0] 30)) := (Below.refl _ w2).alloc (Nat.le_refl _) _
  have K0 : OI w (w2.alloc (.cells #[.int .u32 0, .int .u32 0, .int .u32 0, .int .u32 0, .int .u32 0] 30)) w1.heap.size w2.heap.size s0 nul [] (.slice none 0 0) 0 :=
    ⟨m2.below bz, hB, m2.2.2.1.size, by have := m2.1.lt; omega, fun _ _ => rfl, fun _ => by simp [nul], rr_nil _, rfl, fun g hg => (by cases hg), fun r hr => (by cases hr)⟩
  replace K0 := Lib.hid K0
  clear NW m2 b2 hB bz
  go_wp2_with fail
  generalize w1.heap.size = A at *
  generalize w2.heap.size = B at *
  generalize w2.alloc (.cells #[.int .u32 0, .int .u32 0, .int .u32 0, .int .u32 0, .int .u32 0] 30) = w3 at *
  go_loopw [6, 8] (fun v6 v8 wr => ∃ (j : Nat) (s : Sv) (t : Nat → Int) (rs : List Rq) (ao : Option Addr) (cap : Nat), v6 = .slice ao j cap ∧ v8 = .int .i64 j ∧ j ≤ n ∧ Hid (OI w wr A B s t rs (.slice ao j cap) j)) (fun _ v8 _ => n - (intOf v8).toNat)
  case atStart => exact ⟨0, _, _, _, none, 0, rfl, rfl, by omega, K0⟩
  case round =>
    obtain ⟨j, s, t, rs, ao, cap, rfl, rfl, hj, I⟩ := hrel
    by_cases hjn : j < n
    · have hjn' : (j : Int) < n := by omega
      have hj40 : (j : Int) < 40 := by have := HN.out.2.2.1; omega
      have hlt : j < l.length := by have := HN.out.1; omega
      have hcA := fun wx (k : Below w.heap.size w wx) => bytes_at (bytes_below HI.out.1 k (Nat.le_refl _)) (show 0 < l.length by omega)
      obtain ⟨k0, off, hao, -⟩ := hcA w (Below.refl _ _)
      subst hao
      have hx : Hid (∀ wx, Below w.heap.size w wx → wx.cell? ⟨k0, off + j, none⟩ = some (.int .u8 (l.getD j 0))) := Lib.hid (fun wx k => by
        obtain ⟨k1, off1, e, hc⟩ := hcA wx k
        injection e with e; injection e with e1 e2; subst e1 e2
        exact hc j hlt)
      have hx0 : isByte (l.getD j 0) := by
        rw [List.getD_eq_getElem?_getD, List.getElem?_eq_getElem hlt]
        exact HI.out.2.1 _ (List.getElem_mem hlt)
      generalize l.getD j 0 = x at hx hx0
      unfold isByte at hx0
      have c0 := hx.out _ I.out.1.2.2.1
      obtain ⟨m, hm⟩ : ∃ m : Nat, x.tmod 4 = m := ⟨(x % 4).toNat, by rw [Int.tmod_eq_emod_of_nonneg hx0.1]; omega⟩
      have hm4 : m < 4 := by rw [Int.tmod_eq_emod_of_nonneg hx0.1] at hm; omega
      obtain ⟨cn, hcn⟩ : ∃ c : Nat, (m : Int) + 1 = c := ⟨m + 1, rfl⟩
      have hcw : IntKind.u8.wrap ((m : Int) + 1) = cn := by
        have : IntKind.u8.wrap ((m : Int) + 1) = ((m : Int) + 1) % 256 := rfl
        omega
      have hcm : 1 ≤ cn ∧ cn ≤ 4 := by omega
      have hc5 : (cn : Int) < 5 := by omega
      obtain ⟨d, hd⟩ : ∃ d : Nat, x.tdiv 4 = d := ⟨(x / 4).toNat, by rw [Int.tdiv_eq_ediv_of_nonneg hx0.1]; omega⟩
      obtain ⟨m3, hm3⟩ : ∃ m : Nat, (d : Int).tmod 3 = m := ⟨d % 3, by rw [Int.tmod_eq_emod_of_nonneg (by omega)]; omega⟩
      have hm33 : m3 < 3 := by rw [Int.tmod_eq_emod_of_nonneg (by omega)] at hm3; omega
      obtain ⟨kn, hkn⟩ : ∃ c : Nat, 1 + (m3 : Int) = c := ⟨1 + m3, by omega⟩
      have hkw : IntKind.u8.wrap (1 + (m3 : Int)) = kn := by
        have : IntKind.u8.wrap (1 + (m3 : Int)) = (1 + (m3 : Int)) % 256 := rfl
        omega
      have hkm : 1 ≤ kn ∧ kn ≤ 3 := by omega
      obtain ⟨yn, hyn⟩ : ∃ d : Nat, x.tdiv 16 = d := ⟨(x / 16).toNat, by rw [Int.tdiv_eq_ediv_of_nonneg hx0.1]; omega⟩
      have hym : yn < 16 := by rw [Int.tdiv_eq_ediv_of_nonneg hx0.1] at hyn; omega
      have hkw2 : (kn : Int) % 256 = kn := by omega
      have hdw : (d : Int) % 256 = d := by rw [Int.tdiv_eq_ediv_of_nonneg hx0.1] at hd; omega
      have hyw : (yn : Int) % 256 = yn := by omega
      have hjw : IntKind.u16.wrap (j : Int) = j := by
        have : IntKind.u16.wrap (j : Int) = (j : Int) % 65536 := rfl
        omega
      have t0 := I.out.2.1.cell cn (by omega)
      have tf := I.out.2.1.frozen cn
      obtain ⟨tn, htn⟩ : ∃ z, t cn + 1 = z := ⟨_, rfl⟩
      have hw1 : IntKind.u32.wrap (t cn + 1) = tn := by
        have h2 := I.out.2.2.2.2.2.1 cn
        have : IntKind.u32.wrap (t cn + 1) = (t cn + 1) % 4294967296 := rfl
        omega
      have HX := Lib.hid (And.intro hcm (And.intro htn (And.intro hkm hym)))
      have bs : Below w.heap.size w (wr.setCell ⟨B, cn, none⟩ (.int .u32 tn)) := I.out.1.2.2.1.setCell I.out.2.2.1 _
      have c1 := hx.out _ bs
      have k1 : Kept (fun i => i = B) wr (wr.setCell ⟨B, cn, none⟩ (.int .u32 tn)) := (Kept.refl _ wr).setCell _ _ (fun _ => rfl)
      have hT := I.out.2.1.set cn tn (by have := HX.out; omega)
      have hM : MI w (wr.setCell ⟨B, cn, none⟩ (.int .u32 tn)) A s := ⟨Mp.kept I.out.1.1 k1 I.out.2.2.2.1, I.out.1.2.1, bs, I.out.1.2.2.2⟩
      have hR : RR (wr.setCell ⟨B, cn, none⟩ (.int .u32 tn)) (.slice ao j cap) j rs := own_kept' I.out.2.2.2.2.2.2.1 k1 (fun g hg => (I.out.2.2.2.2.2.2.2.2.1 g hg).2.2)
      have t1 := hT.cell cn (by omega)
      rw [show upd t cn tn cn = tn by simp [upd]] at t1
      have HM := Lib.hid (And.intro hM (And.intro hT hR))
      clear bs hT hM hR k1 hcA hx0 hlt hcm htn hkm hym hm4 hm33
      go_wp2_with fail
      generalize wr.setCell ⟨B, cn, none⟩ (.int .u32 tn) = w6 at *
      have ba : Below w6.heap.size w6 (w6.alloc (.cells #[.int .u8 0, .int .u32 0, .int .u8 0, .int .u8 0, .int .u16 0] 38)) := (Below.refl _ w6).alloc (Nat.le_refl _) _
      have c2 := hx.out _ (HM.out.1.2.2.1.trans (ba.mono HM.out.1.2.2.1.size))
      have t2 := (HM.out.2.1.below ba).cell cn (by have := HX.out; omega)
      rw [show upd t cn tn cn = tn by simp [upd]] at t2
      have hlt2 : ct s.T cn < tn := by rw [ct_in s.T cn HX.out.1, I.out.2.2.2.2.1 cn HX.out.1]; have := HX.out.2.1; omega
      have HA : Hid ((∀ c, 1 ≤ c ∧ c ≤ 4 → s.T (c - 1) = t c) ∧ (∀ c, 0 ≤ t c ∧ t c ≤ j) ∧ rs.length = j ∧ (∀ g, (Value.slice ao j cap).ownBlock = some g → w.heap.size ≤ g ∧ g ≠ A ∧ g ≠ B) ∧ (∀ r ∈ rs, r.real = true ∧ r.ok ∧ r.t ≤ t r.c.toNat) ∧ w.heap.size ≤ B ∧ A ≠ B ∧ ct s.T cn < tn) :=
        Lib.hid ⟨I.out.2.2.2.2.1, I.out.2.2.2.2.2.1, I.out.2.2.2.2.2.2.2.1, I.out.2.2.2.2.2.2.2.2.1, I.out.2.2.2.2.2.2.2.2.2, I.out.2.2.1, I.out.2.2.2.1, hlt2⟩
      clear ba I hlt2
      go_region
      by_cases h2 : kn = 2
      · skip
        have e2 : ((kn : Int) == 2) = true := by rw [h2]; rfl
        replace h2 := Lib.hid h2
        go_wp2_with fail
        obtain ⟨wb, hwb⟩ : ∃ wb, (w6.alloc (.cells #[.int .u8 cn, .int .u32 tn, .int .u8 kn, .int .u8 yn, .int .u16 0] 38)).drew = wb := ⟨_, rfl⟩
        have bb : Below w6.heap.size w6 wb := by rw [← hwb]; exact ((Below.refl _ w6).alloc (Nat.le_refl _) _).drew
        have hbx : BoxR wb w6.heap.size (⟨cn, tn, kn, yn, 0⟩ : Rq) := by rw [← hwb]; exact heap_alloc_new w6 _
        rw [hwb]
        clear hwb
        have hreal : (⟨cn, tn, kn, yn, 0⟩ : Rq).real = true := real_mk (by have := HX.out.1; omega) (by have := HA.out.2.1 cn; have := HX.out.2.1; omega) (by have := HX.out.2.2.1; omega) (by have := HX.out.2.2.2; omega) (.inr rfl)
        have hok : (⟨cn, tn, kn, yn, 0⟩ : Rq).ok := ok_mk (by have := HX.out.1; omega) (by have := HA.out.2.1 cn; have := HX.out.2.1; omega) (by have := HX.out.2.2.1; omega) (by have := HX.out.2.2.2; omega) (by decide)
        have hN := ap_new (s := s) (r := (⟨cn, tn, kn, yn, 0⟩ : Rq)) hreal HA.out.2.2.2.2.2.2.2
        obtain ⟨s', hs'⟩ : ∃ z, apS s (⟨cn, tn, kn, yn, 0⟩ : Rq) = z := ⟨_, rfl⟩
        have HT' : ∀ c, 1 ≤ c ∧ c ≤ 4 → s'.T (c - 1) = upd t cn tn c := fun c hc => by
          rw [← hs', hN.1]
          show upd s.T (cn - 1) tn (c - 1) = _
          have := HX.out.1
          unfold upd
          by_cases e : c = cn
          · rw [if_pos (by omega), if_pos e]
          · rw [if_neg (by omega), if_neg e]; exact HA.out.1 c hc
        have HU : ∀ c, 0 ≤ upd t cn tn c ∧ upd t cn tn c ≤ ((j + 1 : Nat) : Int) := fun c => by
          have := HA.out.2.1 c
          have := HA.out.2.1 cn
          have := HX.out.2.1
          unfold upd
          split <;> omega
        have HV : ∀ r ∈ rs ++ [(⟨cn, tn, kn, yn, 0⟩ : Rq)], r.real = true ∧ r.ok ∧ r.t ≤ upd t cn tn r.c.toNat := fun r hr => by
          rcases List.mem_append.1 hr with hr | hr
          · have hh := HA.out.2.2.2.2.1 r hr
            refine ⟨hh.1, hh.2.1, ?_⟩
            have := HX.out.2.1
            unfold upd
            split
            · rename_i e; have h3 := hh.2.2; rw [e] at h3; omega
            · exact hh.2.2
          · obtain rfl := List.mem_singleton.1 hr
            exact ⟨hreal, hok, by simp [upd]⟩
        have N1 := new_svc wb A s (⟨cn, tn, kn, yn, 0⟩ : Rq) hok (HM.out.1.1.below bb HM.out.1.1.lt)
        rw [hN.2.2.2] at N1
        simp only [Rq.cells] at N1
        replace N1 := Lib.hid N1
        have hs2 : svNew s' (⟨cn, tn, kn, yn, 0⟩ : Rq) = false := by
          unfold svNew
          rw [ct_in s'.T cn HX.out.1, HT' cn HX.out.1]
          simp [upd]
        have HS := Lib.hid (And.intro HT' (And.intro HU (And.intro HV (And.intro hs2 (And.intro hok (And.intro hs' hN.2.2.1))))))
        have M7 := Lib.hid (And.intro (HM.out.1.below bb) (And.intro (HM.out.2.1.below bb) (And.intro (own_kept' HM.out.2.2 (Kept.ofBelow (S := fun _ => False) bb) (fun _ _ h => h)) hbx)))
        obtain ⟨q0, q1, q2, q3, q4⟩ := hbx.cells
        have hX : A ≠ w6.heap.size ∧ B ≠ w6.heap.size := ⟨by have := HM.out.1.1.lt; omega, by have := HM.out.2.1.lt; omega⟩
        have hg : ∀ g, (Value.slice ao j cap).ownBlock = some g → g ≠ w6.heap.size := fun g hg => by have := own_lt' HM.out.2.2 hg; omega
        have HD := Lib.hid (And.intro hX hg)
        generalize w6.heap.size = X at *
        clear HT' HU HV hs2 hok hs' hN hreal bb hbx HM hX hg
        go_wp2_with fail
        refine N1.out.mono ?_
        rintro e w7 ⟨rfl, b7⟩
        have M8 := Lib.hid (And.intro (M7.out.1.below b7) (And.intro (M7.out.2.1.below b7) (And.intro (own_kept' M7.out.2.2.1 (Kept.ofBelow (S := fun _ => False) b7) (fun _ _ h => h)) (M7.out.2.2.2.below b7 M7.out.2.2.2.lt))))
        clear N1 M7 b7 q0 q1 q2 q3 q4
        obtain ⟨q0, q1, q2, q3, q4⟩ := M8.out.2.2.2.cells
        obtain ⟨ar, har⟩ : ∃ z, apR s (⟨cn, tn, kn, yn, 0⟩ : Rq) = z := ⟨_, rfl⟩
        have AP := Lib.hid (ap_mi M8.out.1 cn tn kn yn 0 s' ar true HS.out.2.2.2.2.1 HS.out.2.2.2.2.2.1 har HS.out.2.2.2.2.2.2)
        clear har
        go_wp2_with fail
        refine AP.out.mono ?_
        rintro e w8 ⟨rfl, m8, k8⟩
        have M9 := Lib.hid (And.intro m8 (And.intro (M8.out.2.1.kept k8 (fun e => HA.out.2.2.2.2.2.2.1 e.symm)) (And.intro (own_kept' M8.out.2.2.1 k8 (fun g hg => (HA.out.2.2.2.1 g hg).2.1)) (M8.out.2.2.2.kept k8 (fun e => HD.out.1.1 e.symm)))))
        clear AP M8 m8 k8 q0 q1 q2 q3 q4
        obtain ⟨q0, q1, q2, q3, q4⟩ := M9.out.2.2.2.cells
        have N2 := new_svc w8 A s' (⟨cn, tn, kn, yn, 0⟩ : Rq) HS.out.2.2.2.2.1 M9.out.1.1
        rw [HS.out.2.2.2.1] at N2
        simp only [Rq.cells] at N2
        replace N2 := Lib.hid N2
        go_wp2_with fail
        refine N2.out.mono ?_
        rintro e w9 ⟨rfl, b9⟩
        have M10 := Lib.hid (And.intro (M9.out.1.below b9) (And.intro (M9.out.2.1.below b9) (And.intro (own_kept' M9.out.2.2.1 (Kept.ofBelow (S := fun _ => False) b9) (fun _ _ h => h)) (M9.out.2.2.2.below b9 M9.out.2.2.2.lt))))
        clear N2 M9 b9 q0 q1 q2 q3 q4
        go_upto_region 22 with fail
        refine wp_region_lit ?_
        refine wv (.slice ao j cap) w9 (by go_simp) ?_
        refine wpList_load_row rfl 38 (.tmp 11) rfl X rfl 38 _ (0, 0) _ M10.out.2.2.2 Try.underlying38 rfl (by kernel_rfl) ?_
        dsimp only [Rq.cells]
        refine wv (.slice (some ⟨w9.heap.size, 0, none⟩) 1 1) (w9.alloc (.cells #[.int .u8 cn, .int .u32 tn, .int .u8 kn, .int .u8 yn, .int .u16 0] 38)) (by go_simp) ?_
        have RA := Lib.hid (row_new1 w9 5 Rq.cells (⟨cn, tn, kn, yn, 0⟩ : Rq) 38 #[.int .u8 cn, .int .u32 tn, .int .u8 kn, .int .u8 yn, .int .u16 0] rfl)
        have b10 : Below w9.heap.size w9 (w9.alloc (.cells #[.int .u8 cn, .int .u32 tn, .int .u8 kn, .int .u8 yn, .int .u16 0] 38)) := (Below.refl _ _).alloc (Nat.le_refl _) _
        have M11 := Lib.hid (And.intro (M10.out.1.below b10) (And.intro (M10.out.2.1.below b10) (own_kept' M10.out.2.2.1 (Kept.ofBelow (S := fun _ => False) b10) (fun _ _ h => h))))
        obtain ⟨i0, hinfo⟩ := info_parts info38
        obtain ⟨hi, hz0, hz1, hz2⟩ := hinfo
        refine wpList_appR Rq.cells 5 22 38 12 i0 _ _ rfl (.tmp 89) (.tmp 91) rfl Try.underlying22 hi hz0 hz1 hz2 rfl (by decide) (by decide) (.slice ao j cap) j (rs.flatMap Rq.cells) rfl M11.out.2.2 (some ⟨w9.heap.size, 0, none⟩) 1 1 [(⟨cn, tn, kn, yn, 0⟩ : Rq)] rfl RA.out (fun x _ => rfl) (fun x _ => rq_one x) (by omega) (by decide) ?_
        intro ao' cap' w10 ho hk hg
        have HG : ∀ g, (Value.slice ao' (j + 1) cap').ownBlock = some g → w.heap.size ≤ g ∧ g ≠ A ∧ g ≠ B := fun g hgg => by
          rcases hg with e | e
          · exact HA.out.2.2.2.1 g (by rw [← e]; exact hgg)
          · rw [hgg] at e
            injection e with e
            have h1 := M11.out.1.1.lt
            have h2 := M10.out.1.1.lt
            have h3 := M10.out.2.1.lt
            have h4 := M11.out.1.2.2.1.size
            have h5 := M10.out.1.2.2.1.size
            simp at e h4
            omega
        have KN2 : OI w w10 A B s' (upd t cn tn) (rs ++ [(⟨cn, tn, kn, yn, 0⟩ : Rq)]) (.slice ao' (j + 1) cap') (j + 1) :=
          ⟨⟨Mp.kept M11.out.1.1 hk (fun e => (HA.out.2.2.2.1 A e.symm).2.1 rfl), M11.out.1.2.1, M11.out.1.2.2.1.trans (hk.below M11.out.1.2.2.1.size (fun k e => (HA.out.2.2.2.1 k e.symm).1)), M11.out.1.2.2.2⟩,
            M11.out.2.1.kept hk (fun e => (HA.out.2.2.2.1 B e.symm).2.2 rfl), HA.out.2.2.2.2.2.1, HA.out.2.2.2.2.2.2.1, HS.out.1, HS.out.2.1, by have := ho; simpa [RR, List.flatMap_append] using this, by simp [HA.out.2.2.1], HG, HS.out.2.2.1⟩
        replace KN2 := Lib.hid KN2
        clear ho hk hg hi hz0 hz1 hz2 RA M11 M10 HG b10
        refine wv (.slice ao' (j + 1) cap') w10 (by go_simp) ?_
        dsimp only
        go_wp2_with fail
        exact ⟨⟨j + 1, s', _, _, ao', cap', by go_num, by go_num, by omega, KN2⟩, by simp [intOf]; omega⟩
      · skip
        have e2 : ((kn : Int) == 2) = false := by simp; omega
        replace h2 := Lib.hid h2
        go_wp2_with fail
        obtain ⟨wb, hwb⟩ : ∃ wb, (w6.alloc (.cells #[.int .u8 cn, .int .u32 tn, .int .u8 kn, .int .u8 yn, .int .u16 j] 38)).drew = wb := ⟨_, rfl⟩
        have bb : Below w6.heap.size w6 wb := by rw [← hwb]; exact ((Below.refl _ w6).alloc (Nat.le_refl _) _).drew
        have hbx : BoxR wb w6.heap.size (⟨cn, tn, kn, yn, (j : Int)⟩ : Rq) := by rw [← hwb]; exact heap_alloc_new w6 _
        rw [hwb]
        clear hwb
        have hreal : (⟨cn, tn, kn, yn, (j : Int)⟩ : Rq).real = true := real_mk (by have := HX.out.1; omega) (by have := HA.out.2.1 cn; have := HX.out.2.1; omega) (by have := HX.out.2.2.1; omega) (by have := HX.out.2.2.2; omega) (.inl (by have := h2.out; omega))
        have hok : (⟨cn, tn, kn, yn, (j : Int)⟩ : Rq).ok := ok_mk (by have := HX.out.1; omega) (by have := HA.out.2.1 cn; have := HX.out.2.1; omega) (by have := HX.out.2.2.1; omega) (by have := HX.out.2.2.2; omega) (by omega)
        have hN := ap_new (s := s) (r := (⟨cn, tn, kn, yn, (j : Int)⟩ : Rq)) hreal HA.out.2.2.2.2.2.2.2
        obtain ⟨s', hs'⟩ : ∃ z, apS s (⟨cn, tn, kn, yn, (j : Int)⟩ : Rq) = z := ⟨_, rfl⟩
        have HT' : ∀ c, 1 ≤ c ∧ c ≤ 4 → s'.T (c - 1) = upd t cn tn c := fun c hc => by
          rw [← hs', hN.1]
          show upd s.T (cn - 1) tn (c - 1) = _
          have := HX.out.1
          unfold upd
          by_cases e : c = cn
          · rw [if_pos (by omega), if_pos e]
          · rw [if_neg (by omega), if_neg e]; exact HA.out.1 c hc
        have HU : ∀ c, 0 ≤ upd t cn tn c ∧ upd t cn tn c ≤ ((j + 1 : Nat) : Int) := fun c => by
          have := HA.out.2.1 c
          have := HA.out.2.1 cn
          have := HX.out.2.1
          unfold upd
          split <;> omega
        have HV : ∀ r ∈ rs ++ [(⟨cn, tn, kn, yn, (j : Int)⟩ : Rq)], r.real = true ∧ r.ok ∧ r.t ≤ upd t cn tn r.c.toNat := fun r hr => by
          rcases List.mem_append.1 hr with hr | hr
          · have hh := HA.out.2.2.2.2.1 r hr
            refine ⟨hh.1, hh.2.1, ?_⟩
            have := HX.out.2.1
            unfold upd
            split
            · rename_i e; have h3 := hh.2.2; rw [e] at h3; omega
            · exact hh.2.2
          · obtain rfl := List.mem_singleton.1 hr
            exact ⟨hreal, hok, by simp [upd]⟩
        have N1 := new_svc wb A s (⟨cn, tn, kn, yn, (j : Int)⟩ : Rq) hok (HM.out.1.1.below bb HM.out.1.1.lt)
        rw [hN.2.2.2] at N1
        simp only [Rq.cells] at N1
        replace N1 := Lib.hid N1
        have hs2 : svNew s' (⟨cn, tn, kn, yn, (j : Int)⟩ : Rq) = false := by
          unfold svNew
          rw [ct_in s'.T cn HX.out.1, HT' cn HX.out.1]
          simp [upd]
        have HS := Lib.hid (And.intro HT' (And.intro HU (And.intro HV (And.intro hs2 (And.intro hok (And.intro hs' hN.2.2.1))))))
        have M7 := Lib.hid (And.intro (HM.out.1.below bb) (And.intro (HM.out.2.1.below bb) (And.intro (own_kept' HM.out.2.2 (Kept.ofBelow (S := fun _ => False) bb) (fun _ _ h => h)) hbx)))
        obtain ⟨q0, q1, q2, q3, q4⟩ := hbx.cells
        have hX : A ≠ w6.heap.size ∧ B ≠ w6.heap.size := ⟨by have := HM.out.1.1.lt; omega, by have := HM.out.2.1.lt; omega⟩
        have hg : ∀ g, (Value.slice ao j cap).ownBlock = some g → g ≠ w6.heap.size := fun g hg => by have := own_lt' HM.out.2.2 hg; omega
        have HD := Lib.hid (And.intro hX hg)
        generalize w6.heap.size = X at *
        clear HT' HU HV hs2 hok hs' hN hreal bb hbx HM hX hg
        go_wp2_with fail
        refine N1.out.mono ?_
        rintro e w7 ⟨rfl, b7⟩
        have M8 := Lib.hid (And.intro (M7.out.1.below b7) (And.intro (M7.out.2.1.below b7) (And.intro (own_kept' M7.out.2.2.1 (Kept.ofBelow (S := fun _ => False) b7) (fun _ _ h => h)) (M7.out.2.2.2.below b7 M7.out.2.2.2.lt))))
        clear N1 M7 b7 q0 q1 q2 q3 q4
        obtain ⟨q0, q1, q2, q3, q4⟩ := M8.out.2.2.2.cells
        obtain ⟨ar, har⟩ : ∃ z, apR s (⟨cn, tn, kn, yn, (j : Int)⟩ : Rq) = z := ⟨_, rfl⟩
        have AP := Lib.hid (ap_mi M8.out.1 cn tn kn yn (j : Int) s' ar true HS.out.2.2.2.2.1 HS.out.2.2.2.2.2.1 har HS.out.2.2.2.2.2.2)
        clear har
        go_wp2_with fail
        refine AP.out.mono ?_
        rintro e w8 ⟨rfl, m8, k8⟩
        have M9 := Lib.hid (And.intro m8 (And.intro (M8.out.2.1.kept k8 (fun e => HA.out.2.2.2.2.2.2.1 e.symm)) (And.intro (own_kept' M8.out.2.2.1 k8 (fun g hg => (HA.out.2.2.2.1 g hg).2.1)) (M8.out.2.2.2.kept k8 (fun e => HD.out.1.1 e.symm)))))
        clear AP M8 m8 k8 q0 q1 q2 q3 q4
        obtain ⟨q0, q1, q2, q3, q4⟩ := M9.out.2.2.2.cells
        have N2 := new_svc w8 A s' (⟨cn, tn, kn, yn, (j : Int)⟩ : Rq) HS.out.2.2.2.2.1 M9.out.1.1
        rw [HS.out.2.2.2.1] at N2
        simp only [Rq.cells] at N2
        replace N2 := Lib.hid N2
        go_wp2_with fail
        refine N2.out.mono ?_
        rintro e w9 ⟨rfl, b9⟩
        have M10 := Lib.hid (And.intro (M9.out.1.below b9) (And.intro (M9.out.2.1.below b9) (And.intro (own_kept' M9.out.2.2.1 (Kept.ofBelow (S := fun _ => False) b9) (fun _ _ h => h)) (M9.out.2.2.2.below b9 M9.out.2.2.2.lt))))
        clear N2 M9 b9 q0 q1 q2 q3 q4
        go_upto_region 22 with fail
        refine wp_region_lit ?_
        refine wv (.slice ao j cap) w9 (by go_simp) ?_
        refine wpList_load_row rfl 38 (.tmp 11) rfl X rfl 38 _ (0, 0) _ M10.out.2.2.2 Try.underlying38 rfl (by kernel_rfl) ?_
        dsimp only [Rq.cells]
        refine wv (.slice (some ⟨w9.heap.size, 0, none⟩) 1 1) (w9.alloc (.cells #[.int .u8 cn, .int .u32 tn, .int .u8 kn, .int .u8 yn, .int .u16 j] 38)) (by go_simp) ?_
        have RA := Lib.hid (row_new1 w9 5 Rq.cells (⟨cn, tn, kn, yn, (j : Int)⟩ : Rq) 38 #[.int .u8 cn, .int .u32 tn, .int .u8 kn, .int .u8 yn, .int .u16 j] rfl)
        have b10 : Below w9.heap.size w9 (w9.alloc (.cells #[.int .u8 cn, .int .u32 tn, .int .u8 kn, .int .u8 yn, .int .u16 j] 38)) := (Below.refl _ _).alloc (Nat.le_refl _) _
        have M11 := Lib.hid (And.intro (M10.out.1.below b10) (And.intro (M10.out.2.1.below b10) (own_kept' M10.out.2.2.1 (Kept.ofBelow (S := fun _ => False) b10) (fun _ _ h => h))))
        obtain ⟨i0, hinfo⟩ := info_parts info38
        obtain ⟨hi, hz0, hz1, hz2⟩ := hinfo
        refine wpList_appR Rq.cells 5 22 38 12 i0 _ _ rfl (.tmp 89) (.tmp 91) rfl Try.underlying22 hi hz0 hz1 hz2 rfl (by decide) (by decide) (.slice ao j cap) j (rs.flatMap Rq.cells) rfl M11.out.2.2 (some ⟨w9.heap.size, 0, none⟩) 1 1 [(⟨cn, tn, kn, yn, (j : Int)⟩ : Rq)] rfl RA.out (fun x _ => rfl) (fun x _ => rq_one x) (by omega) (by decide) ?_
        intro ao' cap' w10 ho hk hg
        have HG : ∀ g, (Value.slice ao' (j + 1) cap').ownBlock = some g → w.heap.size ≤ g ∧ g ≠ A ∧ g ≠ B := fun g hgg => by
          rcases hg with e | e
          · exact HA.out.2.2.2.1 g (by rw [← e]; exact hgg)
          · rw [hgg] at e
            injection e with e
            have h1 := M11.out.1.1.lt
            have h2 := M10.out.1.1.lt
            have h3 := M10.out.2.1.lt
            have h4 := M11.out.1.2.2.1.size
            have h5 := M10.out.1.2.2.1.size
            simp at e h4
            omega
        have KN2 : OI w w10 A B s' (upd t cn tn) (rs ++ [(⟨cn, tn, kn, yn, (j : Int)⟩ : Rq)]) (.slice ao' (j + 1) cap') (j + 1) :=
          ⟨⟨Mp.kept M11.out.1.1 hk (fun e => (HA.out.2.2.2.1 A e.symm).2.1 rfl), M11.out.1.2.1, M11.out.1.2.2.1.trans (hk.below M11.out.1.2.2.1.size (fun k e => (HA.out.2.2.2.1 k e.symm).1)), M11.out.1.2.2.2⟩,
            M11.out.2.1.kept hk (fun e => (HA.out.2.2.2.1 B e.symm).2.2 rfl), HA.out.2.2.2.2.2.1, HA.out.2.2.2.2.2.2.1, HS.out.1, HS.out.2.1, by have := ho; simpa [RR, List.flatMap_append] using this, by simp [HA.out.2.2.1], HG, HS.out.2.2.1⟩
        replace KN2 := Lib.hid KN2
        clear ho hk hg hi hz0 hz1 hz2 RA M11 M10 HG b10
        refine wv (.slice ao' (j + 1) cap') w10 (by go_simp) ?_
        dsimp only
        go_wp2_with fail
        exact ⟨⟨j + 1, s', _, _, ao', cap', by go_num, by go_num, by omega, KN2⟩, by simp [intOf]; omega⟩
    · obtain rfl : j = n := by omega
      have CP := Lib.hid (copy_any wr A s.V s.T s.R I.out.1.1)
      have HO : Hid ((∀ c, 1 ≤ c ∧ c ≤ 4 → s.T (c - 1) = t c) ∧ rs.length = j ∧ (∀ g, (Value.slice ao j cap).ownBlock = some g → w.heap.size ≤ g ∧ g ≠ A ∧ g ≠ B) ∧ (∀ r ∈ rs, r.real = true ∧ r.ok ∧ r.t ≤ t r.c.toNat) ∧ A ≠ B) :=
        Lib.hid ⟨I.out.2.2.2.2.1, I.out.2.2.2.2.2.2.2.1, I.out.2.2.2.2.2.2.2.2.1, I.out.2.2.2.2.2.2.2.2.2, I.out.2.2.2.1⟩
      go_wp2_with fail
      refine CP.out.mono ?_
      rintro e w4 ⟨rfl, mC, bC⟩
      have P0 : PI w w4 A B wr.heap.size s t rs (.slice ao j cap) j :=
        ⟨I.out.1.below bC, I.out.2.1.below bC, own_kept' I.out.2.2.2.2.2.2.1 (Kept.ofBelow (S := fun _ => False) bC) (fun _ _ h => h), mC, by have := I.out.1.1.lt; omega⟩
      replace P0 := Lib.hid P0
      clear CP mC bC I
      generalize wr.heap.size = C at *
      go_wp2_with fail
      go_loopw [15] (fun v15 wz => ∃ j2 : Nat, v15 = .int .i64 j2 ∧ j2 ≤ n2 ∧ Hid (PI w wz A B C s t rs (.slice ao j cap) j)) (fun v15 _ => n2 - (intOf v15).toNat)
      case atStart => exact ⟨0, rfl, by omega, P0⟩
      case round =>
        obtain ⟨j2, rfl, hj2, P⟩ := hrel
        by_cases hjn2 : j2 < n2
        · have hjn2' : (j2 : Int) < n2 := by omega
          have hj60 : (j2 : Int) < 60 := by have := HN.out.2.2.2; omega
          by_cases h0j : j = 0
          · subst h0j
            go_wp2_with fail
            go_ret
            exact ⟨rfl, P.out.1.2.2.1⟩
          · have h0j' : (0 : Int) < j := by omega
            have hlt : j2 < l2.length := by have := HN.out.2.1; omega
            have hcA := fun wx (k : Below w.heap.size w wx) => bytes_at (bytes_below HI.out.2.2.1 k (Nat.le_refl _)) (show 0 < l2.length by omega)
            obtain ⟨k0, off, hao, -⟩ := hcA w (Below.refl _ _)
            subst hao
            have hx : Hid (∀ wx, Below w.heap.size w wx → wx.cell? ⟨k0, off + j2, none⟩ = some (.int .u8 (l2.getD j2 0))) := Lib.hid (fun wx k => by
              obtain ⟨k1, off1, e, hc⟩ := hcA wx k
              injection e with e; injection e with e1 e2; subst e1 e2
              exact hc j2 hlt)
            have hx0 : isByte (l2.getD j2 0) := by
              rw [List.getD_eq_getElem?_getD, List.getElem?_eq_getElem hlt]
              exact HI.out.2.2.2 _ (List.getElem_mem hlt)
            generalize l2.getD j2 0 = x at hx hx0
            unfold isByte at hx0
            obtain ⟨xN, rfl⟩ : ∃ z : Nat, x = z := ⟨x.toNat, by omega⟩
            have hxN : (xN : Int) < 256 := by omega
            have c0 := hx.out _ P.out.1.2.2.1
            obtain ⟨x, hxe⟩ : ∃ z : Int, (xN : Int) = z := ⟨_, rfl⟩
            rw [hxe] at hx0
            obtain ⟨qn, hqn⟩ : ∃ m : Nat, x.tmod j = m := ⟨(x % j).toNat, by rw [Int.tmod_eq_emod_of_nonneg hx0.1]; have := Int.emod_nonneg x (show (j : Int) ≠ 0 by omega); omega⟩
            have hqm : qn < j := by
              rw [Int.tmod_eq_emod_of_nonneg hx0.1] at hqn
              have := Int.emod_lt_of_pos x h0j'
              omega
            rw [← hxe] at hqn
            clear hxe
            have hqi : (qn : Int) < j := by omega
            obtain ⟨⟨c, tt, k, y, v⟩, hr⟩ : ∃ r, rs[qn]? = some r := ⟨_, List.getElem?_eq_getElem (by have := HO.out.2.1; omega)⟩
            have hrr := HO.out.2.2.2.1 _ (List.mem_of_getElem? hr)
            obtain ⟨g, cap', hv, hcell⟩ := P.out.2.2.1.at hr
            injection hv with hv1 _ hv2
            subst hv1 hv2
            have hb := Rq.real_bounds hrr.1
            simp only at hb
            obtain ⟨cq, rfl⟩ : ∃ z : Nat, c = z := ⟨c.toNat, by omega⟩
            have hcq : (cq : Int) < 5 := by omega
            obtain ⟨q0, q1, q2, q3, q4⟩ := hcell _ (Kept.refl _ _)
            have hnz : (j : Int) ≠ 0 := by omega
            have HR := Lib.hid (And.intro hrr hb)
            clear hlt hcA hx0 hqm hr hrr hcell hb
            go_wp2_with fail
            have hct : ct s.T cq = t cq := by rw [ct_in s.T cq (by have := HR.out.2.1; omega), HO.out.1 cq (by have := HR.out.2.1; omega)]
            have AG := ap_again (s := s) (r := ⟨cq, tt, k, y, v⟩) HR.out.1.1 (by show tt ≤ ct s.T cq; rw [hct]; exact HR.out.1.2.2)
            obtain ⟨bq, hbq⟩ : ∃ z, (tt == t cq) = z := ⟨_, rfl⟩
            have hbq2 : apB s ⟨cq, tt, k, y, v⟩ = bq := by rw [AG.2]; show (tt == ct s.T cq) = bq; rw [hct]; exact hbq
            obtain ⟨w6, hw6⟩ : ∃ w6, wr.alloc (.cells #[.int .u8 cq, .int .u32 tt, .int .u8 k, .int .u8 y, .int .u16 v] 38) = w6 := ⟨_, rfl⟩
            have b6 : Below wr.heap.size wr w6 := by rw [← hw6]; exact (Below.refl _ _).alloc (Nat.le_refl _) _
            have x6 : BoxR w6 wr.heap.size ⟨cq, tt, k, y, v⟩ := by rw [← hw6]; exact heap_alloc_new wr _
            have hXA : wr.heap.size ≠ A := by have := P.out.1.1.lt; omega
            have P6 := P.out.below b6
            rw [hw6]
            obtain ⟨ar, har⟩ : ∃ z, apR s ⟨cq, tt, k, y, v⟩ = z := ⟨_, rfl⟩
            have AP := Lib.hid (ap_mi P6.1 cq tt k y v s ar bq HR.out.1.2.1 AG.1 har hbq2)
            have M6 := Lib.hid (And.intro P6 (And.intro x6 hXA))
            have HQ := Lib.hid hbq
            generalize wr.heap.size = X at *
            clear hct AG hbq hbq2 hw6 b6 x6 hXA P6 har P c0 q0 q1 q2 q3 q4
            refine AP.out.mono ?_
            rintro e w7 ⟨rfl, m7, k7⟩
            have P7 : Hid (PI w w7 A B C s t rs (.slice (some ⟨g, 0, none⟩) j cap) j) := Lib.hid ⟨m7, M6.out.1.2.1.kept k7 (fun e => HO.out.2.2.2.2 e.symm), own_kept' M6.out.1.2.2.1 k7 (fun g hg => (HO.out.2.2.1 g hg).2.1), Mp.kept M6.out.1.2.2.2.1 k7 (fun e => M6.out.1.2.2.2.2 e.symm), M6.out.1.2.2.2.2⟩
            have X7 := Lib.hid (M6.out.2.1.kept k7 M6.out.2.2)
            clear AP M6 m7 k7
            have SA0 := same_any w7.drew A C s.V s.T s.R s.V s.T s.R P7.out.1.drew.1 P7.out.2.2.2.1
            rw [same_self] at SA0
            have SA := Lib.hid SA0
            have hc : Hid (∀ wx, Below w7.heap.size w7 wx → wx.cell? ⟨X, 1, none⟩ = some (.int .u32 tt) ∧ wx.cell? ⟨X, 0, none⟩ = some (.int .u8 cq) ∧ wx.cell? ⟨B, cq, none⟩ = some (.int .u32 (t cq))) := Lib.hid (fun wx hw => by
              obtain ⟨q0, q1, q2, q3, q4⟩ := (X7.out.below hw X7.out.lt).cells
              exact ⟨q1, q0, (P7.out.2.1.below hw).cell cq (by have := HR.out.2.1; omega)⟩)
            generalize t cq = tc at hc HQ
            clear SA0
            go_wp2_with fail
            refine wp_region_held_drew (S := Below w7.heap.size w7) (by kernel_rfl) ((Below.refl _ w7).drew) (fun hS => ?_)
            refine takeA (i := 0) (v := .bool bq) ({ tmps := #[.slice ak j ck, .slice (some ⟨k0, off, none⟩) n2 cg, undef, undef, u4, .pointer (some ⟨A, 0, none⟩), .slice (some ⟨g, 0, none⟩) j cap, .pointer (some ⟨B, 0, none⟩), .int .i64 ↑j, u9, u10, u11, u12, u13, .pointer (some ⟨C, 0, none⟩), .int .i64 ↑j2, .pointer (some ⟨X, 0, none⟩), .int .u32 ar, .bool bq, .bool true, .bool false, .slice ak j ck, .int .i64 ↑j, .bool false, .bool false, .slice (some ⟨k0, off, none⟩) n2 cg, .int .i64 ↑n2, .bool false, .bool false, .pointer (some ⟨A, 0, none⟩), .int .i64 ↑j, .slice ak j ck, .int .i64 ↑j, .bool false, u34, u35, u36, u37, u38, u39, u40, u41, u42, u43, u44, u45, u46, u47, u48, u49, u50, u51, u52, u53, u54, u55, u56, u57, u58, u59, u60, u61, u62, u63, u64, u65, u66, u67, u68, u69, u70, u71, u72, u73, u74, u75, u76, u77, u78, u79, u80, u81, u82, u83, u84, u85, u86, u87, u88, u89, u90, u91, u92, .pointer (some ⟨A, 0, none⟩), .pointer (some ⟨C, 0, none⟩), .int .i64 ↑j2, .slice (some ⟨k0, off, none⟩) n2 cg, .int .i64 ↑n2, .bool true, .bool true, .slice (some ⟨g, 0, none⟩) j cap, .int .i64 ↑j, .bool true, .bool true, u104, u105, .slice (some ⟨g, 0, none⟩) j cap, .slice (some ⟨k0, off, none⟩) n2 cg, .int .i64 ↑j2, .pointer (some ⟨k0, off + j2, none⟩), .int .u8 ↑xN, .int .i64 ↑xN, .slice (some ⟨g, 0, none⟩) j cap, .int .i64 ↑j, .int .i64 ↑qn, .pointer (some ⟨g, qn * 5, none⟩), .agg #[.int .u8 ↑cq, .int .u32 tt, .int .u8 k, .int .u8 y, .int .u16 v], .tuple #[.int .u32 ar, .bool bq], .pointer (some ⟨A, 0, none⟩), .agg #[.int .u8 ↑cq, .int .u32 tt, .int .u8 k, .int .u8 y, .int .u16 v], .tuple #[.int .u32 ar, .bool bq], .int .u32 ar, .bool bq, .bool bq, u124, u125, u126, u127, u128, u129, u130, u131, u132, u133, u134, u135, u136, u137], defers := [] }) rfl (by kernel_rfl) (by kernel_rfl) (by kernel_rfl) (fun _ _ _ h => h) (.inl ⟨rfl, fun _ _ => rfl⟩) hS rfl ?_
            refine takeA (i := 1) (v := .pointer (some ⟨X, 1, none⟩)) ({ tmps := #[.slice ak j ck, .slice (some ⟨k0, off, none⟩) n2 cg, undef, undef, u4, .pointer (some ⟨A, 0, none⟩), .slice (some ⟨g, 0, none⟩) j cap, .pointer (some ⟨B, 0, none⟩), .int .i64 ↑j, u9, u10, u11, u12, u13, .pointer (some ⟨C, 0, none⟩), .int .i64 ↑j2, .pointer (some ⟨X, 0, none⟩), .int .u32 ar, .bool bq, .bool true, .bool false, .slice ak j ck, .int .i64 ↑j, .bool false, .bool false, .slice (some ⟨k0, off, none⟩) n2 cg, .int .i64 ↑n2, .bool false, .bool false, .pointer (some ⟨A, 0, none⟩), .int .i64 ↑j, .slice ak j ck, .int .i64 ↑j, .bool false, u34, u35, u36, u37, u38, u39, u40, u41, u42, u43, u44, u45, u46, u47, u48, u49, u50, u51, u52, u53, u54, u55, u56, u57, u58, u59, u60, u61, u62, u63, u64, u65, u66, u67, u68, u69, u70, u71, u72, u73, u74, u75, u76, u77, u78, u79, u80, u81, u82, u83, u84, u85, u86, u87, u88, u89, u90, u91, u92, .pointer (some ⟨A, 0, none⟩), .pointer (some ⟨C, 0, none⟩), .int .i64 ↑j2, .slice (some ⟨k0, off, none⟩) n2 cg, .int .i64 ↑n2, .bool true, .bool true, .slice (some ⟨g, 0, none⟩) j cap, .int .i64 ↑j, .bool true, .bool true, u104, u105, .slice (some ⟨g, 0, none⟩) j cap, .slice (some ⟨k0, off, none⟩) n2 cg, .int .i64 ↑j2, .pointer (some ⟨k0, off + j2, none⟩), .int .u8 ↑xN, .int .i64 ↑xN, .slice (some ⟨g, 0, none⟩) j cap, .int .i64 ↑j, .int .i64 ↑qn, .pointer (some ⟨g, qn * 5, none⟩), .agg #[.int .u8 ↑cq, .int .u32 tt, .int .u8 k, .int .u8 y, .int .u16 v], .tuple #[.int .u32 ar, .bool bq], .pointer (some ⟨A, 0, none⟩), .agg #[.int .u8 ↑cq, .int .u32 tt, .int .u8 k, .int .u8 y, .int .u16 v], .tuple #[.int .u32 ar, .bool bq], .int .u32 ar, .bool bq, .bool bq, .pointer (some ⟨X, 1, none⟩), u125, u126, u127, u128, u129, u130, u131, u132, u133, u134, u135, u136, u137], defers := [] }) rfl (by kernel_rfl) (by kernel_rfl) (by kernel_rfl) (fun _ _ _ h => h) (.inl ⟨rfl, fun _ _ => by go_simp⟩) hS rfl ?_
            refine takeA (i := 2) (v := .int .u32 tt) ({ tmps := #[.slice ak j ck, .slice (some ⟨k0, off, none⟩) n2 cg, undef, undef, u4, .pointer (some ⟨A, 0, none⟩), .slice (some ⟨g, 0, none⟩) j cap, .pointer (some ⟨B, 0, none⟩), .int .i64 ↑j, u9, u10, u11, u12, u13, .pointer (some ⟨C, 0, none⟩), .int .i64 ↑j2, .pointer (some ⟨X, 0, none⟩), .int .u32 ar, .bool bq, .bool true, .bool false, .slice ak j ck, .int .i64 ↑j, .bool false, .bool false, .slice (some ⟨k0, off, none⟩) n2 cg, .int .i64 ↑n2, .bool false, .bool false, .pointer (some ⟨A, 0, none⟩), .int .i64 ↑j, .slice ak j ck, .int .i64 ↑j, .bool false, u34, u35, u36, u37, u38, u39, u40, u41, u42, u43, u44, u45, u46, u47, u48, u49, u50, u51, u52, u53, u54, u55, u56, u57, u58, u59, u60, u61, u62, u63, u64, u65, u66, u67, u68, u69, u70, u71, u72, u73, u74, u75, u76, u77, u78, u79, u80, u81, u82, u83, u84, u85, u86, u87, u88, u89, u90, u91, u92, .pointer (some ⟨A, 0, none⟩), .pointer (some ⟨C, 0, none⟩), .int .i64 ↑j2, .slice (some ⟨k0, off, none⟩) n2 cg, .int .i64 ↑n2, .bool true, .bool true, .slice (some ⟨g, 0, none⟩) j cap, .int .i64 ↑j, .bool true, .bool true, u104, u105, .slice (some ⟨g, 0, none⟩) j cap, .slice (some ⟨k0, off, none⟩) n2 cg, .int .i64 ↑j2, .pointer (some ⟨k0, off + j2, none⟩), .int .u8 ↑xN, .int .i64 ↑xN, .slice (some ⟨g, 0, none⟩) j cap, .int .i64 ↑j, .int .i64 ↑qn, .pointer (some ⟨g, qn * 5, none⟩), .agg #[.int .u8 ↑cq, .int .u32 tt, .int .u8 k, .int .u8 y, .int .u16 v], .tuple #[.int .u32 ar, .bool bq], .pointer (some ⟨A, 0, none⟩), .agg #[.int .u8 ↑cq, .int .u32 tt, .int .u8 k, .int .u8 y, .int .u16 v], .tuple #[.int .u32 ar, .bool bq], .int .u32 ar, .bool bq, .bool bq, .pointer (some ⟨X, 1, none⟩), .int .u32 tt, u126, u127, u128, u129, u130, u131, u132, u133, u134, u135, u136, u137], defers := [] }) rfl (by kernel_rfl) (by kernel_rfl) (by kernel_rfl) (fun _ _ _ h => h) (yi_load 29 _ (.pointer (some ⟨X, 1, none⟩)) rfl rfl rfl (fun wx hw => by obtain ⟨q0, q1, q2⟩ := hc.out wx hw; go_simp)) hS rfl ?_
            refine takeA (i := 3) (v := .pointer (some ⟨X, 0, none⟩)) ({ tmps := #[.slice ak j ck, .slice (some ⟨k0, off, none⟩) n2 cg, undef, undef, u4, .pointer (some ⟨A, 0, none⟩), .slice (some ⟨g, 0, none⟩) j cap, .pointer (some ⟨B, 0, none⟩), .int .i64 ↑j, u9, u10, u11, u12, u13, .pointer (some ⟨C, 0, none⟩), .int .i64 ↑j2, .pointer (some ⟨X, 0, none⟩), .int .u32 ar, .bool bq, .bool true, .bool false, .slice ak j ck, .int .i64 ↑j, .bool false, .bool false, .slice (some ⟨k0, off, none⟩) n2 cg, .int .i64 ↑n2, .bool false, .bool false, .pointer (some ⟨A, 0, none⟩), .int .i64 ↑j, .slice ak j ck, .int .i64 ↑j, .bool false, u34, u35, u36, u37, u38, u39, u40, u41, u42, u43, u44, u45, u46, u47, u48, u49, u50, u51, u52, u53, u54, u55, u56, u57, u58, u59, u60, u61, u62, u63, u64, u65, u66, u67, u68, u69, u70, u71, u72, u73, u74, u75, u76, u77, u78, u79, u80, u81, u82, u83, u84, u85, u86, u87, u88, u89, u90, u91, u92, .pointer (some ⟨A, 0, none⟩), .pointer (some ⟨C, 0, none⟩), .int .i64 ↑j2, .slice (some ⟨k0, off, none⟩) n2 cg, .int .i64 ↑n2, .bool true, .bool true, .slice (some ⟨g, 0, none⟩) j cap, .int .i64 ↑j, .bool true, .bool true, u104, u105, .slice (some ⟨g, 0, none⟩) j cap, .slice (some ⟨k0, off, none⟩) n2 cg, .int .i64 ↑j2, .pointer (some ⟨k0, off + j2, none⟩), .int .u8 ↑xN, .int .i64 ↑xN, .slice (some ⟨g, 0, none⟩) j cap, .int .i64 ↑j, .int .i64 ↑qn, .pointer (some ⟨g, qn * 5, none⟩), .agg #[.int .u8 ↑cq, .int .u32 tt, .int .u8 k, .int .u8 y, .int .u16 v], .tuple #[.int .u32 ar, .bool bq], .pointer (some ⟨A, 0, none⟩), .agg #[.int .u8 ↑cq, .int .u32 tt, .int .u8 k, .int .u8 y, .int .u16 v], .tuple #[.int .u32 ar, .bool bq], .int .u32 ar, .bool bq, .bool bq, .pointer (some ⟨X, 1, none⟩), .int .u32 tt, .pointer (some ⟨X, 0, none⟩), u127, u128, u129, u130, u131, u132, u133, u134, u135, u136, u137], defers := [] }) rfl (by kernel_rfl) (by kernel_rfl) (by kernel_rfl) (fun _ _ _ h => h) (.inl ⟨rfl, fun _ _ => by go_simp⟩) hS rfl ?_
            refine takeA (i := 4) (v := .int .u8 ↑cq) ({ tmps := #[.slice ak j ck, .slice (some ⟨k0, off, none⟩) n2 cg, undef, undef, u4, .pointer (some ⟨A, 0, none⟩), .slice (some ⟨g, 0, none⟩) j cap, .pointer (some ⟨B, 0, none⟩), .int .i64 ↑j, u9, u10, u11, u12, u13, .pointer (some ⟨C, 0, none⟩), .int .i64 ↑j2, .pointer (some ⟨X, 0, none⟩), .int .u32 ar, .bool bq, .bool true, .bool false, .slice ak j ck, .int .i64 ↑j, .bool false, .bool false, .slice (some ⟨k0, off, none⟩) n2 cg, .int .i64 ↑n2, .bool false, .bool false, .pointer (some ⟨A, 0, none⟩), .int .i64 ↑j, .slice ak j ck, .int .i64 ↑j, .bool false, u34, u35, u36, u37, u38, u39, u40, u41, u42, u43, u44, u45, u46, u47, u48, u49, u50, u51, u52, u53, u54, u55, u56, u57, u58, u59, u60, u61, u62, u63, u64, u65, u66, u67, u68, u69, u70, u71, u72, u73, u74, u75, u76, u77, u78, u79, u80, u81, u82, u83, u84, u85, u86, u87, u88, u89, u90, u91, u92, .pointer (some ⟨A, 0, none⟩), .pointer (some ⟨C, 0, none⟩), .int .i64 ↑j2, .slice (some ⟨k0, off, none⟩) n2 cg, .int .i64 ↑n2, .bool true, .bool true, .slice (some ⟨g, 0, none⟩) j cap, .int .i64 ↑j, .bool true, .bool true, u104, u105, .slice (some ⟨g, 0, none⟩) j cap, .slice (some ⟨k0, off, none⟩) n2 cg, .int .i64 ↑j2, .pointer (some ⟨k0, off + j2, none⟩), .int .u8 ↑xN, .int .i64 ↑xN, .slice (some ⟨g, 0, none⟩) j cap, .int .i64 ↑j, .int .i64 ↑qn, .pointer (some ⟨g, qn * 5, none⟩), .agg #[.int .u8 ↑cq, .int .u32 tt, .int .u8 k, .int .u8 y, .int .u16 v], .tuple #[.int .u32 ar, .bool bq], .pointer (some ⟨A, 0, none⟩), .agg #[.int .u8 ↑cq, .int .u32 tt, .int .u8 k, .int .u8 y, .int .u16 v], .tuple #[.int .u32 ar, .bool bq], .int .u32 ar, .bool bq, .bool bq, .pointer (some ⟨X, 1, none⟩), .int .u32 tt, .pointer (some ⟨X, 0, none⟩), .int .u8 ↑cq, u128, u129, u130, u131, u132, u133, u134, u135, u136, u137], defers := [] }) rfl (by kernel_rfl) (by kernel_rfl) (by kernel_rfl) (fun _ _ _ h => h) (yi_load 5 _ (.pointer (some ⟨X, 0, none⟩)) rfl rfl rfl (fun wx hw => by obtain ⟨q0, q1, q2⟩ := hc.out wx hw; go_simp)) hS rfl ?_
            refine takeA (i := 5) (v := .pointer (some ⟨B, cq, none⟩)) ({ tmps := #[.slice ak j ck, .slice (some ⟨k0, off, none⟩) n2 cg, undef, undef, u4, .pointer (some ⟨A, 0, none⟩), .slice (some ⟨g, 0, none⟩) j cap, .pointer (some ⟨B, 0, none⟩), .int .i64 ↑j, u9, u10, u11, u12, u13, .pointer (some ⟨C, 0, none⟩), .int .i64 ↑j2, .pointer (some ⟨X, 0, none⟩), .int .u32 ar, .bool bq, .bool true, .bool false, .slice ak j ck, .int .i64 ↑j, .bool false, .bool false, .slice (some ⟨k0, off, none⟩) n2 cg, .int .i64 ↑n2, .bool false, .bool false, .pointer (some ⟨A, 0, none⟩), .int .i64 ↑j, .slice ak j ck, .int .i64 ↑j, .bool false, u34, u35, u36, u37, u38, u39, u40, u41, u42, u43, u44, u45, u46, u47, u48, u49, u50, u51, u52, u53, u54, u55, u56, u57, u58, u59, u60, u61, u62, u63, u64, u65, u66, u67, u68, u69, u70, u71, u72, u73, u74, u75, u76, u77, u78, u79, u80, u81, u82, u83, u84, u85, u86, u87, u88, u89, u90, u91, u92, .pointer (some ⟨A, 0, none⟩), .pointer (some ⟨C, 0, none⟩), .int .i64 ↑j2, .slice (some ⟨k0, off, none⟩) n2 cg, .int .i64 ↑n2, .bool true, .bool true, .slice (some ⟨g, 0, none⟩) j cap, .int .i64 ↑j, .bool true, .bool true, u104, u105, .slice (some ⟨g, 0, none⟩) j cap, .slice (some ⟨k0, off, none⟩) n2 cg, .int .i64 ↑j2, .pointer (some ⟨k0, off + j2, none⟩), .int .u8 ↑xN, .int .i64 ↑xN, .slice (some ⟨g, 0, none⟩) j cap, .int .i64 ↑j, .int .i64 ↑qn, .pointer (some ⟨g, qn * 5, none⟩), .agg #[.int .u8 ↑cq, .int .u32 tt, .int .u8 k, .int .u8 y, .int .u16 v], .tuple #[.int .u32 ar, .bool bq], .pointer (some ⟨A, 0, none⟩), .agg #[.int .u8 ↑cq, .int .u32 tt, .int .u8 k, .int .u8 y, .int .u16 v], .tuple #[.int .u32 ar, .bool bq], .int .u32 ar, .bool bq, .bool bq, .pointer (some ⟨X, 1, none⟩), .int .u32 tt, .pointer (some ⟨X, 0, none⟩), .int .u8 ↑cq, .pointer (some ⟨B, cq, none⟩), u129, u130, u131, u132, u133, u134, u135, u136, u137], defers := [] }) rfl (by kernel_rfl) (by kernel_rfl) (by kernel_rfl) (fun _ _ _ h => h) (.inl ⟨rfl, fun _ _ => by go_simp⟩) hS rfl ?_
            refine takeA (i := 6) (v := .int .u32 tc) ({ tmps := #[.slice ak j ck, .slice (some ⟨k0, off, none⟩) n2 cg, undef, undef, u4, .pointer (some ⟨A, 0, none⟩), .slice (some ⟨g, 0, none⟩) j cap, .pointer (some ⟨B, 0, none⟩), .int .i64 ↑j, u9, u10, u11, u12, u13, .pointer (some ⟨C, 0, none⟩), .int .i64 ↑j2, .pointer (some ⟨X, 0, none⟩), .int .u32 ar, .bool bq, .bool true, .bool false, .slice ak j ck, .int .i64 ↑j, .bool false, .bool false, .slice (some ⟨k0, off, none⟩) n2 cg, .int .i64 ↑n2, .bool false, .bool false, .pointer (some ⟨A, 0, none⟩), .int .i64 ↑j, .slice ak j ck, .int .i64 ↑j, .bool false, u34, u35, u36, u37, u38, u39, u40, u41, u42, u43, u44, u45, u46, u47, u48, u49, u50, u51, u52, u53, u54, u55, u56, u57, u58, u59, u60, u61, u62, u63, u64, u65, u66, u67, u68, u69, u70, u71, u72, u73, u74, u75, u76, u77, u78, u79, u80, u81, u82, u83, u84, u85, u86, u87, u88, u89, u90, u91, u92, .pointer (some ⟨A, 0, none⟩), .pointer (some ⟨C, 0, none⟩), .int .i64 ↑j2, .slice (some ⟨k0, off, none⟩) n2 cg, .int .i64 ↑n2, .bool true, .bool true, .slice (some ⟨g, 0, none⟩) j cap, .int .i64 ↑j, .bool true, .bool true, u104, u105, .slice (some ⟨g, 0, none⟩) j cap, .slice (some ⟨k0, off, none⟩) n2 cg, .int .i64 ↑j2, .pointer (some ⟨k0, off + j2, none⟩), .int .u8 ↑xN, .int .i64 ↑xN, .slice (some ⟨g, 0, none⟩) j cap, .int .i64 ↑j, .int .i64 ↑qn, .pointer (some ⟨g, qn * 5, none⟩), .agg #[.int .u8 ↑cq, .int .u32 tt, .int .u8 k, .int .u8 y, .int .u16 v], .tuple #[.int .u32 ar, .bool bq], .pointer (some ⟨A, 0, none⟩), .agg #[.int .u8 ↑cq, .int .u32 tt, .int .u8 k, .int .u8 y, .int .u16 v], .tuple #[.int .u32 ar, .bool bq], .int .u32 ar, .bool bq, .bool bq, .pointer (some ⟨X, 1, none⟩), .int .u32 tt, .pointer (some ⟨X, 0, none⟩), .int .u8 ↑cq, .pointer (some ⟨B, cq, none⟩), .int .u32 tc, u130, u131, u132, u133, u134, u135, u136, u137], defers := [] }) rfl (by kernel_rfl) (by kernel_rfl) (by kernel_rfl) (fun _ _ _ h => h) (yi_load 29 _ (.pointer (some ⟨B, cq, none⟩)) rfl rfl rfl (fun wx hw => by obtain ⟨q0, q1, q2⟩ := hc.out wx hw; go_simp)) hS rfl ?_
            refine takeA (i := 7) (v := .bool bq) ({ tmps := #[.slice ak j ck, .slice (some ⟨k0, off, none⟩) n2 cg, undef, undef, u4, .pointer (some ⟨A, 0, none⟩), .slice (some ⟨g, 0, none⟩) j cap, .pointer (some ⟨B, 0, none⟩), .int .i64 ↑j, u9, u10, u11, u12, u13, .pointer (some ⟨C, 0, none⟩), .int .i64 ↑j2, .pointer (some ⟨X, 0, none⟩), .int .u32 ar, .bool bq, .bool true, .bool false, .slice ak j ck, .int .i64 ↑j, .bool false, .bool false, .slice (some ⟨k0, off, none⟩) n2 cg, .int .i64 ↑n2, .bool false, .bool false, .pointer (some ⟨A, 0, none⟩), .int .i64 ↑j, .slice ak j ck, .int .i64 ↑j, .bool false, u34, u35, u36, u37, u38, u39, u40, u41, u42, u43, u44, u45, u46, u47, u48, u49, u50, u51, u52, u53, u54, u55, u56, u57, u58, u59, u60, u61, u62, u63, u64, u65, u66, u67, u68, u69, u70, u71, u72, u73, u74, u75, u76, u77, u78, u79, u80, u81, u82, u83, u84, u85, u86, u87, u88, u89, u90, u91, u92, .pointer (some ⟨A, 0, none⟩), .pointer (some ⟨C, 0, none⟩), .int .i64 ↑j2, .slice (some ⟨k0, off, none⟩) n2 cg, .int .i64 ↑n2, .bool true, .bool true, .slice (some ⟨g, 0, none⟩) j cap, .int .i64 ↑j, .bool true, .bool true, u104, u105, .slice (some ⟨g, 0, none⟩) j cap, .slice (some ⟨k0, off, none⟩) n2 cg, .int .i64 ↑j2, .pointer (some ⟨k0, off + j2, none⟩), .int .u8 ↑xN, .int .i64 ↑xN, .slice (some ⟨g, 0, none⟩) j cap, .int .i64 ↑j, .int .i64 ↑qn, .pointer (some ⟨g, qn * 5, none⟩), .agg #[.int .u8 ↑cq, .int .u32 tt, .int .u8 k, .int .u8 y, .int .u16 v], .tuple #[.int .u32 ar, .bool bq], .pointer (some ⟨A, 0, none⟩), .agg #[.int .u8 ↑cq, .int .u32 tt, .int .u8 k, .int .u8 y, .int .u16 v], .tuple #[.int .u32 ar, .bool bq], .int .u32 ar, .bool bq, .bool bq, .pointer (some ⟨X, 1, none⟩), .int .u32 tt, .pointer (some ⟨X, 0, none⟩), .int .u8 ↑cq, .pointer (some ⟨B, cq, none⟩), .int .u32 tc, .bool bq, u131, u132, u133, u134, u135, u136, u137], defers := [] }) rfl (by kernel_rfl) (by kernel_rfl) (by kernel_rfl) (fun _ _ _ h => h) (.inl ⟨rfl, fun _ _ => by go_simp <;> exact HQ.out⟩) hS rfl ?_
            refine takeA (i := 8) (v := .bool false) ({ tmps := #[.slice ak j ck, .slice (some ⟨k0, off, none⟩) n2 cg, undef, undef, u4, .pointer (some ⟨A, 0, none⟩), .slice (some ⟨g, 0, none⟩) j cap, .pointer (some ⟨B, 0, none⟩), .int .i64 ↑j, u9, u10, u11, u12, u13, .pointer (some ⟨C, 0, none⟩), .int .i64 ↑j2, .pointer (some ⟨X, 0, none⟩), .int .u32 ar, .bool bq, .bool true, .bool false, .slice ak j ck, .int .i64 ↑j, .bool false, .bool false, .slice (some ⟨k0, off, none⟩) n2 cg, .int .i64 ↑n2, .bool false, .bool false, .pointer (some ⟨A, 0, none⟩), .int .i64 ↑j, .slice ak j ck, .int .i64 ↑j, .bool false, u34, u35, u36, u37, u38, u39, u40, u41, u42, u43, u44, u45, u46, u47, u48, u49, u50, u51, u52, u53, u54, u55, u56, u57, u58, u59, u60, u61, u62, u63, u64, u65, u66, u67, u68, u69, u70, u71, u72, u73, u74, u75, u76, u77, u78, u79, u80, u81, u82, u83, u84, u85, u86, u87, u88, u89, u90, u91, u92, .pointer (some ⟨A, 0, none⟩), .pointer (some ⟨C, 0, none⟩), .int .i64 ↑j2, .slice (some ⟨k0, off, none⟩) n2 cg, .int .i64 ↑n2, .bool true, .bool true, .slice (some ⟨g, 0, none⟩) j cap, .int .i64 ↑j, .bool true, .bool true, u104, u105, .slice (some ⟨g, 0, none⟩) j cap, .slice (some ⟨k0, off, none⟩) n2 cg, .int .i64 ↑j2, .pointer (some ⟨k0, off + j2, none⟩), .int .u8 ↑xN, .int .i64 ↑xN, .slice (some ⟨g, 0, none⟩) j cap, .int .i64 ↑j, .int .i64 ↑qn, .pointer (some ⟨g, qn * 5, none⟩), .agg #[.int .u8 ↑cq, .int .u32 tt, .int .u8 k, .int .u8 y, .int .u16 v], .tuple #[.int .u32 ar, .bool bq], .pointer (some ⟨A, 0, none⟩), .agg #[.int .u8 ↑cq, .int .u32 tt, .int .u8 k, .int .u8 y, .int .u16 v], .tuple #[.int .u32 ar, .bool bq], .int .u32 ar, .bool bq, .bool bq, .pointer (some ⟨X, 1, none⟩), .int .u32 tt, .pointer (some ⟨X, 0, none⟩), .int .u8 ↑cq, .pointer (some ⟨B, cq, none⟩), .int .u32 tc, .bool bq, .bool false, u132, u133, u134, u135, u136, u137], defers := [] }) rfl (by kernel_rfl) (by kernel_rfl) (by kernel_rfl) (fun _ _ _ h => h) (.inl ⟨rfl, fun _ _ => by go_simp <;> cases bq <;> rfl⟩) hS rfl ?_
            refine takeA (i := 9) (v := .bool false) ({ tmps := #[.slice ak j ck, .slice (some ⟨k0, off, none⟩) n2 cg, undef, undef, u4, .pointer (some ⟨A, 0, none⟩), .slice (some ⟨g, 0, none⟩) j cap, .pointer (some ⟨B, 0, none⟩), .int .i64 ↑j, u9, u10, u11, u12, u13, .pointer (some ⟨C, 0, none⟩), .int .i64 ↑j2, .pointer (some ⟨X, 0, none⟩), .int .u32 ar, .bool bq, .bool true, .bool false, .slice ak j ck, .int .i64 ↑j, .bool false, .bool false, .slice (some ⟨k0, off, none⟩) n2 cg, .int .i64 ↑n2, .bool false, .bool false, .pointer (some ⟨A, 0, none⟩), .int .i64 ↑j, .slice ak j ck, .int .i64 ↑j, .bool false, u34, u35, u36, u37, u38, u39, u40, u41, u42, u43, u44, u45, u46, u47, u48, u49, u50, u51, u52, u53, u54, u55, u56, u57, u58, u59, u60, u61, u62, u63, u64, u65, u66, u67, u68, u69, u70, u71, u72, u73, u74, u75, u76, u77, u78, u79, u80, u81, u82, u83, u84, u85, u86, u87, u88, u89, u90, u91, u92, .pointer (some ⟨A, 0, none⟩), .pointer (some ⟨C, 0, none⟩), .int .i64 ↑j2, .slice (some ⟨k0, off, none⟩) n2 cg, .int .i64 ↑n2, .bool true, .bool true, .slice (some ⟨g, 0, none⟩) j cap, .int .i64 ↑j, .bool true, .bool true, u104, u105, .slice (some ⟨g, 0, none⟩) j cap, .slice (some ⟨k0, off, none⟩) n2 cg, .int .i64 ↑j2, .pointer (some ⟨k0, off + j2, none⟩), .int .u8 ↑xN, .int .i64 ↑xN, .slice (some ⟨g, 0, none⟩) j cap, .int .i64 ↑j, .int .i64 ↑qn, .pointer (some ⟨g, qn * 5, none⟩), .agg #[.int .u8 ↑cq, .int .u32 tt, .int .u8 k, .int .u8 y, .int .u16 v], .tuple #[.int .u32 ar, .bool bq], .pointer (some ⟨A, 0, none⟩), .agg #[.int .u8 ↑cq, .int .u32 tt, .int .u8 k, .int .u8 y, .int .u16 v], .tuple #[.int .u32 ar, .bool bq], .int .u32 ar, .bool bq, .bool bq, .pointer (some ⟨X, 1, none⟩), .int .u32 tt, .pointer (some ⟨X, 0, none⟩), .int .u8 ↑cq, .pointer (some ⟨B, cq, none⟩), .int .u32 tc, .bool bq, .bool false, .bool false, u133, u134, u135, u136, u137], defers := [] }) rfl (by kernel_rfl) (by kernel_rfl) (by kernel_rfl) (fun _ _ _ h => h) (.inl ⟨rfl, fun _ _ => rfl⟩) hS rfl ?_
            refine takeA (i := 10) (v := .pointer (some ⟨A, 0, none⟩)) ({ tmps := #[.slice ak j ck, .slice (some ⟨k0, off, none⟩) n2 cg, undef, undef, u4, .pointer (some ⟨A, 0, none⟩), .slice (some ⟨g, 0, none⟩) j cap, .pointer (some ⟨B, 0, none⟩), .int .i64 ↑j, u9, u10, u11, u12, u13, .pointer (some ⟨C, 0, none⟩), .int .i64 ↑j2, .pointer (some ⟨X, 0, none⟩), .int .u32 ar, .bool bq, .bool true, .bool false, .slice ak j ck, .int .i64 ↑j, .bool false, .bool false, .slice (some ⟨k0, off, none⟩) n2 cg, .int .i64 ↑n2, .bool false, .bool false, .pointer (some ⟨A, 0, none⟩), .int .i64 ↑j, .slice ak j ck, .int .i64 ↑j, .bool false, u34, u35, u36, u37, u38, u39, u40, u41, u42, u43, u44, u45, u46, u47, u48, u49, u50, u51, u52, u53, u54, u55, u56, u57, u58, u59, u60, u61, u62, u63, u64, u65, u66, u67, u68, u69, u70, u71, u72, u73, u74, u75, u76, u77, u78, u79, u80, u81, u82, u83, u84, u85, u86, u87, u88, u89, u90, u91, u92, .pointer (some ⟨A, 0, none⟩), .pointer (some ⟨C, 0, none⟩), .int .i64 ↑j2, .slice (some ⟨k0, off, none⟩) n2 cg, .int .i64 ↑n2, .bool true, .bool true, .slice (some ⟨g, 0, none⟩) j cap, .int .i64 ↑j, .bool true, .bool true, u104, u105, .slice (some ⟨g, 0, none⟩) j cap, .slice (some ⟨k0, off, none⟩) n2 cg, .int .i64 ↑j2, .pointer (some ⟨k0, off + j2, none⟩), .int .u8 ↑xN, .int .i64 ↑xN, .slice (some ⟨g, 0, none⟩) j cap, .int .i64 ↑j, .int .i64 ↑qn, .pointer (some ⟨g, qn * 5, none⟩), .agg #[.int .u8 ↑cq, .int .u32 tt, .int .u8 k, .int .u8 y, .int .u16 v], .tuple #[.int .u32 ar, .bool bq], .pointer (some ⟨A, 0, none⟩), .agg #[.int .u8 ↑cq, .int .u32 tt, .int .u8 k, .int .u8 y, .int .u16 v], .tuple #[.int .u32 ar, .bool bq], .int .u32 ar, .bool bq, .bool bq, .pointer (some ⟨X, 1, none⟩), .int .u32 tt, .pointer (some ⟨X, 0, none⟩), .int .u8 ↑cq, .pointer (some ⟨B, cq, none⟩), .int .u32 tc, .bool bq, .bool false, .bool false, .pointer (some ⟨A, 0, none⟩), u134, u135, u136, u137], defers := [] }) rfl (by kernel_rfl) (by kernel_rfl) (by kernel_rfl) (fun _ _ _ h => h) (.inl ⟨rfl, fun _ _ => rfl⟩) hS rfl ?_
            refine takeA (i := 11) (v := .pointer (some ⟨C, 0, none⟩)) ({ tmps := #[.slice ak j ck, .slice (some ⟨k0, off, none⟩) n2 cg, undef, undef, u4, .pointer (some ⟨A, 0, none⟩), .slice (some ⟨g, 0, none⟩) j cap, .pointer (some ⟨B, 0, none⟩), .int .i64 ↑j, u9, u10, u11, u12, u13, .pointer (some ⟨C, 0, none⟩), .int .i64 ↑j2, .pointer (some ⟨X, 0, none⟩), .int .u32 ar, .bool bq, .bool true, .bool false, .slice ak j ck, .int .i64 ↑j, .bool false, .bool false, .slice (some ⟨k0, off, none⟩) n2 cg, .int .i64 ↑n2, .bool false, .bool false, .pointer (some ⟨A, 0, none⟩), .int .i64 ↑j, .slice ak j ck, .int .i64 ↑j, .bool false, u34, u35, u36, u37, u38, u39, u40, u41, u42, u43, u44, u45, u46, u47, u48, u49, u50, u51, u52, u53, u54, u55, u56, u57, u58, u59, u60, u61, u62, u63, u64, u65, u66, u67, u68, u69, u70, u71, u72, u73, u74, u75, u76, u77, u78, u79, u80, u81, u82, u83, u84, u85, u86, u87, u88, u89, u90, u91, u92, .pointer (some ⟨A, 0, none⟩), .pointer (some ⟨C, 0, none⟩), .int .i64 ↑j2, .slice (some ⟨k0, off, none⟩) n2 cg, .int .i64 ↑n2, .bool true, .bool true, .slice (some ⟨g, 0, none⟩) j cap, .int .i64 ↑j, .bool true, .bool true, u104, u105, .slice (some ⟨g, 0, none⟩) j cap, .slice (some ⟨k0, off, none⟩) n2 cg, .int .i64 ↑j2, .pointer (some ⟨k0, off + j2, none⟩), .int .u8 ↑xN, .int .i64 ↑xN, .slice (some ⟨g, 0, none⟩) j cap, .int .i64 ↑j, .int .i64 ↑qn, .pointer (some ⟨g, qn * 5, none⟩), .agg #[.int .u8 ↑cq, .int .u32 tt, .int .u8 k, .int .u8 y, .int .u16 v], .tuple #[.int .u32 ar, .bool bq], .pointer (some ⟨A, 0, none⟩), .agg #[.int .u8 ↑cq, .int .u32 tt, .int .u8 k, .int .u8 y, .int .u16 v], .tuple #[.int .u32 ar, .bool bq], .int .u32 ar, .bool bq, .bool bq, .pointer (some ⟨X, 1, none⟩), .int .u32 tt, .pointer (some ⟨X, 0, none⟩), .int .u8 ↑cq, .pointer (some ⟨B, cq, none⟩), .int .u32 tc, .bool bq, .bool false, .bool false, .pointer (some ⟨A, 0, none⟩), .pointer (some ⟨C, 0, none⟩), u135, u136, u137], defers := [] }) rfl (by kernel_rfl) (by kernel_rfl) (by kernel_rfl) (fun _ _ _ h => h) (.inl ⟨rfl, fun _ _ => rfl⟩) hS rfl ?_
            refine wpAnyH_ready (rs := [12]) (by kernel_rfl) (by simp) ?_
            refine AllReadyH.cons rfl (fun K hK => ?_) AllReadyH.nil
            rw [if_pos (by rfl)]
            go_simp
            refine Calls.mono (SA.out) ?_
            rintro e w8 ⟨rfl, k8⟩
            have B8 := Lib.hid ((show Below w7.heap.size w7 w7.drew from (Below.refl _ w7).drew).trans (Kept.below k8 (Nat.le_refl _) (fun _ h => h.elim)))
            clear k8
            refine hK.out ({ tmps := #[.slice ak j ck, .slice (some ⟨k0, off, none⟩) n2 cg, undef, undef, u4, .pointer (some ⟨A, 0, none⟩), .slice (some ⟨g, 0, none⟩) j cap, .pointer (some ⟨B, 0, none⟩), .int .i64 ↑j, u9, u10, u11, u12, u13, .pointer (some ⟨C, 0, none⟩), .int .i64 ↑j2, .pointer (some ⟨X, 0, none⟩), .int .u32 ar, .bool bq, .bool true, .bool false, .slice ak j ck, .int .i64 ↑j, .bool false, .bool false, .slice (some ⟨k0, off, none⟩) n2 cg, .int .i64 ↑n2, .bool false, .bool false, .pointer (some ⟨A, 0, none⟩), .int .i64 ↑j, .slice ak j ck, .int .i64 ↑j, .bool false, u34, u35, u36, u37, u38, u39, u40, u41, u42, u43, u44, u45, u46, u47, u48, u49, u50, u51, u52, u53, u54, u55, u56, u57, u58, u59, u60, u61, u62, u63, u64, u65, u66, u67, u68, u69, u70, u71, u72, u73, u74, u75, u76, u77, u78, u79, u80, u81, u82, u83, u84, u85, u86, u87, u88, u89, u90, u91, u92, .pointer (some ⟨A, 0, none⟩), .pointer (some ⟨C, 0, none⟩), .int .i64 ↑j2, .slice (some ⟨k0, off, none⟩) n2 cg, .int .i64 ↑n2, .bool true, .bool true, .slice (some ⟨g, 0, none⟩) j cap, .int .i64 ↑j, .bool true, .bool true, u104, u105, .slice (some ⟨g, 0, none⟩) j cap, .slice (some ⟨k0, off, none⟩) n2 cg, .int .i64 ↑j2, .pointer (some ⟨k0, off + j2, none⟩), .int .u8 ↑xN, .int .i64 ↑xN, .slice (some ⟨g, 0, none⟩) j cap, .int .i64 ↑j, .int .i64 ↑qn, .pointer (some ⟨g, qn * 5, none⟩), .agg #[.int .u8 ↑cq, .int .u32 tt, .int .u8 k, .int .u8 y, .int .u16 v], .tuple #[.int .u32 ar, .bool bq], .pointer (some ⟨A, 0, none⟩), .agg #[.int .u8 ↑cq, .int .u32 tt, .int .u8 k, .int .u8 y, .int .u16 v], .tuple #[.int .u32 ar, .bool bq], .int .u32 ar, .bool bq, .bool bq, .pointer (some ⟨X, 1, none⟩), .int .u32 tt, .pointer (some ⟨X, 0, none⟩), .int .u8 ↑cq, .pointer (some ⟨B, cq, none⟩), .int .u32 tc, .bool bq, .bool false, .bool false, .pointer (some ⟨A, 0, none⟩), .pointer (some ⟨C, 0, none⟩), .bool true, u136, u137], defers := [] }) _ (B8.out) (fun hS => ?_)
            clear hK K
            refine takeA (i := 13) (v := .bool false) ({ tmps := #[.slice ak j ck, .slice (some ⟨k0, off, none⟩) n2 cg, undef, undef, u4, .pointer (some ⟨A, 0, none⟩), .slice (some ⟨g, 0, none⟩) j cap, .pointer (some ⟨B, 0, none⟩), .int .i64 ↑j, u9, u10, u11, u12, u13, .pointer (some ⟨C, 0, none⟩), .int .i64 ↑j2, .pointer (some ⟨X, 0, none⟩), .int .u32 ar, .bool bq, .bool true, .bool false, .slice ak j ck, .int .i64 ↑j, .bool false, .bool false, .slice (some ⟨k0, off, none⟩) n2 cg, .int .i64 ↑n2, .bool false, .bool false, .pointer (some ⟨A, 0, none⟩), .int .i64 ↑j, .slice ak j ck, .int .i64 ↑j, .bool false, u34, u35, u36, u37, u38, u39, u40, u41, u42, u43, u44, u45, u46, u47, u48, u49, u50, u51, u52, u53, u54, u55, u56, u57, u58, u59, u60, u61, u62, u63, u64, u65, u66, u67, u68, u69, u70, u71, u72, u73, u74, u75, u76, u77, u78, u79, u80, u81, u82, u83, u84, u85, u86, u87, u88, u89, u90, u91, u92, .pointer (some ⟨A, 0, none⟩), .pointer (some ⟨C, 0, none⟩), .int .i64 ↑j2, .slice (some ⟨k0, off, none⟩) n2 cg, .int .i64 ↑n2, .bool true, .bool true, .slice (some ⟨g, 0, none⟩) j cap, .int .i64 ↑j, .bool true, .bool true, u104, u105, .slice (some ⟨g, 0, none⟩) j cap, .slice (some ⟨k0, off, none⟩) n2 cg, .int .i64 ↑j2, .pointer (some ⟨k0, off + j2, none⟩), .int .u8 ↑xN, .int .i64 ↑xN, .slice (some ⟨g, 0, none⟩) j cap, .int .i64 ↑j, .int .i64 ↑qn, .pointer (some ⟨g, qn * 5, none⟩), .agg #[.int .u8 ↑cq, .int .u32 tt, .int .u8 k, .int .u8 y, .int .u16 v], .tuple #[.int .u32 ar, .bool bq], .pointer (some ⟨A, 0, none⟩), .agg #[.int .u8 ↑cq, .int .u32 tt, .int .u8 k, .int .u8 y, .int .u16 v], .tuple #[.int .u32 ar, .bool bq], .int .u32 ar, .bool bq, .bool bq, .pointer (some ⟨X, 1, none⟩), .int .u32 tt, .pointer (some ⟨X, 0, none⟩), .int .u8 ↑cq, .pointer (some ⟨B, cq, none⟩), .int .u32 tc, .bool bq, .bool false, .bool false, .pointer (some ⟨A, 0, none⟩), .pointer (some ⟨C, 0, none⟩), .bool true, .bool false, u137], defers := [] }) rfl (by kernel_rfl) (by kernel_rfl) (by kernel_rfl) (fun _ _ _ h => h) (.inl ⟨rfl, fun _ _ => rfl⟩) hS rfl ?_
            refine takeA (i := 14) (v := .bool false) ({ tmps := #[.slice ak j ck, .slice (some ⟨k0, off, none⟩) n2 cg, undef, undef, u4, .pointer (some ⟨A, 0, none⟩), .slice (some ⟨g, 0, none⟩) j cap, .pointer (some ⟨B, 0, none⟩), .int .i64 ↑j, u9, u10, u11, u12, u13, .pointer (some ⟨C, 0, none⟩), .int .i64 ↑j2, .pointer (some ⟨X, 0, none⟩), .int .u32 ar, .bool bq, .bool true, .bool false, .slice ak j ck, .int .i64 ↑j, .bool false, .bool false, .slice (some ⟨k0, off, none⟩) n2 cg, .int .i64 ↑n2, .bool false, .bool false, .pointer (some ⟨A, 0, none⟩), .int .i64 ↑j, .slice ak j ck, .int .i64 ↑j, .bool false, u34, u35, u36, u37, u38, u39, u40, u41, u42, u43, u44, u45, u46, u47, u48, u49, u50, u51, u52, u53, u54, u55, u56, u57, u58, u59, u60, u61, u62, u63, u64, u65, u66, u67, u68, u69, u70, u71, u72, u73, u74, u75, u76, u77, u78, u79, u80, u81, u82, u83, u84, u85, u86, u87, u88, u89, u90, u91, u92, .pointer (some ⟨A, 0, none⟩), .pointer (some ⟨C, 0, none⟩), .int .i64 ↑j2, .slice (some ⟨k0, off, none⟩) n2 cg, .int .i64 ↑n2, .bool true, .bool true, .slice (some ⟨g, 0, none⟩) j cap, .int .i64 ↑j, .bool true, .bool true, u104, u105, .slice (some ⟨g, 0, none⟩) j cap, .slice (some ⟨k0, off, none⟩) n2 cg, .int .i64 ↑j2, .pointer (some ⟨k0, off + j2, none⟩), .int .u8 ↑xN, .int .i64 ↑xN, .slice (some ⟨g, 0, none⟩) j cap, .int .i64 ↑j, .int .i64 ↑qn, .pointer (some ⟨g, qn * 5, none⟩), .agg #[.int .u8 ↑cq, .int .u32 tt, .int .u8 k, .int .u8 y, .int .u16 v], .tuple #[.int .u32 ar, .bool bq], .pointer (some ⟨A, 0, none⟩), .agg #[.int .u8 ↑cq, .int .u32 tt, .int .u8 k, .int .u8 y, .int .u16 v], .tuple #[.int .u32 ar, .bool bq], .int .u32 ar, .bool bq, .bool bq, .pointer (some ⟨X, 1, none⟩), .int .u32 tt, .pointer (some ⟨X, 0, none⟩), .int .u8 ↑cq, .pointer (some ⟨B, cq, none⟩), .int .u32 tc, .bool bq, .bool false, .bool false, .pointer (some ⟨A, 0, none⟩), .pointer (some ⟨C, 0, none⟩), .bool true, .bool false, .bool false], defers := [] }) rfl (by kernel_rfl) (by kernel_rfl) (by kernel_rfl) (fun _ _ _ h => h) (.inl ⟨rfl, fun _ _ => rfl⟩) hS rfl ?_
            refine wpAnyH_done (by kernel_rfl) ?_ _
            clear hS
            go_wp2_with fail
            exact ⟨⟨j2 + 1, by go_num, by omega, Lib.hid (P7.out.below B8.out)⟩, by simp [intOf]; omega⟩
        · obtain rfl : j2 = n2 := by omega
          go_wp2_with fail
          go_ret
          exact ⟨rfl, P.out.1.2.2.1⟩

theorem walk (ak : Option Addr) (l : List Int) (ck : Nat) (ag : Option Addr) (l2 : List Int) (cg : Nat) (w : World)
    (hb : Bytes w ak l) (hby : ∀ x ∈ l, isByte x) (_hc : l.length ≤ ck) (_hn : ak = none → ck = 0) (hb2 : Bytes w ag l2) (hby2 : ∀ x ∈ l2, isByte x) (_hc2 : l2.length ≤ cg) (_hn2 : ag = none → cg = 0) :
    Calls Try.prog 4 #[.slice ak l.length ck, .slice ag l2.length cg] w fun e w' => e = .returned (.bool true) ∧ Below w.heap.size w w' := by
  by_cases h1 : l.length ≤ 40
  · by_cases h2 : l2.length ≤ 60
    · exact core ak l ck ag l2 cg w hb hby hb2 hby2 h1 h2
    · have KN := Lib.hid (known_any w)
      have d1 : decide (40 < (l.length : Int)) = false := by rw [decide_eq_false_iff_not]; omega
      have d2 : decide (60 < (l2.length : Int)) = true := by rw [decide_eq_true_iff]; omega
      generalize l.length = n at *
      generalize l2.length = m at *
      clear hb hby hb2 hby2 h1 h2
      go_enter Try.func4, Try.ntmps4
      go_wp2_with fail
      refine KN.out.mono ?_
      rintro e w1 ⟨rfl, b1⟩
      replace b1 := Lib.hid b1
      go_wp2_with fail
      go_ret
      exact ⟨rfl, b1.out⟩
  · have KN := Lib.hid (known_any w)
    have d1 : decide (40 < (l.length : Int)) = true := by rw [decide_eq_true_iff]; omega
    generalize l.length = n at *
    generalize l2.length = m at *
    clear hb hby hb2 hby2 h1
    go_enter Try.func4, Try.ntmps4
    go_wp2_with fail
    refine KN.out.mono ?_
    rintro e w1 ⟨rfl, b1⟩
    replace b1 := Lib.hid b1
    go_wp2_with fail
    go_ret
    exact ⟨rfl, b1.out⟩


theorem lifted (os : Os) (started : os.Started) (H : Type) (enc : TypeId × Value → H) :
    ReturnsInHanded {} Try.checked os 4 .any (Rows.serviceOnceSpec.pre6 enc Try.prog Try.f4 Rows.serviceOnceRow.domain false) (Rows.serviceOnceSpec.post enc Try.prog Try.f4 false true false false) := by
  refine returnsInHanded_of_change (C := Try.checked) own started (by kernel_rfl) Try.func4
    (ChangeSpec.witness6 (enc := enc) (C := Try.checked) false ⟨#[], #[.slice none 0 0, .slice none 0 0], []⟩ 8 (by kernel_rfl) (by kernel_rfl) (by kernel_rfl) (by kernel_rfl)) ?_
  intro W base args ds gs before hval0 hW hcnd _
  have hval : ∀ (j : Nat) t v, Try.f4.params[j]? = some t → args[j]? = some v → Value.okWide Try.prog W .any base t v := hval0
  have hW' := hW
  obtain ⟨p, q, hA0, hV, rfl, hfz, hnd⟩ := hW
  have hA : DataW.TrodAll enc Try.prog W 0 (fun _ => true) true Try.f4.params.toList args.toList ds p := hA0
  rw [Try.params4] at hA hval
  obtain ⟨v0, vs0, d0, ds0, p0, q0, hargs, rfl, rfl, h0, r0⟩ := trodAll_cons hA
  obtain ⟨v1, vs1, d1, ds1, p1, q1, rfl, rfl, rfl, h1, r1⟩ := trodAll_cons r0
  obtain ⟨rfl, rfl, rfl⟩ := trodAll_nil r1
  obtain rfl : args = #[v0, v1] := by cases args; simp_all
  obtain ⟨rfl, rfl⟩ := trodVars_none hV
  have k0 := h0
  have lt0 : ∀ x ∈ p0, x.block < W.heap.size := by obtain ⟨m, hm⟩ := k0; exact DataW.trod_lt m _ _ _ hm
  obtain ⟨ax0, ln0, cx0, rfl⟩ := okWide_slice Try.underlying43 (hval 0 43 v0 rfl rfl)
  obtain ⟨a0, l0, c0, hv0, hb0, hby0, hcap0, hno0⟩ : ∃ (ao : Option Addr) (l : List Int) (cap : Nat), Value.slice ax0 ln0 cx0 = .slice ao l.length cap ∧ Bytes W ao l ∧ (∀ y ∈ l, isByte y) ∧ l.length ≤ cap ∧ (ao = none → cap = 0) := by
    obtain ⟨fuel, hf⟩ := h0
    exact open_bytes (by simpa [Value.cells] using hf)
  injection hv0 with hv0a hv0b hv0c
  subst hv0a hv0b hv0c
  have k1 := h1
  have lt1 : ∀ x ∈ p1, x.block < W.heap.size := by obtain ⟨m, hm⟩ := k1; exact DataW.trod_lt m _ _ _ hm
  obtain ⟨ax1, ln1, cx1, rfl⟩ := okWide_slice Try.underlying43 (hval 1 43 v1 rfl rfl)
  obtain ⟨a1, l1, c1, hv1, hb1, hby1, hcap1, hno1⟩ : ∃ (ao : Option Addr) (l : List Int) (cap : Nat), Value.slice ax1 ln1 cx1 = .slice ao l.length cap ∧ Bytes W ao l ∧ (∀ y ∈ l, isByte y) ∧ l.length ≤ cap ∧ (ao = none → cap = 0) := by
    obtain ⟨fuel, hf⟩ := h1
    exact open_bytes (by simpa [Value.cells] using hf)
  injection hv1 with hv1a hv1b hv1c
  subst hv1a hv1b hv1c
  clear hA0 hval0
  refine (walk ax0 l0 cx0 ax1 l1 cx1 W hb0 hby0 hcap0 hno0 hb1 hby1 hcap1 hno1).mono fun e W' ⟨he, bel⟩ => ?_
  subst he
  exact ⟨_, rfl, _, _, _, [], _, [], hW', trodAll_mk1 (shut_bool Try.underlying4 _), (trodAll_cons_mk (Below.trod laidOut (by kernel_rfl) (of_decide_eq_true (by kernel_rfl)) k0 bel lt0) (trodAll_cons_mk (Below.trod laidOut (by kernel_rfl) (of_decide_eq_true (by kernel_rfl)) k1 bel lt1) trodAll_mk0)), rfl, bel.frame _, fun h => by cases h⟩

theorem over : Rows.serviceOnceRow.holds Try.pinned (OpenSpec.ofChange Rows.serviceOnceSpec) :=
  OpenClaim.holds_of_wide 4 Try.f4 rfl rfl rfl rfl rfl rfl rfl ⟨rfl, rfl, rfl, rfl, rfl⟩ rfl rfl rfl rfl rfl (by kernel_rfl) Try.func4 (by kernel_rfl)
    (of_decide_eq_true (by kernel_rfl)) (by unfold Func.isWrapper; first | (rw [if_pos (by decide +kernel)]; kernel_rfl) | (rw [if_neg (by decide +kernel)]; exact ⟨rfl, rfl⟩))
    (fun os started H enc _ => lifted os started H enc)

theorem proved : Rows.ServiceOnceSaid := over
#print axioms proved
end Go.Proofs.Ytphakceboohbhaa.serviceOnce
