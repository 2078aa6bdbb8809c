/- Load: what it answers, what it makes. -/
import Derived.Test.YtfbcjigekmgbnaaTake
namespace Go.Proofs.Ytfbcjigekmgbnaa
open Go.RowKit
set_option maxRecDepth 100000

/-- what a Load leaves: q is what the page would be told as, l what came -/
def Loaded (w w' : World) (e : Ending) (B : Nat) (q l : List Int) (V T R V' T' R' : Nat → Int) : Prop :=
  Kept (fun i => i = B) w w' ∧ (q = l ∧ e = .returned (.int .i64 0) ∧ Mp w' B V' T' R' ∨ q ≠ l ∧ e = .returned (.int .i64 90) ∧ Mp w' B V T R)

theorem len_bound {n : Nat} (h : n ≤ 64) : ¬ (64 : Int) < n := by omega

set_option maxHeartbeats 1600000 in
theorem load_keys (w : World) (B : Nat) (p : Nat) (hp : p < 7) (V T R : Nat → Int) (h : Mp w B V T R) (ao : Option Addr) (cap : Nat) (l : List Int) (hb : Bytes w ao l) (hnone : ao = none → l = [] ∧ cap = 0) (hl : l.length ≤ 64) (hby : ∀ x ∈ l, isByte x) :
    Calls Try.prog 30 #[.pointer (some ⟨B, 0, none⟩), .int .i64 p, .slice ao l.length cap] w fun e w' => Loaded w w' e B (pageB (rdV nul l) nul nul p) l V T R (mix V (rdV nul l) p 64) T R := by
  have P := isPage_any w p
  rw [decide_eq_true (by omega)] at P
  have P := Lib.hid P
  have HM := Lib.hid h
  have hlt := Lib.hid h.lt
  have hl64 := len_bound hl
  have h7 : ¬ (p : Int) = 7 := by omega
  have F0 := mp_new w
  have hk0 : Below w.heap.size w (w.alloc (.cells (mapL nul nul nul).toArray 66)) := (Below.refl _ _).alloc (Nat.le_refl _) _
  have hs0 : (w.alloc (.cells (mapL nul nul nul).toArray 66)).heap.size = w.heap.size + 1 := by simp
  have NW := Lib.hid (map_new w)
  obtain ⟨w0, hw0⟩ : ∃ w0, w0 = w.alloc (.cells (mapL nul nul nul).toArray 66) := ⟨_, rfl⟩
  rw [← hw0] at F0 hk0 NW hs0
  have RD := readValues_any w0 w.heap.size nul nul nul F0 ao cap l (bytes_below hb hk0 (Nat.le_refl _)) hnone (by omega) hby
  have H0 := Lib.hid (And.intro hb (And.intro hnone (And.intro hby (And.intro hk0 (And.intro hs0 hl)))))
  obtain ⟨n, hn⟩ : ∃ n, n = l.length := ⟨_, rfl⟩
  rw [← hn] at RD hl64 ⊢
  have RD := Lib.hid RD
  have HN := Lib.hid hn
  clear h hb hnone hby hk0 hs0 F0 hw0 hn hl
  go_enter Try.func30, Try.ntmps30
  go_wp2_with fail
  refine P.out.mono ?_
  rintro e w1 ⟨rfl, e1⟩
  obtain rfl := e1.symm
  go_wp2_with fail
  refine NW.out.mono ?_
  rintro e w1 ⟨rfl, rfl⟩
  go_wp2_with fail
  refine RD.out.mono ?_
  rintro e w1 ⟨rfl, k1, m1⟩
  have H1 := Lib.hid (And.intro k1 m1)
  have PG := Lib.hid (page_any w1 w.heap.size p _ _ _ m1 (by omega))
  have ES := Lib.hid (pageB_short (rdV nul l) nul nul p)
  have EB := Lib.hid (pageB_bytes (rdV nul l) nul nul p)
  generalize hq : pageB (rdV nul l) nul nul p = q at PG ES EB ⊢
  have HQ := Lib.hid hq
  clear k1 m1 hq P NW RD
  go_wp2_with fail
  refine PG.out.mono ?_
  rintro e w2 ⟨ap, cp, rfl, n2, b2⟩
  have hsz : w.heap.size ≤ w1.heap.size := by have := H0.out.2.2.2.1.size; have := H1.out.1.size; omega
  have hBL : Below w.heap.size w w2 := (H0.out.2.2.2.1.trans (H1.out.1.below (by have := H0.out.2.2.2.2.1; omega) (fun k e => by omega))).trans (b2.mono hsz)
  have hb2 : Bytes w2 ao l := bytes_below H0.out.1 hBL (Nat.le_refl _)
  have EQ := equal_any w2 ap ao cp cap q l (own_bytes n2.1) hb2 (fun e => (n2.none e).1) (fun e => (H0.out.2.1 e).1) EB.out H0.out.2.2.1
  rw [← HN.out] at EQ
  have EQ := Lib.hid EQ
  have H2 := Lib.hid (And.intro n2 (And.intro b2 hBL))
  clear n2 b2 hsz hBL hb2 PG
  go_wp2_with fail
  refine EQ.out.mono ?_
  rintro e w3 ⟨rfl, rfl⟩
  by_cases ok : q = l
  · have OK := Lib.hid ok
    have hd : decide (q = l) = true := decide_eq_true ok
    rw [hd]
    have hT1 : Mp w2 B V T R := HM.out.below H2.out.2.2 hlt.out
    have hT2 := H1.out.2.below H2.out.2.1 H1.out.2.lt
    have TK := Lib.hid (take_keys w2 B w.heap.size p _ _ _ _ _ _ hT1 hT2 hp (by have := hlt.out; omega))
    clear hd ok hT1 hT2 EQ
    go_wp2_with fail
    refine TK.out.mono ?_
    rintro e w4 ⟨rfl, k4, m4⟩
    have H4 := Lib.hid (And.intro k4 m4)
    clear k4 m4
    go_wp2_with fail
    go_ret
    exact ⟨(Kept.ofBelow H2.out.2.2).trans H4.out.1 (fun i _ e => e), .inl ⟨HQ.out.trans OK.out, rfl, H4.out.2⟩⟩
  · have OK := Lib.hid ok
    have hd : decide (q = l) = false := decide_eq_false ok
    rw [hd]
    clear hd ok EQ
    go_wp2_with fail
    go_ret
    exact ⟨Kept.ofBelow H2.out.2.2, .inr ⟨fun e => OK.out (HQ.out.symm.trans e), rfl, HM.out.below H2.out.2.2 hlt.out⟩⟩

set_option maxHeartbeats 1600000 in
theorem load_last (w : World) (B : Nat) (V T R : Nat → Int) (h : Mp w B V T R) (ao : Option Addr) (cap : Nat) (l : List Int) (hb : Bytes w ao l) (hnone : ao = none → l = [] ∧ cap = 0) (hl : l.length ≤ 64) (hby : ∀ x ∈ l, isByte x) :
    Calls Try.prog 30 #[.pointer (some ⟨B, 0, none⟩), .int .i64 7, .slice ao l.length cap] w fun e w' => Loaded w w' e B (pageB nul (rdC (nul, nul) l).1 (rdC (nul, nul) l).2 7) l V T R V (rdC (nul, nul) l).1 (rdC (nul, nul) l).2 := by
  have P := isPage_any w 7
  rw [decide_eq_true (by omega)] at P
  have P := Lib.hid P
  have HM := Lib.hid h
  have hlt := Lib.hid h.lt
  have hl64 := len_bound hl
  have F0 := mp_new w
  have hk0 : Below w.heap.size w (w.alloc (.cells (mapL nul nul nul).toArray 66)) := (Below.refl _ _).alloc (Nat.le_refl _) _
  have hs0 : (w.alloc (.cells (mapL nul nul nul).toArray 66)).heap.size = w.heap.size + 1 := by simp
  have NW := Lib.hid (map_new w)
  obtain ⟨w0, hw0⟩ : ∃ w0, w0 = w.alloc (.cells (mapL nul nul nul).toArray 66) := ⟨_, rfl⟩
  rw [← hw0] at F0 hk0 NW hs0
  have RD := readClients_any w0 w.heap.size nul (nul, nul) F0 ao cap l (bytes_below hb hk0 (Nat.le_refl _)) hnone (by omega) hby
  have H0 := Lib.hid (And.intro hb (And.intro hnone (And.intro hby (And.intro hk0 (And.intro hs0 hl)))))
  obtain ⟨n, hn⟩ : ∃ n, n = l.length := ⟨_, rfl⟩
  rw [← hn] at RD hl64 ⊢
  have RD := Lib.hid RD
  have HN := Lib.hid hn
  clear h hb hnone hby hk0 hs0 F0 hw0 hn hl
  go_enter Try.func30, Try.ntmps30
  go_wp2_with fail
  refine P.out.mono ?_
  rintro e w1 ⟨rfl, e1⟩
  obtain rfl := e1.symm
  go_wp2_with fail
  refine NW.out.mono ?_
  rintro e w1 ⟨rfl, rfl⟩
  go_wp2_with fail
  refine RD.out.mono ?_
  rintro e w1 ⟨rfl, k1, m1⟩
  have H1 := Lib.hid (And.intro k1 m1)
  have PG := Lib.hid (page_any w1 w.heap.size 7 _ _ _ m1 (by omega))
  have ES := Lib.hid (pageB_short nul (rdC (nul, nul) l).1 (rdC (nul, nul) l).2 7)
  have EB := Lib.hid (pageB_bytes nul (rdC (nul, nul) l).1 (rdC (nul, nul) l).2 7)
  generalize hq : pageB nul (rdC (nul, nul) l).1 (rdC (nul, nul) l).2 7 = q at PG ES EB ⊢
  have HQ := Lib.hid hq
  clear k1 m1 hq P NW RD
  go_wp2_with fail
  refine PG.out.mono ?_
  rintro e w2 ⟨ap, cp, rfl, n2, b2⟩
  have hsz : w.heap.size ≤ w1.heap.size := by have := H0.out.2.2.2.1.size; have := H1.out.1.size; omega
  have hBL : Below w.heap.size w w2 := (H0.out.2.2.2.1.trans (H1.out.1.below (by have := H0.out.2.2.2.2.1; omega) (fun k e => by omega))).trans (b2.mono hsz)
  have hb2 : Bytes w2 ao l := bytes_below H0.out.1 hBL (Nat.le_refl _)
  have EQ := equal_any w2 ap ao cp cap q l (own_bytes n2.1) hb2 (fun e => (n2.none e).1) (fun e => (H0.out.2.1 e).1) EB.out H0.out.2.2.1
  rw [← HN.out] at EQ
  have EQ := Lib.hid EQ
  have H2 := Lib.hid (And.intro n2 (And.intro b2 hBL))
  clear n2 b2 hsz hBL hb2 PG
  go_wp2_with fail
  refine EQ.out.mono ?_
  rintro e w3 ⟨rfl, rfl⟩
  by_cases ok : q = l
  · have OK := Lib.hid ok
    have hd : decide (q = l) = true := decide_eq_true ok
    rw [hd]
    have hT1 : Mp w2 B V T R := HM.out.below H2.out.2.2 hlt.out
    have hT2 := H1.out.2.below H2.out.2.1 H1.out.2.lt
    have TK := Lib.hid (take_last w2 B w.heap.size _ _ _ _ _ _ hT1 hT2)
    clear hd ok hT1 hT2 EQ
    go_wp2_with fail
    refine TK.out.mono ?_
    rintro e w4 ⟨rfl, k4, m4⟩
    have H4 := Lib.hid (And.intro k4 m4)
    clear k4 m4
    go_wp2_with fail
    go_ret
    exact ⟨(Kept.ofBelow H2.out.2.2).trans H4.out.1 (fun i _ e => e), .inl ⟨HQ.out.trans OK.out, rfl, H4.out.2⟩⟩
  · have OK := Lib.hid ok
    have hd : decide (q = l) = false := decide_eq_false ok
    rw [hd]
    clear hd ok EQ
    go_wp2_with fail
    go_ret
    exact ⟨Kept.ofBelow H2.out.2.2, .inr ⟨fun e => OK.out (HQ.out.symm.trans e), rfl, HM.out.below H2.out.2.2 hlt.out⟩⟩
end Go.Proofs.Ytfbcjigekmgbnaa
