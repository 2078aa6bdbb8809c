/- What each function of package wire that writes leaves behind: the bytes that it adds, and that nothing else has changed. -/
import Derived.Test.YtbpfkeeikhhlnaaGreatDoorC01
import Derived.Test.YtbpfkeeikhhlnaaGreatDoorRows
import Derived.WalkKit
import Derived.WalkSpells
import Derived.WalkLawsBesides
import Derived.OwnWalk
import Derived.Maps.AppendAt
import Derived.Laws.OwnMore
import Derived.Laws.BytesArg
import Derived.OneCell
import Derived.Below
import Derived.Lib.Hide
import Derived.Laws.BitsAllLaws
namespace Go.Proofs.YtbpfkeeikhhlnaaGreatDoor
open Go.RowKit
set_option maxRecDepth 100000

/-- what a call that appends l to a writer ends with, whatever lies behind the length -/
theorem app_more {w w1 w' : World} {B n n' cap cap' : Nat} {ao ao' : Option Addr} {g g1 : Option Nat} {xs' : List Int} (hb1 : w1.heap[B]? = some (.cells #[.slice ao n cap] 107 (0, 0)))
    (hk0 : Kept (fun k => k = B ∨ some k = g) w w1) (hg : (Value.slice ao n cap).ownBlock = g1) (hne : g1 ≠ some B) (hg1 : g1 = g ∨ ∃ k, g1 = some k ∧ w.heap.size ≤ k)
    (ho' : w'.ownsRow 0 5 1 (.slice ao' n' cap') n' (vals xs')) (hk' : Kept (fun k => some k = (Value.slice ao n cap).ownBlock) w1 w')
    (hg' : (Value.slice ao' n' cap').ownBlock = (Value.slice ao n cap).ownBlock ∨ (Value.slice ao' n' cap').ownBlock = some w1.heap.size) :
    w'.heap[B]? = some (.cells #[.slice ao n cap] 107 (0, 0)) ∧ Wrote w B g xs' (w'.setCell ⟨B, 0, none⟩ (.slice ao' n' cap')) := by
  obtain ⟨h1, h2⟩ := app_done (w := w1) hb1 (Kept.refl _ _) hg hne (lt_of_block hb1) ho' hk' hg'
  exact ⟨h1, Wrote.trans hk0 hg1 h2⟩

set_option maxHeartbeats 1600000 in
theorem bytes_some (w : World) (B : Nat) (g : Option Nat) (xs : List Int) (ad : Addr) (cap : Nat) (l : List Int) (h : Wr w B g xs) (hb : Bytes w (some ad) l) (hcap : l.length ≤ cap) (hl : xs.length ≤ 900000) (hl2 : l.length ≤ 60000)
    (hB : 0 < l.length → ad.block ≠ B) (hg : 0 < l.length → some ad.block ≠ g) :
    Calls Tryz.prog 70 #[.pointer (some ⟨B, 0, none⟩), .slice (some ad) l.length cap] w fun e w' => e = .returned (.tuple #[]) ∧ Wrote w B g (xs ++ [(l.length : Int) / 256 % 256, (l.length : Int) % 256] ++ l) w' := by
  have HH := Lib.hid h
  have HC := Lib.hid hb
  have HB := Lib.hid hB
  have HG := Lib.hid hg
  clear h hb hB hg
  generalize hm : l.length = m at *
  have HM := Lib.hid hm
  clear hm
  have em : min (m : Int) 65535 = m := by omega
  have en : max (m : Int) 0 = m := by omega
  go_enter Tryz.func70, Tryz.ntmps70
  go_wp2_with fail
  refine (u16_any _ _ _ _ _ HH.out (by omega)).mono ?_
  rintro e w1 ⟨rfl, g1, ⟨ao, n, c1, hb1, ho1, hg1, hne1⟩, k1, q1⟩
  have hn : n ≤ 900002 := by have := ho1.1; simp [vals] at this; omega
  have HB1 := Lib.hid hb1
  have HO1 := Lib.hid ho1
  have HG1 := Lib.hid hg1
  have HN1 := Lib.hid hne1
  have HS := Lib.hid (bytes_kept HC.out k1 (fun a e hpos hS => by
    injection e with e; subst e
    rcases hS with hS | hS
    · exact HB.out (HM.out ▸ hpos) hS
    · exact HG.out (HM.out ▸ hpos) hS))
  have K1 := Lib.hid k1
  have Q1 := Lib.hid q1
  have hc1 := cell_of_one hb1
  clear hb1 ho1 hg1 hne1 k1 q1
  go_wp2_with (at_builtin
               refine wpList_app _ rfl (.tmp 18) (.tmp 19) rfl (.slice ao n c1) n _ rfl HO1.out (some ad) m cap l rfl HM.out HS.out (by intro h; cases h) (by omega) ?_
               intro ao' cap' w' ho' hk' hg'
               obtain ⟨hb', hw'⟩ := app_more HB1.out K1.out HG1.out HN1.out Q1.out ho' hk' hg'
               have hc' := cell_of_one hb'
               have hf' := free_of_one hb'
               have HW' := Lib.hid hw'
               clear ho' hk' hg' hb' hw')
  go_end0
  exact ⟨rfl, HW'.out⟩

set_option maxHeartbeats 1600000 in
theorem bytes_none (w : World) (B : Nat) (g : Option Nat) (xs : List Int) (h : Wr w B g xs) (hl : xs.length ≤ 900000) :
    Calls Tryz.prog 70 #[.pointer (some ⟨B, 0, none⟩), .slice none 0 0] w fun e w' => e = .returned (.tuple #[]) ∧ Wrote w B g (xs ++ [0, 0]) w' := by
  have HH := Lib.hid h
  clear h
  go_enter Tryz.func70, Tryz.ntmps70
  go_wp2_with fail
  refine (u16_any _ _ _ _ _ HH.out (by omega)).mono ?_
  rintro e w1 ⟨rfl, g1, ⟨ao, n, c1, hb1, ho1, hg1, hne1⟩, k1, q1⟩
  have hn : n ≤ 900002 := by have := ho1.1; simp [vals] at this; omega
  have HB1 := Lib.hid hb1
  have HO1 := Lib.hid ho1
  have HG1 := Lib.hid hg1
  have HN1 := Lib.hid hne1
  have K1 := Lib.hid k1
  have Q1 := Lib.hid q1
  have hc1 := cell_of_one hb1
  clear hb1 ho1 hg1 hne1 k1 q1
  go_wp2_with (at_builtin
               refine wpList_app _ rfl (.tmp 18) (.tmp 19) rfl (.slice ao n c1) n _ rfl HO1.out none 0 0 [] rfl rfl (fun i h => by simp at h) (by intro h; exact ⟨rfl, rfl⟩) (by omega) ?_
               intro ao' cap' w' ho' hk' hg'
               obtain ⟨hb', hw'⟩ := app_more HB1.out K1.out HG1.out HN1.out Q1.out ho' hk' hg'
               have hc' := cell_of_one hb'
               have hf' := free_of_one hb'
               rw [List.append_nil] at hw'
               have HW' := Lib.hid hw'
               clear ho' hk' hg' hb' hw')
  go_end0
  exact ⟨rfl, HW'.out⟩

theorem bytes_any (w : World) (B : Nat) (g : Option Nat) (xs : List Int) (ao : Option Addr) (cap : Nat) (l : List Int) (h : Wr w B g xs) (hb : Bytes w ao l) (hcap : l.length ≤ cap) (hnone : ao = none → cap = 0) (hl : xs.length ≤ 900000) (hl2 : l.length ≤ 60000)
    (hS : ∀ ad, ao = some ad → 0 < l.length → ad.block ≠ B ∧ some ad.block ≠ g) :
    Calls Tryz.prog 70 #[.pointer (some ⟨B, 0, none⟩), .slice ao l.length cap] w fun e w' => e = .returned (.tuple #[]) ∧ Wrote w B g (xs ++ lenBytes l) w' := by
  cases ao with
  | none =>
    obtain rfl := hnone rfl
    obtain rfl : l = [] := List.eq_nil_of_length_eq_zero (by omega)
    exact bytes_none w B g xs h hl
  | some ad =>
    have := bytes_some w B g xs ad cap l h hb hcap hl hl2 (fun h => (hS ad rfl h).1) (fun h => (hS ad rfl h).2)
    rw [List.append_assoc] at this
    exact this
end Go.Proofs.YtbpfkeeikhhlnaaGreatDoor
