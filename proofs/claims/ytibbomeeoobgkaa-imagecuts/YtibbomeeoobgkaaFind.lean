/- The image of a disk: what find, Load, Turn answer. -/
import Derived.Test.YtibbomeeoobgkaaParse
import Derived.Deep.MidRow
namespace Go.Proofs.Ytibbomeeoobgkaa
open Go.RowKit
set_option maxRecDepth 100000

/-- an image: in which area it stands, its turn, its bytes, whether there is one -/
structure Im where
  a : Int
  t : Int
  b : List Int
  hv : Bool

def Im.zero : Im := ⟨0, 0, [], false⟩
def Im.step (s : Im) (x : Int) (l : List Int) : Im := if (isFr l && (!s.hv || decide (s.t < parT l))) = true then ⟨x, parT l, parB l, true⟩ else s
def imk (d : Dk) : Nat → Im
  | 0 => Im.zero
  | k + 1 => (imk d k).step k (d.area k)
def image (d : Dk) : Im := imk d 2

/-- both areas hold bytes -/
def Dk.By (d : Dk) : Prop := (∀ y ∈ d.a0, isByte y) ∧ ∀ y ∈ d.a1, isByte y

theorem Dk.By.area {d : Dk} (h : d.By) (x : Int) : ∀ y ∈ d.area x, isByte y := by
  unfold Dk.area
  split
  · exact h.1
  · split
    · exact h.2
    · intro y h; simp at h

theorem At.area_len {w : World} {B : Nat} {d : Dk} (h : At w B d) (x : Int) : (d.area x).length ≤ 40040 := by
  obtain ⟨_, _, _, _, _, _, _, ok⟩ := h
  unfold Dk.area
  split
  · exact ok.a0
  · split
    · exact ok.a1
    · simp

/-- at block R lies an image -/
def ImAt (H : Nat) (w : World) (R : Nat) (s : Im) : Prop := ∃ ao c, w.heap[R]? = some (.cells #[.int .i64 s.a, .int .u32 s.t, .slice ao s.b.length c] 68 (0, 0)) ∧ Told H w ao c s.b

theorem Told.below {H : Nat} {w w' : World} {ao : Option Addr} {c : Nat} {l : List Int} (h : Told H w ao c l) (k : Below w.heap.size w w') : Told H w' ao c l :=
  ⟨bytes_belowS h.bytes k, h.none, h.fits, h.since⟩

theorem Told.up {H H' : Nat} {w : World} {ao : Option Addr} {c : Nat} {l : List Int} (h : Told H w ao c l) (hH : H' ≤ H) : Told H' w ao c l :=
  ⟨h.bytes, h.none, h.fits, fun ad e => Nat.le_trans hH (h.since ad e)⟩

theorem ImAt.below {H : Nat} {w w' : World} {R : Nat} {s : Im} (h : ImAt H w R s) (k : Below w.heap.size w w') : ImAt H w' R s := by
  obtain ⟨ao, c, hb, t⟩ := h
  exact ⟨ao, c, (k.block R (lt_of_block hb)).trans hb, t.below k⟩

theorem cells3 {w : World} {R : Nat} {x y z : Value} (h : w.heap[R]? = some (.cells #[x, y, z] 68 (0, 0))) : w.cell? ⟨R, 0, none⟩ = some x ∧ w.cell? ⟨R, 1, none⟩ = some y ∧ w.cell? ⟨R, 2, none⟩ = some z ∧ w.frozen? ⟨R, 0, none⟩ = false ∧ w.frozen? ⟨R, 1, none⟩ = false ∧ w.frozen? ⟨R, 2, none⟩ = false := by
  refine ⟨by simp [World.cell?, h], by simp [World.cell?, h], by simp [World.cell?, h], by simp [World.frozen?, h], by simp [World.frozen?, h], by simp [World.frozen?, h]⟩

theorem Im.stay {s : Im} {x : Int} {l : List Int} (h : (isFr l && (!s.hv || decide (s.t < parT l))) = false) : s.step x l = s := by
  unfold Im.step
  rw [h, if_neg (by simp)]
theorem Im.go {s : Im} {x : Int} {l : List Int} (h : (isFr l && (!s.hv || decide (s.t < parT l))) = true) : s.step x l = ⟨x, parT l, parB l, true⟩ := by
  unfold Im.step
  rw [h, if_pos rfl]

theorem set3 {w : World} {R : Nat} {x y z x' y' z' : Value} (h : w.heap[R]? = some (.cells #[x, y, z] 68 (0, 0))) :
    (((w.setCell ⟨R, 0, none⟩ x').setCell ⟨R, 1, none⟩ y').setCell ⟨R, 2, none⟩ z').heap[R]? = some (.cells #[x', y', z'] 68 (0, 0)) ∧ Kept (fun k => k = R) w (((w.setCell ⟨R, 0, none⟩ x').setCell ⟨R, 1, none⟩ y').setCell ⟨R, 2, none⟩ z') :=
  ⟨heap_setCell_same _ _ _ _ _ _ (heap_setCell_same _ _ _ _ _ _ (heap_setCell_same _ _ _ _ _ _ h)), (((Kept.refl (fun k => k = R) w).setCell ⟨R, 0, none⟩ x' (fun _ => rfl)).setCell ⟨R, 1, none⟩ y' (fun _ => rfl)).setCell ⟨R, 2, none⟩ z' (fun _ => rfl)⟩

theorem Told.kept {H S : Nat} {w w' : World} {ao : Option Addr} {c : Nat} {l : List Int} (h : Told H w ao c l) (k : Kept (fun k => k = S) w w') (hS : S < H) : Told H w' ao c l :=
  ⟨bytes_kept h.bytes k (fun ad e _ hs => by have := h.since ad e; omega), h.none, h.fits, h.since⟩

set_option maxHeartbeats 4000000 in
theorem find_any (w : World) (B : Nat) (d : Dk) (h : At w B d) (hby : d.By) :
    Calls Try.prog 32 #[.pointer (some ⟨B, 0, none⟩)] w fun e w' => ∃ ao c, e = .returned (.tuple #[.agg #[.int .i64 (image d).a, .int .u32 (image d).t, .slice ao (image d).b.length c], .bool (image d).hv]) ∧ Told w.heap.size w' ao c (image d).b ∧ Below w.heap.size w w' := by
  obtain ⟨W1, hW1⟩ : ∃ W1, W1 = (w.alloc (.cells #[.int .i64 0, .int .u32 0, .slice none 0 0] 68)).alloc (.cells #[.int .i64 0, .int .u32 0, .slice none 0 0] 68) := ⟨_, rfl⟩
  have b1 : Below w.heap.size w W1 := by
    rw [hW1]
    exact ((Kept.refl (fun _ => False) w).alloc _ |>.alloc _).below (Nat.le_refl _) (fun k h => h.elim)
  have hR0 : W1.heap[w.heap.size]? = some (.cells #[.int .i64 0, .int .u32 0, .slice none 0 0] 68 (0, 0)) := by
    rw [hW1, Below.heap_alloc _ _ _ (by simp)]
    exact heap_alloc_new _ _
  have hR1 : W1.heap[w.heap.size + 1]? = some (.cells #[.int .i64 0, .int .u32 0, .slice none 0 0] 68 (0, 0)) := by
    rw [hW1, show w.heap.size + 1 = (w.alloc (.cells #[.int .i64 0, .int .u32 0, .slice none 0 0] 68)).heap.size by simp]
    exact heap_alloc_new _ _
  have hB := h.lt
  obtain ⟨R, hR⟩ : ∃ R, w.heap.size = R := ⟨_, rfl⟩
  rw [hR] at b1 hR0 hR1 hB ⊢
  have BW := Lib.hid b1
  have R0 := Lib.hid hR0
  have R1 := Lib.hid hR1
  have HA := Lib.hid (show ∀ w', Below R w w' → At w' B d from fun w' k => h.below (hR ▸ k))
  have HY := Lib.hid hby
  have HB := Lib.hid hB
  have HR := Lib.hid hR
  clear h hby b1 hR0 hR1 hB hR
  go_enter Try.func32, Try.ntmps32
  go_wp2_with fail
  rw [← hW1, HR.out]
  clear hW1 HR
  go_loopw [5, 11] (fun v i w' => ∃ k : Nat, k ≤ 2 ∧ i = .int .i64 k ∧ v = .bool (imk d k).hv ∧ ImAt (R + 2) w' (R + 1) (imk d k) ∧ Below R w w' ∧ w'.heap[R]? = some (.cells #[.int .i64 0, .int .u32 0, .slice none 0 0] 68 (0, 0))) (fun _ i _ => 2 - (intOf i).toNat)
  case atStart => exact ⟨0, by omega, rfl, rfl, ⟨none, 0, R1.out, told_nil _ _⟩, BW.out, R0.out⟩
  case round =>
    obtain ⟨k, hk, rfl, rfl, him, hbel, hr0⟩ := hrel
    have IM := Lib.hid him
    have AT := Lib.hid (HA.out _ hbel)
    have BE := Lib.hid hbel
    have Z0 := Lib.hid hr0
    clear him hbel hr0 R0 R1 BW
    by_cases hlt : k < 2
    · go_wp2_with fail
      refine (read_any wr B d k AT.out).mono ?_
      rintro e w1 ⟨ao1, c1, rfl, t1, b1⟩
      obtain ⟨l, hl⟩ : ∃ l, d.area k = l := ⟨_, rfl⟩
      have hl1 := AT.out.area_len k
      have hy1 := HY.out.area k
      have hs : imk d (k + 1) = (imk d k).step k (d.area k) := rfl
      rw [hl] at t1 hl1 hy1 hs ⊢
      clear hl
      have P := Lib.hid (parse_any w1 ao1 c1 l t1.bytes (by omega) t1.fits hy1)
      have IM1 := IM.out.below b1
      have Z1 := (b1.block R (lt_of_block Z0.out)).trans Z0.out
      have BE1 := BE.out.trans (b1.mono (Nat.le_of_lt (lt_of_block Z0.out)))
      have HS := Lib.hid hs
      clear IM AT BE Z0 hs t1 hl1 hy1 b1
      go_wp2_with (fail)
      refine P.out.mono ?_
      rintro e w2 ⟨ao2, c2, rfl, t2, b2⟩
      have IM2 := Lib.hid (IM1.below b2)
      have Z2 := Lib.hid ((b2.block R (lt_of_block Z1)).trans Z1)
      have BE2 := Lib.hid (BE1.trans (b2.mono (Nat.le_of_lt (lt_of_block Z1))))
      have T2 := Lib.hid (t2.up (H' := R + 2) (by obtain ⟨_, _, q, _⟩ := IM1; have := lt_of_block q; omega))
      clear IM1 Z1 BE1 P b2 t2
      obtain ⟨ao, c, hc, tt⟩ := IM2.out
      obtain ⟨x0, x1, x2, f0, f1, f2⟩ := cells3 hc
      have CC := Lib.hid hc
      have TT := Lib.hid tt
      clear hc tt
      generalize hq : isFr l = q at *
      generalize hv : (imk d k).hv = v at *
      have QF := Lib.hid hq
      have VF := Lib.hid hv
      clear hq hv
      cases q with
      | false =>
        have e := Im.stay (s := imk d k) (x := k) (l := l) (by rw [QF.out, VF.out]; rfl)
        have hd := HS.out.trans e
        have HD := Lib.hid hd
        clear e hd HS
        go_wp2_with fail
        go_round
        case rel => exact ⟨k + 1, by omega, by go_num, by rw [HD.out, VF.out], by rw [HD.out]; exact IM2.out, BE2.out, Z2.out⟩
        case measure => simp [intOf]; omega
      | true =>
        cases v with
        | false =>
          have e := Im.go (s := imk d k) (x := k) (l := l) (by rw [QF.out, VF.out]; rfl)
          have hd := HS.out.trans e
          have HD := Lib.hid hd
          clear e hd HS
          go_wp2_with fail
          go_round
          case rel =>
            obtain ⟨g1, g2⟩ := set3 (x' := .int .i64 k) (y' := .int .u32 (parT l)) (z' := .slice ao2 (parB l).length c2) CC.out
            refine ⟨k + 1, by omega, by go_num, by rw [HD.out], ?_, ?_, ?_⟩
            · rw [HD.out]
              exact ⟨ao2, c2, g1, T2.out.kept g2 (by omega)⟩
            · exact BE2.out.trans (g2.below (Nat.le_of_lt (lt_of_block Z2.out)) (fun k e => by omega))
            · exact (g2.block R (lt_of_block Z2.out) (by omega)).trans Z2.out
          case measure => simp [intOf]; omega
        | true =>
          by_cases ht : (imk d k).t < parT l
          · have ht' : decide ((imk d k).t < parT l) = true := decide_eq_true ht
            have HT := Lib.hid ht'
            clear ht
            have e := Im.go (s := imk d k) (x := k) (l := l) (by rw [QF.out, VF.out]; rw [HT.out]; rfl)
            have hd := HS.out.trans e
            have HD := Lib.hid hd
            clear e hd HS
            go_wp2_with fail
            go_round
            case rel =>
              obtain ⟨g1, g2⟩ := set3 (x' := .int .i64 k) (y' := .int .u32 (parT l)) (z' := .slice ao2 (parB l).length c2) CC.out
              refine ⟨k + 1, by omega, by go_num, by rw [HD.out], ?_, ?_, ?_⟩
              · rw [HD.out]
                exact ⟨ao2, c2, g1, T2.out.kept g2 (by omega)⟩
              · exact BE2.out.trans (g2.below (Nat.le_of_lt (lt_of_block Z2.out)) (fun k e => by omega))
              · exact (g2.block R (lt_of_block Z2.out) (by omega)).trans Z2.out
            case measure => simp [intOf]; omega
          · have ht' : decide ((imk d k).t < parT l) = false := decide_eq_false ht
            have HT := Lib.hid ht'
            clear ht
            have e := Im.stay (s := imk d k) (x := k) (l := l) (by rw [QF.out, VF.out]; rw [HT.out]; rfl)
            have hd := HS.out.trans e
            have HD := Lib.hid hd
            clear e hd HS
            go_wp2_with fail
            go_round
            case rel => exact ⟨k + 1, by omega, by go_num, by rw [HD.out, VF.out], by rw [HD.out]; exact IM2.out, BE2.out, Z2.out⟩
            case measure => simp [intOf]; omega
    · obtain rfl : k = 2 := by omega
      obtain ⟨ao, c, hb, t⟩ := IM.out
      have T := Lib.hid t
      have HB1 := Lib.hid hb
      obtain ⟨x0, x1, x2, _, _, _⟩ := cells3 hb
      obtain ⟨y0, y1, y2, f0, f1, f2⟩ := cells3 Z0.out
      clear hb t
      go_wp2_with fail
      obtain ⟨g1, g2⟩ := set3 (x' := .int .i64 (imk d 2).a) (y' := .int .u32 (imk d 2).t) (z' := .slice ao (imk d 2).b.length c) Z0.out
      have bb := BE.out.trans (g2.below (B := R) (Nat.le_of_lt (lt_of_block Z0.out)) (fun k e => by omega))
      have tt := (T.out.kept g2 (by omega)).up (H' := R) (by omega)
      obtain ⟨z0, z1, z2, _, _, _⟩ := cells3 g1
      refine bodyPost_ret (v := .tuple #[.agg #[.int .i64 (imk d 2).a, .int .u32 (imk d 2).t, .slice ao (imk d 2).b.length c], .bool (imk d 2).hv]) (by simp [results, Try.results32, go_sem, z0, z1, z2]) rfl ⟨ao, c, rfl, tt, bb⟩
end Go.Proofs.Ytibbomeeoobgkaa
