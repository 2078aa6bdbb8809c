/- The rows of things that the laws take: how they lie in memory. -/
import Derived.Test.YthnebpbmhgmcmaaPut
import Derived.ProofKit
import Derived.OpenShut
import Derived.ShutString
import Derived.ChangeOld
import Derived.Deep.Slices
namespace Go.Proofs.Ythnebpbmhgmcmaa
open Go.RowKit Go.ChangeShapes Go.WideShapes Go.ChangeAt

/-- a thing: what it is, its number, its bytes (where they lie, with which room), how many at most -/
structure It where
  what : Int
  n : Int
  ao : Option Addr
  bs : List Int
  cap : Nat
  most : Int

/-- it lies at place i of the row at ⟨b, off⟩ -/
structure ItAt (w : World) (b off i : Nat) (x : It) : Prop where
  c0 : w.cell? ⟨b, off + i * 4, none⟩ = some (.int .i64 x.what)
  c1 : w.cell? ⟨b, off + i * 4 + 1, none⟩ = some (.int .u64 x.n)
  c2 : w.cell? ⟨b, off + i * 4 + 2, none⟩ = some (.slice x.ao x.bs.length x.cap)
  c3 : w.cell? ⟨b, off + i * 4 + 3, none⟩ = some (.int .i64 x.most)
  what : -9223372036854775808 ≤ x.what ∧ x.what ≤ 9223372036854775807
  n : 0 ≤ x.n ∧ x.n ≤ 18446744073709551615
  most : -9223372036854775808 ≤ x.most ∧ x.most ≤ 9223372036854775807
  bytes : Bytes w x.ao x.bs
  byte : ∀ y ∈ x.bs, isByte y
  cap : x.bs.length ≤ x.cap
  room : x.ao = none → x.cap = 0

def Items (w : World) (a : Option Addr) (its : List It) : Prop := ∀ i (hi : i < its.length), ∃ b off, a = some ⟨b, off, none⟩ ∧ ItAt w b off i its[i]

theorem cells29 : Try.prog.cellsOf 29 = 4 := by kernel_rfl
theorem cells3 : Try.prog.cellsOf 3 = 1 := by kernel_rfl
theorem cells27 : Try.prog.cellsOf 27 = 1 := by kernel_rfl
theorem cells26 : Try.prog.cellsOf 26 = 1 := by kernel_rfl
theorem cells5 : Try.prog.cellsOf 5 = 1 := by kernel_rfl

instance : Inhabited It := ⟨⟨0, 0, none, [], 0, 0⟩⟩

theorem open_bytes {H : Type} {enc : TypeId × Value → H} {W : World} {fuel : Nat} {v : Value} {x : DataW H × List MemPlace} (h : DataW.trod enc Try.prog W 0 (fun _ => true) true fuel 26 [v] = some x) :
    ∃ (ao : Option Addr) (l : List Int) (cap : Nat), v = .slice ao l.length cap ∧ Bytes W ao l ∧ (∀ y ∈ l, isByte y) ∧ l.length ≤ cap ∧ (ao = none → cap = 0) := by
  rcases open_ints Try.underlying26 Try.underlying5 cells5 h with ⟨hcs, _⟩ | ⟨a, len, cap, zs, hcs, _, hl, hm, hz, _, hcell, hwz⟩
  · injection hcs with hcs
    exact ⟨none, [], 0, hcs, fun i h => by simp at h, fun y hy => by simp at hy, Nat.le_refl _, fun _ => rfl⟩
  · injection hcs with hcs
    have hz' : zs.length = cap := by simpa using hz
    have hlen : (zs.take len).length = len := by rw [List.length_take]; omega
    refine ⟨some a, zs.take len, cap, by rw [hlen]; exact hcs, fun i hi => ?_, fun y hy => ?_, by omega, fun e => by cases e⟩
    · rw [hlen] at hi
      exact ⟨a, rfl, by rw [hcell i (by omega), getD_take zs len i hi]⟩
    · have := hwz y (List.mem_of_mem_take hy)
      simpa [isByte, Lit.wf, IntKind.min, IntKind.max, IntKind.signed, IntKind.bits] using this

theorem open_items {H : Type} {enc : TypeId × Value → H} {W : World} {fuel : Nat} {a : Option Addr} {len cap : Nat} {x : DataW H × List MemPlace} (h : DataW.trod enc Try.prog W 0 (fun _ => true) true fuel 22 [.slice a len cap] = some x) :
    ∃ its : List It, its.length = len ∧ Items W a its := by
  rcases Deep.open_slice Try.underlying22 h with ⟨hcs, _⟩ | ⟨ad, len', cap', m, n, D, Pl, hcs, hb, hl, hm, hmm, _, hi⟩
  · injection hcs with hcs
    injection hcs with h1 h2 h3
    exact ⟨[], h2.symm, fun i hi => by simp at hi⟩
  · injection hcs with hcs
    injection hcs with h1 h2 h3
    subst h1 h2 h3
    simp only [if_true] at hmm
    subst hmm
    have each : ∀ i, i < len → ∃ x : It, ∃ b off, some ad = some (⟨b, off, none⟩ : Addr) ∧ ItAt W b off i x := by
      intro i him
      obtain ⟨cs', hc, ht⟩ := hi i (by omega)
      rw [cells29] at hc
      obtain ⟨_, hcl, hat⟩ := World.cells?_some hc
      obtain ⟨ys, n', hn', hy, hlen, hyl, hf⟩ := DataW.trod_struct Try.underlying29 ht
      match cs', hcl with
      | [v0, v1, v2, v3], _ =>
        have g : ∀ j, j < 4 → ∃ y, ys[j]? = some y := fun j hj => ⟨_, List.getElem?_eq_getElem (by rw [hyl]; exact hj)⟩
        obtain ⟨y0, e0⟩ := g 0 (by omega)
        obtain ⟨y1, e1⟩ := g 1 (by omega)
        obtain ⟨y2, e2⟩ := g 2 (by omega)
        obtain ⟨y3, e3⟩ := g 3 (by omega)
        have f0 : DataW.trod enc Try.prog W 0 (fun _ => true) true n' 3 [v0] = some y0 := by
          have this : DataW.trod enc Try.prog W 0 (fun _ => true) true n' 3 (([v0, v1, v2, v3].drop 0).take (Try.prog.cellsOf 3)) = ys[0]? := hf 0 _ rfl
          rw [cells3] at this
          rw [← e0]; exact this
        have f1 : DataW.trod enc Try.prog W 0 (fun _ => true) true n' 27 [v1] = some y1 := by
          have this : DataW.trod enc Try.prog W 0 (fun _ => true) true n' 27 (([v0, v1, v2, v3].drop 1).take (Try.prog.cellsOf 27)) = ys[1]? := hf 1 _ rfl
          rw [cells27] at this
          rw [← e1]; exact this
        have f2 : DataW.trod enc Try.prog W 0 (fun _ => true) true n' 26 [v2] = some y2 := by
          have this : DataW.trod enc Try.prog W 0 (fun _ => true) true n' 26 (([v0, v1, v2, v3].drop 2).take (Try.prog.cellsOf 26)) = ys[2]? := hf 2 _ rfl
          rw [cells26] at this
          rw [← e2]; exact this
        have f3 : DataW.trod enc Try.prog W 0 (fun _ => true) true n' 3 [v3] = some y3 := by
          have this : DataW.trod enc Try.prog W 0 (fun _ => true) true n' 3 (([v0, v1, v2, v3].drop 3).take (Try.prog.cellsOf 3)) = ys[3]? := hf 3 _ rfl
          rw [cells3] at this
          rw [← e3]; exact this
        obtain ⟨i0, q0, _, r0⟩ := DataW.trod_int Try.underlying3 f0
        obtain ⟨i1, q1, _, r1⟩ := DataW.trod_int Try.underlying27 f1
        obtain ⟨i3, q3, _, r3⟩ := DataW.trod_int Try.underlying3 f3
        obtain ⟨ao, l, c, q2, hB, hby, hcap, hnn⟩ := open_bytes f2
        injection q0 with q0; injection q1 with q1; injection q3 with q3
        subst q0 q1 q2 q3
        have a0 := hat 0 (by omega)
        have a1 := hat 1 (by omega)
        have a2 := hat 2 (by omega)
        have a3 := hat 3 (by omega)
        obtain ⟨b, off, spot⟩ := ad
        have hs : spot = none := by
          obtain ⟨cs0, hc0, _⟩ := hi 0 (by omega)
          rw [cells29] at hc0
          obtain ⟨_, hl0, hat0⟩ := World.cells?_some hc0
          have b0 := hat0 0 (by omega)
          rw [List.getElem?_eq_getElem (by omega)] at b0
          simpa [Addr.add] using World.cell?_spot b0
        subst hs
        have hadd : ∀ j, ((⟨b, off, none⟩ : Addr).add (i * 4)).add j = ⟨b, off + i * 4 + j, none⟩ := by
          intro j
          rw [Deep.add_add]
          unfold Addr.add
          split
          · simp_all
          · simp; omega
        rw [hadd] at a0 a1 a2 a3
        refine ⟨⟨i0, i1, ao, l, c, i3⟩, b, off, rfl, ⟨a0, a1, a2, a3, ?_, ?_, ?_, hB, hby, hcap, hnn⟩⟩
        · simpa [Lit.wf, IntKind.min, IntKind.max, IntKind.signed, IntKind.bits] using r0
        · simpa [Lit.wf, IntKind.min, IntKind.max, IntKind.signed, IntKind.bits] using r1
        · simpa [Lit.wf, IntKind.min, IntKind.max, IntKind.signed, IntKind.bits] using r3
    obtain ⟨f, hf⟩ := Deep.choose_lt each
    refine ⟨(List.range len).map f, by simp, fun i hi => ?_⟩
    simp only [List.length_map, List.length_range] at hi
    obtain ⟨b, off, e, h⟩ := hf i hi
    exact ⟨b, off, e, by simpa using h⟩

theorem ItAt.below {w w' : World} {b off i : Nat} {x : It} (h : ItAt w b off i x) (hk : Below w.heap.size w w') : ItAt w' b off i x := by
  have hb : b < w.heap.size := cell_block h.c0
  have hc : ∀ o v, w.cell? ⟨b, o, none⟩ = some v → w'.cell? ⟨b, o, none⟩ = some v := fun o v e => (hk.cell hb).trans e
  exact ⟨hc _ _ h.c0, hc _ _ h.c1, hc _ _ h.c2, hc _ _ h.c3, h.what, h.n, h.most, bytes_below h.bytes hk (Nat.le_refl _), h.byte, h.cap, h.room⟩

/-- since w0: a writer at B that has written xs; beside it a row v that holds ys -/
def Both (H : Nat) (w0 w : World) (B : Nat) (v : Value) (xs ys : List Int) : Prop :=
  ∃ g, Wr w B g xs ∧ Below H w0 w ∧ H ≤ B ∧ (∀ k, g = some k → H ≤ k) ∧ w.ownsRow 0 5 1 v ys.length (vals ys) ∧ v.ownBlock ≠ some B ∧ ∀ k, v.ownBlock = some k → H ≤ k ∧ g ≠ some k

/-- the same, and a block X beside them that holds o -/
def BothX (H : Nat) (w0 w : World) (B : Nat) (v : Value) (xs ys : List Int) (X : Nat) (o : Obj) : Prop :=
  ∃ g, Wr w B g xs ∧ Below H w0 w ∧ H ≤ B ∧ (∀ k, g = some k → H ≤ k) ∧ w.ownsRow 0 5 1 v ys.length (vals ys) ∧ v.ownBlock ≠ some B ∧ (∀ k, v.ownBlock = some k → H ≤ k ∧ g ≠ some k) ∧
    w.heap[X]? = some o ∧ X ≠ B ∧ g ≠ some X ∧ v.ownBlock ≠ some X

theorem Both.start {H : Nat} {w0 w : World} {B : Nat} {xs : List Int} (h : Own H w0 w B xs) : Both H w0 w B (.slice none 0 0) xs [] := by
  obtain ⟨g, h1, h2, h3, h4⟩ := h
  exact ⟨g, h1, h2, h3, h4, ⟨rfl, .inl ⟨rfl, rfl⟩⟩, by simp [Value.ownBlock], fun k e => by simp [Value.ownBlock] at e⟩

theorem Both.own {H : Nat} {w0 w : World} {B : Nat} {v : Value} {xs ys : List Int} (h : Both H w0 w B v xs ys) : Own H w0 w B xs := by
  obtain ⟨g, h1, h2, h3, h4, _⟩ := h
  exact ⟨g, h1, h2, h3, h4⟩

theorem BothX.drop {H : Nat} {w0 w : World} {B : Nat} {v : Value} {xs ys : List Int} {X : Nat} {o : Obj} (h : BothX H w0 w B v xs ys X o) : Both H w0 w B v xs ys := by
  obtain ⟨g, h1, h2, h3, h4, h5, h6, h7, _⟩ := h
  exact ⟨g, h1, h2, h3, h4, h5, h6, h7⟩

theorem BothX.block {H : Nat} {w0 w : World} {B : Nat} {v : Value} {xs ys : List Int} {X : Nat} {o : Obj} (h : BothX H w0 w B v xs ys X o) : w.heap[X]? = some o := by
  obtain ⟨g, h1, h2, h3, h4, h5, h6, h7, h8, _⟩ := h
  exact h8

theorem Wr.glt {w : World} {B : Nat} {g : Option Nat} {xs : List Int} (h : Wr w B g xs) {k : Nat} (e : g = some k) : k < w.heap.size := by
  obtain ⟨ao, n, cap, hb, ho, hg, hne⟩ := h
  exact own_lt ho (hg.trans e)

theorem Both.alloc {H : Nat} {w0 w : World} {B : Nat} {v : Value} {xs ys : List Int} (h : Both H w0 w B v xs ys) (o : Obj) : BothX H w0 (w.alloc o) B v xs ys w.heap.size o := by
  obtain ⟨g, h1, h2, h3, h4, h5, h6, h7⟩ := h
  have hlt := h1.lt
  have hk : Below w.heap.size w (w.alloc o) := (Below.refl _ _).alloc (Nat.le_refl _) o
  refine ⟨g, h1.below hk, h2.alloc (by omega) o, h3, h4, h5.alloc o, h6, h7, heap_alloc_new w o, by omega, fun e => ?_, fun e => ?_⟩
  · have := h1.glt e; omega
  · have := own_lt h5 e; omega

/-- a call on the writer -/
theorem BothX.write {H : Nat} {w0 w w' : World} {B : Nat} {v : Value} {xs xs' ys : List Int} {X : Nat} {o : Obj} {g : Option Nat} (h1 : Wr w B g xs) (h2 : Below H w0 w) (h3 : H ≤ B) (h4 : ∀ k, g = some k → H ≤ k) (h5 : w.ownsRow 0 5 1 v ys.length (vals ys)) (h6 : v.ownBlock ≠ some B) (h7 : ∀ k, v.ownBlock = some k → H ≤ k ∧ g ≠ some k)
    (h8 : w.heap[X]? = some o) (h9 : X ≠ B) (h10 : g ≠ some X) (h11 : v.ownBlock ≠ some X) (hw : Wrote w B g xs' w') : BothX H w0 w' B v xs' ys X o := by
  have hlt := h1.lt
  have hb := hw.bel (by omega : H ≤ w.heap.size) h3 h4
  obtain ⟨g', h1', hk, hg⟩ := hw
  have hge : ∀ k, k < w.heap.size → g' = some k → g = some k := by
    intro k hk' e
    rcases hg with e1 | ⟨j, e1, hj⟩
    · exact e1 ▸ e
    · rw [e1] at e; injection e with e; omega
  refine ⟨g', h1', h2.trans hb, h3, fun k e => ?_, own_kept h5 hk (fun k e hS => ?_), h6, fun k e => ⟨(h7 k e).1, fun e' => (h7 k e).2 (hge k (own_lt h5 e) e')⟩, ?_, h9, fun e => h10 (hge X (lt_of_block h8) e), h11⟩
  · rcases Nat.lt_or_ge k w.heap.size with hlt' | hge'
    · exact h4 k (hge k hlt' e)
    · omega
  · rcases hS with hS | hS
    · subst hS; exact h6 e
    · exact (h7 k e).2 hS.symm
  · rw [hk.block X (lt_of_block h8) (fun hS => hS.elim h9 (fun e => h10 e.symm))]; exact h8

/-- the row is grown -/
theorem BothX.grow {H : Nat} {w0 w w' : World} {B : Nat} {v v' : Value} {xs ys ys' : List Int} {X : Nat} {o : Obj} (h : BothX H w0 w B v xs ys X o) (ho : w'.ownsRow 0 5 1 v' ys'.length (vals ys')) (hk : Kept (fun k => some k = v.ownBlock) w w') (hg : Grew w v v') : BothX H w0 w' B v' xs ys' X o := by
  obtain ⟨g, h1, h2, h3, h4, h5, h6, h7, h8, h9, h10, h11⟩ := h
  have hlt := h1.lt
  have hge : ∀ k, k < w.heap.size → v'.ownBlock = some k → v.ownBlock = some k := by
    intro k hk' e
    rcases hg with e1 | ⟨j, e1, hj⟩
    · exact e1 ▸ e
    · rw [e1] at e; injection e with e; omega
  refine ⟨g, h1.kept hk (fun e => h6 e.symm) (fun k e e' => (h7 k e'.symm).2 e), h2.trans (hk.below (by omega) (fun k e => (h7 k e.symm).1)), h3, h4, ho, fun e => h6 (hge B hlt e), fun k e => ?_, ?_, h9, h10, fun e => h11 (hge X (lt_of_block h8) e)⟩
  · rcases Nat.lt_or_ge k w.heap.size with hlt' | hge'
    · exact h7 k (hge k hlt' e)
    · refine ⟨by omega, fun e' => ?_⟩
      have := h1.glt e'
      omega
  · rw [hk.block X (lt_of_block h8) (fun e => h11 e.symm)]; exact h8

theorem u8_both {H : Nat} {w0 w : World} {B : Nat} {v : Value} {xs ys : List Int} {X : Nat} {o : Obj} (h : BothX H w0 w B v xs ys X o) (x : Int) (hl : xs.length ≤ 900000) :
    Calls Try.prog 10 #[.pointer (some ⟨B, 0, none⟩), .int .u8 x] w fun e w' => e = .returned (.tuple #[]) ∧ BothX H w0 w' B v (xs ++ [x]) ys X o := by
  obtain ⟨g, h1, h2, h3, h4, h5, h6, h7, h8, h9, h10, h11⟩ := h
  refine (u8_any w B g xs x h1 (by omega)).mono ?_
  rintro e w' ⟨rfl, hw⟩
  exact ⟨rfl, BothX.write h1 h2 h3 h4 h5 h6 h7 h8 h9 h10 h11 hw⟩

theorem u16_both {H : Nat} {w0 w : World} {B : Nat} {v : Value} {xs ys : List Int} {X : Nat} {o : Obj} (h : BothX H w0 w B v xs ys X o) (x : Int) (hl : xs.length ≤ 900000) :
    Calls Try.prog 12 #[.pointer (some ⟨B, 0, none⟩), .int .u16 x] w fun e w' => e = .returned (.tuple #[]) ∧ BothX H w0 w' B v (xs ++ [x / 256 % 256, x % 256]) ys X o := by
  obtain ⟨g, h1, h2, h3, h4, h5, h6, h7, h8, h9, h10, h11⟩ := h
  refine (u16_any w B g xs x h1 (by omega)).mono ?_
  rintro e w' ⟨rfl, hw⟩
  exact ⟨rfl, BothX.write h1 h2 h3 h4 h5 h6 h7 h8 h9 h10 h11 hw⟩

theorem u32_both {H : Nat} {w0 w : World} {B : Nat} {v : Value} {xs ys : List Int} {X : Nat} {o : Obj} (h : BothX H w0 w B v xs ys X o) (x : Int) (hl : xs.length ≤ 900000) :
    Calls Try.prog 13 #[.pointer (some ⟨B, 0, none⟩), .int .u32 x] w fun e w' => e = .returned (.tuple #[]) ∧ BothX H w0 w' B v (xs ++ [x / 16777216 % 256, x / 65536 % 256, x / 256 % 256, x % 256]) ys X o := by
  obtain ⟨g, h1, h2, h3, h4, h5, h6, h7, h8, h9, h10, h11⟩ := h
  refine (u32_any w B g xs x h1 (by omega)).mono ?_
  rintro e w' ⟨rfl, hw⟩
  exact ⟨rfl, BothX.write h1 h2 h3 h4 h5 h6 h7 h8 h9 h10 h11 hw⟩

theorem u64_both {H : Nat} {w0 w : World} {B : Nat} {v : Value} {xs ys : List Int} {X : Nat} {o : Obj} (h : BothX H w0 w B v xs ys X o) (x : Int) (hl : xs.length ≤ 900000) :
    Calls Try.prog 14 #[.pointer (some ⟨B, 0, none⟩), .int .u64 x] w fun e w' => e = .returned (.tuple #[]) ∧ BothX H w0 w' B v (xs ++ be8 x) ys X o := by
  obtain ⟨g, h1, h2, h3, h4, h5, h6, h7, h8, h9, h10, h11⟩ := h
  refine (u64_any w B g xs x h1 (by omega)).mono ?_
  rintro e w' ⟨rfl, hw⟩
  exact ⟨rfl, BothX.write h1 h2 h3 h4 h5 h6 h7 h8 h9 h10 h11 hw⟩

theorem bytes_both {H : Nat} {w0 w : World} {B : Nat} {v : Value} {xs ys : List Int} {X : Nat} {o : Obj} (h : BothX H w0 w B v xs ys X o) (ao : Option Addr) (cap : Nat) (l : List Int) (hH0 : w0.heap.size = H) (hb : Bytes w0 ao l) (hcap : l.length ≤ cap) (hnone : ao = none → cap = 0) (hl : xs.length ≤ 900000) (hl2 : l.length ≤ 60000) :
    Calls Try.prog 15 #[.pointer (some ⟨B, 0, none⟩), .slice ao l.length cap] w fun e w' => e = .returned (.tuple #[]) ∧ BothX H w0 w' B v (xs ++ lenBytes l) ys X o := by
  obtain ⟨g, h1, h2, h3, h4, h5, h6, h7, h8, h9, h10, h11⟩ := h
  refine (bytes_any w B g xs ao cap l h1 (bytes_below hb h2 (by omega)) hcap hnone hl hl2 ?_).mono ?_
  · intro ad e hpos
    subst e
    have := bytes_lt hb hpos
    refine ⟨by omega, fun e => ?_⟩
    have := h4 ad.block e.symm
    omega
  rintro e w' ⟨rfl, hw⟩
  exact ⟨rfl, BothX.write h1 h2 h3 h4 h5 h6 h7 h8 h9 h10 h11 hw⟩

theorem put_both {H : Nat} {w0 w : World} {B : Nat} {ao : Option Addr} {n cap : Nat} {xs ys : List Int} {X : Nat} {o : Obj} (h : BothX H w0 w B (.slice ao n cap) xs ys X o) (hn : ys.length = n) (x : Int) (m : Nat) (hm : m ≤ 8) (hl : n ≤ 900000) :
    Calls Try.prog 11 #[.slice ao n cap, .int .u64 x, .int .i64 m] w fun e w' => ∃ ao' c', e = .returned (.slice ao' (n + m) c') ∧ BothX H w0 w' B (.slice ao' (n + m) c') xs (ys ++ be x m) X o := by
  have h' := h
  obtain ⟨g, h1, h2, h3, h4, h5, h6, h7, h8, h9, h10, h11⟩ := h
  rw [hn] at h5
  refine (put_any ao n cap ys x m w h5 hm hl).mono ?_
  rintro e w' ⟨ao', c', rfl, ho, hk, hg⟩
  have hlen : (ys ++ be x m).length = n + m := by rw [List.length_append, be_length, hn]
  exact ⟨ao', c', rfl, h'.grow (by rw [hlen]; exact ho) hk hg⟩
end Go.Proofs.Ythnebpbmhgmcmaa
