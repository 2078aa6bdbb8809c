/- A vote is read. -/
import Derived.Test.YtmkeckablkccnaaDoorSr3
namespace Go.Proofs.YtmkeckablkccnaaDoor
open Go.RowKit
set_option maxRecDepth 100000

/-- a vote's words, and what its lists hold -/
structure Vp where
  f : Int
  e : Int
  vw : Int
  lo : Int
  c : Vc
def pVt (s : Sr) : Vp × Sr :=
  let a := p8 s; let b := p8 a.2; let c := p32 b.2; let d := p32 c.2
  let n := p8 d.2; let x := pL pMk n.1.toNat 40 n.2
  let n2 := p8 x.2; let y := pL pEn n2.1.toNat 40 n2.2
  let n3 := p8 y.2; let z := pL pEn n3.1.toNat 40 n3.2
  (⟨a.1, b.1, c.1, d.1, ⟨x.1, y.1, z.1⟩⟩, z.2)

theorem p8_range {w : World} {S R : Nat} {s : Sr} (h : Sat w S R s) : 0 ≤ (p8 s).1 ∧ (p8 s).1 ≤ 255 := by
  unfold p8 gN
  split
  · split
    · next hl => exact h.rd.byte 0 hl
    · simp
  · simp
/-- lists that were made since -/
def NewV (H : Nat) (v : Vt) : Prop := (∀ ad, v.ms.a = some ad → H ≤ ad.block) ∧ (∀ ad, v.p.a = some ad → H ≤ ad.block) ∧ ∀ ad, v.q.a = some ad → H ≤ ad.block
theorem row_new {α : Type} {T : Nat → Prop} {w w' : World} {k H : Nat} {enc : α → List Value} {v : Sl} {xs : List α} (h : Row w k enc v.val xs) (hk : Kept T w w') (hv : ∀ ad, v.a = some ad → H ≤ ad.block) (hT : ∀ b, T b → b < H) : Row w' k enc v.val xs :=
  h.kept hk (fun b off n c e hb => by
    injection e with e _ _
    have h1 := hv _ e
    have h2 := hT b hb
    simp only at h1
    omega)
theorem VtAt.new {T : Nat → Prop} {w w' : World} {H : Nat} {v : Vt} {c : Vc} (h : VtAt w v c) (hk : Kept T w w') (hv : NewV H v) (hT : ∀ b, T b → b < H) : VtAt w' v c :=
  ⟨row_new h.1 hk hv.1 hT, row_new h.2.1 hk hv.2.1 hT, row_new h.2.2 hk hv.2.2 hT⟩
theorem over_vote (x : Vt) : over #[.int .u8 0, .int .u8 0, .int .u32 0, .int .u32 0, .slice none 0 0, .slice none 0 0, .slice none 0 0] 0 x.cells = x.cells.toArray := by
  simp only [over, Vt.cells, List.setIfInBounds_toArray, List.set_cons_zero, List.set_cons_succ, Nat.zero_add, Nat.reduceAdd]
theorem size32' : (Tryd.prog.info? 32).map (·.size) = some 7 := by kernel_rfl
theorem Vt.one (v : Vt) : ∀ u ∈ v.cells, u.oneCell' = true := by
  intro u hu
  simp [Vt.cells] at hu
  (repeat' (rcases hu with rfl | hu))
  all_goals first | rfl | (subst hu; rfl)

set_option maxHeartbeats 8000000 in
theorem vote_any (w : World) (S R : Nat) (s : Sr) (h : Sat w S R s) :
    Calls Tryd.prog 70 #[.pointer (some ⟨S, 0, none⟩)] w fun e w' => ∃ v : Vt, e = .returned (.agg v.cells.toArray) ∧ (v.f = (pVt s).1.f ∧ v.e = (pVt s).1.e ∧ v.vw = (pVt s).1.vw ∧ v.lo = (pVt s).1.lo) ∧ VtAt w' v (pVt s).1.c ∧ NewV w.heap.size v ∧ Sat w' S R (pVt s).2 ∧ Kept (SR S R) w w' := by
  obtain ⟨W, hW⟩ : ∃ W, W = w.alloc (.cells #[.int .u8 0, .int .u8 0, .int .u32 0, .int .u32 0, .slice none 0 0, .slice none 0 0, .slice none 0 0] 32) := ⟨_, rfl⟩
  have hbl : Below w.heap.size w W := by rw [hW]; exact (Below.refl _ _).alloc (Nat.le_refl _) _
  have hsz : W.heap.size = w.heap.size + 1 := by rw [hW]; simp
  have hbx : W.heap[w.heap.size]? = some (.cells #[.int .u8 0, .int .u8 0, .int .u32 0, .int .u32 0, .slice none 0 0, .slice none 0 0, .slice none 0 0] 32 (0, 0)) := by rw [hW]; exact heap_alloc_new _ _
  have HGS := Lib.hid (show S < w.heap.size from h.lt.1)
  have HGR := Lib.hid (show R < w.heap.size from h.lt.2)
  have HBL := Lib.hid hbl
  have HBX := Lib.hid hbx
  have HSZ := Lib.hid hsz
  have HS0 := Lib.hid (h.on hbl)
  have HK0 := Lib.hid (Kept.refl (SR S R) W)
  have HW := Lib.hid hW
  obtain ⟨X, hX⟩ : ∃ X, X = pVt s := ⟨_, rfl⟩
  rw [← hX]
  unfold pVt at hX
  obtain ⟨a, ha⟩ : ∃ a, a = p8 s := ⟨_, rfl⟩
  obtain ⟨b, hb⟩ : ∃ b, b = p8 a.2 := ⟨_, rfl⟩
  obtain ⟨c, hc⟩ : ∃ c, c = p32 b.2 := ⟨_, rfl⟩
  obtain ⟨d, hd⟩ : ∃ d, d = p32 c.2 := ⟨_, rfl⟩
  obtain ⟨n, hn⟩ : ∃ n, n = p8 d.2 := ⟨_, rfl⟩
  obtain ⟨x, hx⟩ : ∃ x, x = pL pMk n.1.toNat 40 n.2 := ⟨_, rfl⟩
  obtain ⟨n2, hn2⟩ : ∃ n2, n2 = p8 x.2 := ⟨_, rfl⟩
  obtain ⟨y, hy⟩ : ∃ y, y = pL pEn n2.1.toNat 40 n2.2 := ⟨_, rfl⟩
  obtain ⟨n3, hn3⟩ : ∃ n3, n3 = p8 y.2 := ⟨_, rfl⟩
  obtain ⟨z, hz⟩ : ∃ z, z = pL pEn n3.1.toNat 40 n3.2 := ⟨_, rfl⟩
  simp only [← ha, ← hb, ← hc, ← hd, ← hn, ← hx, ← hn2, ← hy, ← hn3, ← hz] at hX
  have Ea := Lib.hid ha
  have Eb := Lib.hid hb
  have Ec := Lib.hid hc
  have Ed := Lib.hid hd
  have En := Lib.hid hn
  have Ex := Lib.hid hx
  have En2 := Lib.hid hn2
  have Ey := Lib.hid hy
  have En3 := Lib.hid hn3
  have Ez := Lib.hid hz
  have HX := Lib.hid hX
  clear h hW hbl hbx hX hsz ha hb hc hd hn hx hn2 hy hn3 hz
  have hmf : ∀ (fn : Fn) (first cap : Array Value) (w : World), (Instr.makeFunc fn first cap).run Tryd.prog w = .ok (.func fn first cap) w := fun _ _ _ _ => rfl
  obtain ⟨gx, hgx⟩ : ∃ g, g = w.heap.size := ⟨_, rfl⟩
  rw [← hgx] at HGS HGR HBX HSZ
  have HGE := Lib.hid hgx
  clear hgx
  go_enter Tryd.func70, Tryd.ntmps70
  go_upto_region 1 with fail
  rw [← HW.out, ← HGE.out]
  clear HW
  have C := s8 _ S R _ HS0.out
  rw [← Ea.out] at C
  have CH := Lib.hid C
  clear C
  go_wp2_with fail
  refine Calls.mono CH.out ?_
  rintro e w1 ⟨rfl, h, k⟩
  have HS1 := Lib.hid h
  have HK1 := Lib.hid (HK0.out.trans k (fun _ _ h => h))
  have KK1 := Lib.hid k
  clear h k HS0 CH
  have C := s8 _ S R _ HS1.out
  rw [← Eb.out] at C
  have CH := Lib.hid C
  clear C
  go_wp2_with fail
  refine Calls.mono CH.out ?_
  rintro e w2 ⟨rfl, h, k⟩
  have HS2 := Lib.hid h
  have HK2 := Lib.hid (HK1.out.trans k (fun _ _ h => h))
  have KK2 := Lib.hid k
  clear h k HS1 CH
  have C := s32 _ S R _ HS2.out
  rw [← Ec.out] at C
  have CH := Lib.hid C
  clear C
  go_wp2_with fail
  refine Calls.mono CH.out ?_
  rintro e w3 ⟨rfl, h, k⟩
  have HS3 := Lib.hid h
  have HK3 := Lib.hid (HK2.out.trans k (fun _ _ h => h))
  have KK3 := Lib.hid k
  clear h k HS2 CH
  have C := s32 _ S R _ HS3.out
  rw [← Ed.out] at C
  have CH := Lib.hid C
  clear C
  go_wp2_with fail
  refine Calls.mono CH.out ?_
  rintro e w4 ⟨rfl, h, k⟩
  have HS4 := Lib.hid h
  have HK4 := Lib.hid (HK3.out.trans k (fun _ _ h => h))
  have KK4 := Lib.hid k
  clear h k HS3 CH
  have C := s8 _ S R _ HS4.out
  have rn := p8_range HS4.out
  rw [← En.out] at C rn
  have CH := Lib.hid C
  clear C
  go_wp2_with fail
  refine Calls.mono CH.out ?_
  rintro e w5 ⟨rfl, h, k⟩
  have HS5 := Lib.hid h
  have HK5 := Lib.hid (HK4.out.trans k (fun _ _ h => h))
  have KK5 := Lib.hid k
  clear h k HS4 CH
  have C := listMk _ S R _ HS5.out n.1.toNat 40 (by omega) (by omega)
  rw [← Ex.out, show ((n.1.toNat : Nat) : Int) = n.1 from by omega, show ((40 : Nat) : Int) = 40 from rfl] at C
  have CH := Lib.hid C
  clear C
  go_wp2_with fail
  refine Calls.mono CH.out ?_
  rintro e w6 ⟨u1, rfl, hrow, hnew, h, k⟩
  have HS6 := Lib.hid h
  have HK6 := Lib.hid (HK5.out.trans k (fun _ _ h => h))
  have KK6 := Lib.hid k
  have RWu1 := Lib.hid hrow
  have NWu1 := Lib.hid (show ∀ ad, u1.a = some ad → gx + 1 ≤ ad.block from fun ad e => by have := hnew ad e; have := HK5.out.size; have := HSZ.out; omega)
  obtain ⟨u1a, u1n, u1c⟩ := u1
  simp only at RWu1 NWu1 ⊢
  clear hrow hnew h k HS5 CH
  have C := s8 _ S R _ HS6.out
  have rn2 := p8_range HS6.out
  rw [← En2.out] at C rn2
  have CH := Lib.hid C
  clear C
  go_wp2_with fail
  refine Calls.mono CH.out ?_
  rintro e w7 ⟨rfl, h, k⟩
  have HS7 := Lib.hid h
  have HK7 := Lib.hid (HK6.out.trans k (fun _ _ h => h))
  have KK7 := Lib.hid k
  clear h k HS6 CH
  have C := listEn _ S R _ HS7.out n2.1.toNat 40 (by omega) (by omega)
  rw [← Ey.out, show ((n2.1.toNat : Nat) : Int) = n2.1 from by omega, show ((40 : Nat) : Int) = 40 from rfl] at C
  have CH := Lib.hid C
  clear C
  go_wp2_with fail
  refine Calls.mono CH.out ?_
  rintro e w8 ⟨u2, rfl, hrow, hnew, h, k⟩
  have HS8 := Lib.hid h
  have HK8 := Lib.hid (HK7.out.trans k (fun _ _ h => h))
  have KK8 := Lib.hid k
  have RWu2 := Lib.hid hrow
  have NWu2 := Lib.hid (show ∀ ad, u2.a = some ad → gx + 1 ≤ ad.block from fun ad e => by have := hnew ad e; have := HK7.out.size; have := HSZ.out; omega)
  obtain ⟨u2a, u2n, u2c⟩ := u2
  simp only at RWu2 NWu2 ⊢
  clear hrow hnew h k HS7 CH
  have C := s8 _ S R _ HS8.out
  have rn3 := p8_range HS8.out
  rw [← En3.out] at C rn3
  have CH := Lib.hid C
  clear C
  go_wp2_with fail
  refine Calls.mono CH.out ?_
  rintro e w9 ⟨rfl, h, k⟩
  have HS9 := Lib.hid h
  have HK9 := Lib.hid (HK8.out.trans k (fun _ _ h => h))
  have KK9 := Lib.hid k
  clear h k HS8 CH
  have C := listEn _ S R _ HS9.out n3.1.toNat 40 (by omega) (by omega)
  rw [← Ez.out, show ((n3.1.toNat : Nat) : Int) = n3.1 from by omega, show ((40 : Nat) : Int) = 40 from rfl] at C
  have CH := Lib.hid C
  clear C
  go_wp2_with fail
  refine Calls.mono CH.out ?_
  rintro e w10 ⟨u3, rfl, hrow, hnew, h, k⟩
  have HS10 := Lib.hid h
  have HK10 := Lib.hid (HK9.out.trans k (fun _ _ h => h))
  have KK10 := Lib.hid k
  have RWu3 := Lib.hid hrow
  have NWu3 := Lib.hid (show ∀ ad, u3.a = some ad → gx + 1 ≤ ad.block from fun ad e => by have := hnew ad e; have := HK9.out.size; have := HSZ.out; omega)
  obtain ⟨u3a, u3n, u3c⟩ := u3
  simp only at RWu3 NWu3 ⊢
  clear hrow hnew h k HS9 CH
  have hT : ∀ b, SR S R b → b < gx + 1 := fun b e => by rcases e with e | e; have := HGS.out; omega; have := HGR.out; omega
  have R1 := row_new (row_new (row_new (row_new RWu1.out KK7.out NWu1.out hT) KK8.out NWu1.out hT) KK9.out NWu1.out hT) KK10.out NWu1.out hT
  have R2 := row_new (row_new RWu2.out KK9.out NWu2.out hT) KK10.out NWu2.out hT
  obtain ⟨v, hv⟩ : ∃ v : Vt, v = ⟨a.1, b.1, c.1, d.1, ⟨u1a, u1n, u1c⟩, ⟨u2a, u2n, u2c⟩, ⟨u3a, u3n, u3c⟩⟩ := ⟨_, rfl⟩
  have hva : VtAt w10 v X.1.c := by rw [hv, HX.out]; exact ⟨R1, R2, RWu3.out⟩
  have hvn : NewV (gx + 1) v := by rw [hv]; exact ⟨NWu1.out, NWu2.out, NWu3.out⟩
  have hvw : v.f = X.1.f ∧ v.e = X.1.e ∧ v.vw = X.1.vw ∧ v.lo = X.1.lo := by rw [hv, HX.out]; exact ⟨rfl, rfl, rfl, rfl⟩
  have HB := Lib.hid (own_block HK10.out HBX.out (lt_of_block HBX.out) (by have := HGS.out; omega) (by have := HGR.out; omega))
  have HTH := Lib.hid (there_row HB.out rfl)
  have HF := Lib.hid (show (w10.setCells gx 0 v.cells).heap[gx]? = some (.cells v.cells.toArray 32 (0, 0)) by rw [setCells_block _ 32 _ _ _ _ HB.out, over_vote])
  have HFS := Lib.hid (show Sat (w10.setCells gx 0 v.cells) S R X.2 by rw [HX.out]; exact HS10.out.kept Kept.apart (fun e => by have := HGS.out; omega) (fun k hk e => by have := HGR.out; omega))
  have HFK := Lib.hid (Kept.new (vs := v.cells) HBL.out HK10.out (show w.heap.size ≤ gx by have := HGE.out; omega))
  have HFA := Lib.hid (hva.new (T := fun k => k = gx) (Kept.apart (vs := v.cells)) hvn (fun b e => by omega))
  have HFN := Lib.hid (show NewV w.heap.size v from ⟨fun ad e => by have := hvn.1 ad e; have := HGE.out; omega, fun ad e => by have := hvn.2.1 ad e; have := HGE.out; omega, fun ad e => by have := hvn.2.2 ad e; have := HGE.out; omega⟩)
  have HFV := Lib.hid hvw
  have HVC := Lib.hid (show v.cells.toArray = #[.int .u8 a.1, .int .u8 b.1, .int .u32 c.1, .int .u32 d.1, .slice u1a u1n u1c, .slice u2a u2n u2c, .slice u3a u3n u3c] by rw [hv]; rfl)
  clear hT R1 R2 hva hvn hvw hv
  go_wp2_with (first | (refine wpList_store_mid rfl 32 (.tmp 2) (.tmp 32) rfl gx 0 v.cells.toArray rfl (by rw [HVC.out]; rfl) HTH.out size32' (all_oneCell_toArray (Vt.one v)) ?_; refine Hid.out ?_) | go_in)
  refine Lib.hid ?_
  generalize w10.setCells gx 0 v.cells = w11 at *
  go_wp2_with fail
  (try simp only [Exit.inBlock, Exit.then])
  refine bodyPost_ret (results_cell_row (P := Tryd.prog) rfl _ _ gx 32 _ (0, 0) _ rfl HF.out Tryd.underlying32 rfl size32') rfl ?_
  exact ⟨v, rfl, HFV.out, HFA.out, HFN.out, HFS.out, HFK.out⟩
end Go.Proofs.YtmkeckablkccnaaDoor
