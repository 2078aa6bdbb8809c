/- The known answers of what the adversary can make. -/
import Derived.Test.YtigpfaecbmnklaaDoorKnow6
namespace Go.Proofs.YtigpfaecbmnklaaDoor
open Go.RowKit Go.Maps
set_option maxRecDepth 100000

def k0 : Mg := { hm 3 2 1 1 with sq := 4 }
def kS1 : Kn := ⟨[⟨2, 1⟩], [], [], []⟩
theorem k0_at (w : World) : MgAt w k0 Mc.nil := nil_at w _ ⟨rfl, rfl, rfl⟩ rfl rfl rfl
def kz : Mg := hm 0 0 0 0
theorem kz_at (w : World) : MgAt w kz Mc.nil := nil_at w _ ⟨rfl, rfl, rfl⟩ rfl rfl rfl
theorem nil_ok : McOk Mc.nil := ⟨⟨fun x hx => (by cases hx), fun x hx => (by cases hx)⟩, fun x hx => (by cases hx)⟩
theorem can_k0 : canB Kn.none k0 Mc.nil = 40 := by decide
theorem can_k1 : canB kS1 k0 Mc.nil = 0 := by decide
theorem can_kz : canB kS1 kz Mc.nil = 30 := by decide
theorem learn_k1 : learnK Kn.none ⟨2, 1⟩ = kS1 := by rfl
theorem zero_ok : Rq.zero.ok := by unfold Rq.ok Rq.zero; simp
theorem ky21 : Ky.ok ⟨2, 1⟩ := by unfold Ky.ok; simp
theorem ky00 : Ky.ok ⟨0, 0⟩ := by unfold Ky.ok; simp

set_option maxHeartbeats 8000000 in
theorem known17 (w : World) (ht : Tab w) : Calls Tryd.prog 17 #[] w fun e w' => e = .returned (.bool true) ∧ Below w.heap.size w w' := by
  have HT := Lib.hid ht
  clear ht
  go_enter Tryd.func17, Tryd.ntmps17
  go_wp2_with fail
  refine Calls.mono (new18 _) ?_
  rintro e w1 ⟨rfl, hw1⟩
  have hk1 : Kw w.heap.size w1 w.heap.size Kn.none := by rw [hw1]; exact kw_new w _ (Nat.le_refl _)
  have hb1 : Below w.heap.size w w1 := by rw [hw1]; exact (Below.refl _ _).alloc (Nat.le_refl _) _
  have HK1 := Lib.hid hk1
  have B1 := Lib.hid hb1
  clear hw1 hk1 hb1
  generalize hB : w.heap.size = B at *
  obtain ⟨U, hU⟩ : ∃ U, U = (w1.alloc (.cells Vz.toArray 37)).setCells w1.heap.size 0 k0.cells := ⟨_, rfl⟩
  obtain ⟨hbx, hbu, hth⟩ := msg_new w1 _ hU
  have HTH := Lib.hid hth
  have HU := Lib.hid hU
  have HBX := Lib.hid hbx
  have HK2 := Lib.hid (HK1.out.on hbu)
  have B2 := Lib.hid (B1.out.trans (hbu.mono HK1.out.le))
  have HMB := Lib.hid (show w1.heap.size ≠ B from by have := HK1.out.lt; omega)
  clear hU hbx hbu hth
  go_upto_region 4 with fail
  refine wp_region_lit ?_
  refine wpl_val (v := .agg k0.cells.toArray) (w1 := w1) rfl (by simp only [k0, hm, Mg.cells, Rq.zero, Vt.zero]; go_simp) _ rfl ?_
  refine wpl_val (v := .pointer (some ⟨w1.heap.size, 0, none⟩)) (w1 := w1.alloc (.cells Vz.toArray 37)) rfl (by simp only [Vz]; go_simp) _ rfl ?_
  refine wpList_store_mid rfl 37 (.tmp 2) (.tmp 7) rfl w1.heap.size 0 k0.cells.toArray rfl rfl HTH.out size37 (all_oneCell_toArray (Mg.one _)) ?_
  dsimp only
  rw [← HU.out]
  clear HTH HU
  generalize hM : w1.heap.size = M at *
  have CC := Lib.hid (fun S w' (h : Kw B w' B S) (hb : Below B w w') => can22 B w' B S h k0 Mc.nil (k0_at w') nil_ok (Tab.on HT.out (by rw [hB]; exact hb)) (by decide) rfl ky21 zero_ok)
  have CZ := Lib.hid (fun w' (h : Kw B w' B kS1) (hb : Below B w w') => can22 B w' B kS1 h kz Mc.nil (kz_at w') nil_ok (Tab.on HT.out (by rw [hB]; exact hb)) (by decide) rfl ky00 zero_ok)
  rw [can_kz] at CZ
  generalize hA : k0.cells.toArray = A at *
  have HSZ := Lib.hid (show A.size = 25 by rw [← hA]; rfl)
  clear hA
  go_upto_region 5 with fail
  refine wp_region_lit ?_
  refine wpl_val (v := .pointer (some ⟨B, 0, none⟩)) (w1 := U) rfl (by go_simp) _ rfl ?_
  refine wpList_load_row rfl 37 (.tmp 2) rfl M rfl 37 _ (0, 0) _ HBX.out Tryd.underlying37 rfl (by rw [HSZ.out]; exact size37) ?_
  go_wp2_with fail
  have C1 := CC.out Kn.none U HK2.out B2.out
  rw [can_k0] at C1
  refine Calls.mono C1 ?_
  rintro e w2 ⟨rfl, hb2⟩
  have HK3 := Lib.hid (HK2.out.on hb2)
  have B3 := Lib.hid (B2.out.trans (hb2.mono HK2.out.le))
  have HBX3 := Lib.hid ((hb2.block _ (lt_of_block HBX.out)).trans HBX.out)
  clear hb2 C1
  go_wp2_with fail
  have CL := learn19 B w2 B Kn.none HK3.out ⟨2, 1⟩ ky21 (by simp [Kn.none])
  rw [learn_k1] at CL
  simp only [Ky.cells] at CL
  refine Calls.mono CL ?_
  rintro e w3 ⟨rfl, hk4, hs4⟩
  have HK4 := Lib.hid hk4
  have B4 := Lib.hid (B3.out.trans hs4.bel)
  have HBX4 := Lib.hid (hs4.stay _ _ _ _ HMB.out HBX3.out)
  clear hk4 hs4 CL
  go_upto_region 7 with fail
  have hLA : (Instr.loadAt 37 (.pointer (some ⟨M, 0, none⟩))).run Tryd.prog w3 = .ok (.agg A) w3 := by
    have := run_loadVar_row (P := Tryd.prog) w3 M 37 37 _ (0, 0) _ HBX4.out Tryd.underlying37 rfl (by rw [HSZ.out]; exact size37)
    simp only [Instr.loadAt, Instr.sureAddr, Sem.run_bind, Sem.run_pure, Result.andThen_ok, this]
  refine wp_region_lit ?_
  refine wpl_val (v := .int .i64 40) (w1 := w3) rfl (by go_simp) _ rfl ?_
  refine wpl_val (v := .bool true) (w1 := w3) rfl (by go_simp) _ rfl ?_
  refine wpl_val (v := .bool true) (w1 := w3) rfl (by go_simp) _ rfl ?_
  refine wpl_valg (v := .pointer (some ⟨B, 0, none⟩)) (w1 := w3) rfl (by go_simp) _ rfl ?_
  refine wpl_valg (v := .agg A) (w1 := w3) rfl (exec_load 37 (.tmp 2) rfl rfl hLA) _ rfl ?_
  clear hLA
  go_wp2_with fail
  have C2 := CC.out kS1 w3 HK4.out B4.out
  rw [can_k1] at C2
  refine Calls.mono C2 ?_
  rintro e w4 ⟨rfl, hb4⟩
  have HK5 := Lib.hid (HK4.out.on hb4)
  have B5 := Lib.hid (B4.out.trans (hb4.mono HK4.out.le))
  clear hb4 C2
  go_wp2_with fail
  have C3 := has51 B w4 B kS1 HK5.out ⟨2, 1⟩ ky21
  rw [show memB (⟨2, 1⟩ : Ky) kS1.k = true by decide] at C3
  simp only [Ky.cells] at C3
  refine Calls.mono C3 ?_
  rintro e w5 ⟨rfl, hb5⟩
  have HK6 := Lib.hid (HK5.out.on hb5)
  have B6 := Lib.hid (B5.out.trans (hb5.mono HK5.out.le))
  clear hb5 C3
  go_wp2_with fail
  have C4 := knows21 B w5 B kS1 HK6.out Rq.zero zero_ok
  rw [show knowsB kS1 Rq.zero = true by decide] at C4
  simp only [Rq.cells, Rq.zero] at C4
  refine Calls.mono C4 ?_
  rintro e w6 ⟨rfl, hb6⟩
  have HK7 := Lib.hid (HK6.out.on hb6)
  have B7 := Lib.hid (B6.out.trans (hb6.mono HK6.out.le))
  clear hb6 C4
  go_wp2_with fail
  have C5 := CZ.out w6 HK7.out B7.out
  simp only [kz, hm, Mg.cells, Rq.zero, Vt.zero] at C5
  refine Calls.mono C5 ?_
  rintro e w7 ⟨rfl, hb7⟩
  have B8 := Lib.hid (B7.out.trans (hb7.mono HK7.out.le))
  clear hb7 C5
  go_wp2_with fail
  go_ret
  exact ⟨rfl, by rw [hB]; exact B8.out⟩
end Go.Proofs.YtigpfaecbmnklaaDoor
