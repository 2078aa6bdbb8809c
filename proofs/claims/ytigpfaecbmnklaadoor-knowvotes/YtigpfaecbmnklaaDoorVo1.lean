/- The bytes that stand for a vote. -/
import Derived.Test.YtigpfaecbmnklaaDoorKnow6
namespace Go.Proofs.YtigpfaecbmnklaaDoor
open Go.RowKit Go.Maps
set_option maxRecDepth 100000

/-- the message that casts a vote, to the first replica -/
def mgV (v : Vt) : Mg := { hm 6 v.f 0 v.e with vt := v }
def mcV (c : Vc) : Mc := { Mc.nil with vt := c }
def votB (v : Vt) (c : Vc) : List UInt8 := if isM (mgV v) (mcV c) then toU (encM (mgV v) (mcV c)) else []

theorem mgV_at {w : World} {v : Vt} {c : Vc} (h : VtAt w v c) : MgAt w (mgV v) (mcV c) :=
  ⟨h, (nil_at w (hm 0 0 0 0) ⟨rfl, rfl, rfl⟩ rfl rfl rfl).vs, (nil_at w (hm 0 0 0 0) ⟨rfl, rfl, rfl⟩ rfl rfl rfl).sm, (nil_at w (hm 0 0 0 0) ⟨rfl, rfl, rfl⟩ rfl rfl rfl).dt⟩
theorem mcV_ok {c : Vc} (h : VcOk c) : McOk (mcV c) := ⟨h, fun x hx => by cases hx⟩
theorem size32 : (Tryd.prog.info? 32).map (·.size) = some 7 := by kernel_rfl
theorem cell_vt {w' : World} {g : Nat} {v : Vt} (h : w'.heap[g]? = some (.cells v.cells.toArray 32 (0, 0))) (i : Nat) : w'.cell? ⟨g, i, none⟩ = v.cells[i]? := by
  rw [cell_of_row _ _ i _ _ _ h]; simp
theorem vt_load0 {w' : World} {g : Nat} {v : Vt} (h : w'.heap[g]? = some (.cells v.cells.toArray 32 (0, 0))) : (Instr.loadAt 32 (.pointer (some ⟨g, 0, none⟩))).run Tryd.prog w' = .ok (.agg v.cells.toArray) w' := by
  exact vt_load (o := 0) (fun i u hi => by rw [Nat.zero_add, cell_vt h]; exact hi)

theorem votB_len {w : World} {v : Vt} {c : Vc} (h : VtAt w v c) : (votB v c).length ≤ 8000 := by
  unfold votB
  split
  · next hi => simp only [toU, List.length_map]; exact encM_len (mgV_at h) hi
  · simp

set_option maxHeartbeats 4000000 in
theorem bytesOf55 (w : World) (v : Vt) (c : Vc) (h : VtAt w v c) (hok : VcOk c) (ht : Tab w) : Calls Tryd.prog 55 #[.agg v.cells.toArray] w fun e w' => e = .returned (stV (votB v c)) ∧ Below w.heap.size w w' := by
  obtain ⟨W, hW⟩ : ∃ W, W = w.alloc (.cells v.cells.toArray 32) := ⟨_, rfl⟩
  have hbl : Below w.heap.size w W := by rw [hW]; exact (Below.refl _ _).alloc (Nat.le_refl _) _
  have hbx : W.heap[w.heap.size]? = some (.cells v.cells.toArray 32 (0, 0)) := by rw [hW]; exact heap_alloc_new _ _
  have q0 : W.cell? ⟨w.heap.size, 0, none⟩ = some (.int .u8 v.f) := cell_vt hbx 0
  have q1 : W.cell? ⟨w.heap.size, 1, none⟩ = some (.int .u8 v.e) := cell_vt hbx 1
  have hLA := vt_load0 hbx
  have CE := Lib.hid (enc_ok W (mgV v) (mcV c) (mgV_at (h.below hbl)) (mcV_ok hok) (Tab.on ht hbl))
  obtain ⟨r, hr⟩ : ∃ r, r = votB v c := ⟨_, rfl⟩
  rw [← hr]
  unfold votB at hr
  have HR := Lib.hid hr
  have HLA := Lib.hid hLA
  have HBL := Lib.hid hbl
  have HW := Lib.hid hW
  clear hW hbx hbl h hok ht hr hLA
  simp only [Vt.cells] at HW ⊢
  go_enter Tryd.func55, Tryd.ntmps55
  go_upto_region 1 with fail
  rw [← HW.out]
  have eA : (#[.int .u8 v.f, .int .u8 v.e, .int .u32 v.vw, .int .u32 v.lo, .slice v.ms.a v.ms.n v.ms.c, .slice v.p.a v.p.n v.p.c, .slice v.q.a v.q.n v.q.c] : Array Value) = v.cells.toArray := rfl
  rw [eA]
  clear eA HW
  obtain ⟨gx, hgx⟩ : ∃ g, g = w.heap.size := ⟨_, rfl⟩
  rw [← hgx] at HLA q0 q1 ⊢
  clear hgx
  refine wp_region_lit ?_
  refine wpl_val (v := .pointer (some ⟨gx, 0, none⟩)) (w1 := W) rfl (by go_simp) _ rfl ?_
  refine wpl_val (v := .int .u8 v.f) (w1 := W) rfl (by go_simp) _ rfl ?_
  refine wpl_val (v := .pointer (some ⟨gx, 1, none⟩)) (w1 := W) rfl (by go_simp) _ rfl ?_
  refine wpl_val (v := .int .u8 v.e) (w1 := W) rfl (by go_simp) _ rfl ?_
  refine wpl_val (v := .agg v.cells.toArray) (w1 := W) rfl (exec_load 32 (.tmp 1) rfl rfl HLA.out) _ rfl ?_
  refine wpl_val (v := .agg (mgV v).cells.toArray) (w1 := W) rfl (by simp only [mgV, hm, Mg.cells, Vt.cells, Rq.zero, Vt.zero]; go_simp) _ rfl ?_
  generalize (mgV v).cells.toArray = A at *
  generalize v.cells.toArray = A2 at *
  go_wp2_with fail
  refine Calls.mono CE.out ?_
  rintro e W1 ⟨hres, hb1⟩
  have HB1 := Lib.hid (HBL.out.trans (hb1.mono HBL.out.size))
  clear hb1 CE q0 q1 HLA
  rcases hres with ⟨hi, rfl⟩ | ⟨hi, ao, kc, rfl, hnew⟩
  · have HI := Lib.hid hi
    clear hi
    have hsn := str_bytes (w := W1) (ao := none) (c := 0) (l := []) (fun i hi => by simp at hi) (fun _ => rfl)
    simp only [List.length_nil] at hsn
    go_wp2_with fail
    go_ret
    refine ⟨?_, HB1.out⟩
    rw [HR.out, HI.out]
    rfl
  · have hsn := str_bytes (w := W1) (c := kc) (own_bytes hnew.1) (fun e => (hnew.none e).1)
    have hsx : strOfNums (encM (mgV v) (mcV c)) = ⟨(toU (encM (mgV v) (mcV c))).toArray⟩ := rfl
    rw [hsx] at hsn
    have HI := Lib.hid hi
    clear hi hnew hsx
    generalize encM (mgV v) (mcV c) = el at *
    go_wp2_with fail
    go_ret
    refine ⟨?_, HB1.out⟩
    rw [HR.out, HI.out]
    rfl
end Go.Proofs.YtigpfaecbmnklaaDoor
