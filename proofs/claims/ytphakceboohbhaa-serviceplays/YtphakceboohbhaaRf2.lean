/- The document's requests, entries, clients: which there may be; which of two entries stands ahead. -/
import Derived.Test.YtphakceboohbhaaReq
namespace Go.Proofs.Ytphakceboohbhaa
open Go.RowKit
set_option maxRecDepth 100000

set_option maxHeartbeats 4000000 in
theorem refIsReq_any (r : Rq) (w : World) : Calls Try.prog 24 #[.agg r.cells.toArray] w fun e w' => e = .returned (.bool r.is) ∧ Below w.heap.size w w' := by
  have hq := eql27 r Rq.zero
  have hg := fun op a b w => guard27 op a b r Rq.zero w
  obtain ⟨bb, hb⟩ : ∃ b, b = r.is := ⟨_, rfl⟩
  rw [← hb]
  unfold Rq.is at hb
  have HB := Lib.hid hb
  clear hb
  by_cases h0 : r = Rq.zero
  · simp only [h0, decide_true] at hq
    simp only [h0, Rq.zero, Rq.cells] at hq hg ⊢
    go_enter Try.func24, Try.ntmps24
    go_wp2_with fail
    go_ret
    refine ⟨?_, (Below.refl _ _).alloc (Nat.le_refl _) _⟩
    rw [HB.out, h0]
    simp
  · have H0 := Lib.hid h0
    simp only [h0, decide_false] at hq
    obtain ⟨c, t, k, y, v⟩ := r
    simp only [Rq.zero, Rq.cells] at hq hg ⊢
    have HQ : (decide ((⟨c, t, k, y, v⟩ : Rq) = Rq.zero)) = false := decide_eq_false H0.out
    rw [HQ] at HB
    simp only [Bool.false_or] at HB
    clear h0 H0 HQ
    by_cases g1 : 1 ≤ c
    · skip
      by_cases g2 : c ≤ 4
      · skip
        by_cases g3 : t ≠ 0
        · skip
          by_cases g4 : 1 ≤ k
          · skip
            by_cases g5 : k ≤ 3
            · skip
              by_cases g6 : y < 64
              · skip
                by_cases g7 : k = 2
                · by_cases g8 : v = 0
                  · skip
                    go_enter Try.func24, Try.ntmps24
                    go_wp2_with fail
                    go_ret
                    refine ⟨?_, (Below.refl _ _).alloc (Nat.le_refl _) _⟩
                    rw [HB.out]
                    clear hq hg HB
                    simp_all [Rq.isOp]
                    try (intros; omega)
                  · skip
                    go_enter Try.func24, Try.ntmps24
                    go_wp2_with fail
                    go_ret
                    refine ⟨?_, (Below.refl _ _).alloc (Nat.le_refl _) _⟩
                    rw [HB.out]
                    clear hq hg HB
                    simp_all [Rq.isOp]
                    try (intros; omega)
                · skip
                  go_enter Try.func24, Try.ntmps24
                  go_wp2_with fail
                  go_ret
                  refine ⟨?_, (Below.refl _ _).alloc (Nat.le_refl _) _⟩
                  rw [HB.out]
                  clear hq hg HB
                  simp_all [Rq.isOp]
                  try (intros; omega)
              · skip
                go_enter Try.func24, Try.ntmps24
                go_wp2_with fail
                go_ret
                refine ⟨?_, (Below.refl _ _).alloc (Nat.le_refl _) _⟩
                rw [HB.out]
                clear hq hg HB
                simp_all [Rq.isOp]
                try (intros; omega)
            · skip
              go_enter Try.func24, Try.ntmps24
              go_wp2_with fail
              go_ret
              refine ⟨?_, (Below.refl _ _).alloc (Nat.le_refl _) _⟩
              rw [HB.out]
              clear hq hg HB
              simp_all [Rq.isOp]
              try (intros; omega)
          · skip
            go_enter Try.func24, Try.ntmps24
            go_wp2_with fail
            go_ret
            refine ⟨?_, (Below.refl _ _).alloc (Nat.le_refl _) _⟩
            rw [HB.out]
            clear hq hg HB
            simp_all [Rq.isOp]
            try (intros; omega)
        · skip
          go_enter Try.func24, Try.ntmps24
          go_wp2_with fail
          go_ret
          refine ⟨?_, (Below.refl _ _).alloc (Nat.le_refl _) _⟩
          rw [HB.out]
          clear hq hg HB
          simp_all [Rq.isOp]
          try (intros; omega)
      · skip
        go_enter Try.func24, Try.ntmps24
        go_wp2_with fail
        go_ret
        refine ⟨?_, (Below.refl _ _).alloc (Nat.le_refl _) _⟩
        rw [HB.out]
        clear hq hg HB
        simp_all [Rq.isOp]
        try (intros; omega)
    · skip
      go_enter Try.func24, Try.ntmps24
      go_wp2_with fail
      go_ret
      refine ⟨?_, (Below.refl _ _).alloc (Nat.le_refl _) _⟩
      rw [HB.out]
      clear hq hg HB
      simp_all [Rq.isOp]
      try (intros; omega)

set_option maxHeartbeats 1000000 in
theorem refNull_any (r : Rq) (w : World) : Calls Try.prog 25 #[.agg r.cells.toArray] w fun e w' => e = .returned (.bool (decide (r = Rq.zero))) ∧ Below w.heap.size w w' := by
  have hq := eql27 r Rq.zero
  have hg := fun op a b w => guard27 op a b r Rq.zero w
  generalize decide (r = Rq.zero) = b at *
  simp only [Rq.zero, Rq.cells] at hq hg ⊢
  go_enter Try.func25, Try.ntmps25
  go_wp2_with fail
  go_ret
  exact ⟨rfl, (Below.refl _ _).alloc (Nat.le_refl _) _⟩

end Go.Proofs.Ytphakceboohbhaa
