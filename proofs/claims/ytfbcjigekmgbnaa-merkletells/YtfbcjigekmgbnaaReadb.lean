/- What reading bytes behind their length returns. -/
import Derived.Test.YtfbcjigekmgbnaaReads
namespace Go.Proofs.Ytfbcjigekmgbnaa
open Go.RowKit
set_option maxRecDepth 100000

theorem rd_head {w : World} {R : Nat} {l : List Int} {ao : Option Addr} {cap : Nat} (h : Rd w R l) (h2 : 2 ≤ l.length) (hb : w.heap[R]? = some (.cells #[.slice ao l.length cap] 98 (0, 0))) (hB : Bytes w ao l) :
    ∃ g off, ao = some ⟨g, off, none⟩ ∧ Calls Try.prog 61 #[.slice (some ⟨g, off, none⟩) l.length cap] w fun e w' => e = .returned (.int .u16 (rd16 l)) ∧ ∃ n, w' = w.drewN n := by
  obtain ⟨g, off, rfl, hcell⟩ := bytes_at hB (by omega)
  refine ⟨g, off, rfl, ?_⟩
  exact join16_any w g off l.length cap _ _ h2 (h.byte 0 (by omega)) (h.byte 1 (by omega)) (by simpa using hcell 0 (by omega)) (hcell 1 (by omega))

theorem rd16_range {w : World} {R : Nat} {l : List Int} (h : Rd w R l) (h2 : 2 ≤ l.length) : 0 ≤ rd16 l ∧ rd16 l ≤ 65535 := two_bytes (h.byte 0 (by omega)) (h.byte 1 (by omega))
end Go.Proofs.Ytfbcjigekmgbnaa
