/- readValues, readClients: what they put. -/
import Derived.Test.YtphakceboohbhaaByt
namespace Go.Proofs.Ytphakceboohbhaa
open Go.RowKit
set_option maxRecDepth 100000

theorem setClient_any (w : World) (B : Nat) (k : Nat) (ts rs : Int) (V : Nat → Int) (S : (Nat → Int) × (Nat → Int)) (h : Mp w B V S.1 S.2) :
    Calls Try.prog 29 #[.pointer (some ⟨B, 0, none⟩), .int .u8 k, .int .u32 ts, .int .u32 rs] w fun e w' => e = .returned (.tuple #[]) ∧ Kept (fun i => i = B) w w' ∧
      Mp w' B V (putC S k ts rs).1 (putC S k ts rs).2 := by
  unfold putC
  by_cases hk : 1 ≤ k ∧ k ≤ 4
  · rw [if_pos (by omega)]
    exact setClient_some w B k ts rs V S.1 S.2 h hk
  · rw [if_neg (by omega)]
    refine (setClient_none w B k ts rs hk).mono ?_
    rintro e w' ⟨rfl, rfl⟩
    exact ⟨rfl, Kept.refl _ _, h⟩

end Go.Proofs.Ytphakceboohbhaa
