/-
  DERIVED. GIVEN WITH THE SEED: THE CARDS: each row of YtakkkkkahijaaabDoorRows.lean that lists a variable, with what it lists TIED to the program's text (the seventh form; the later family's looks); each row that meets fmt, with fmt's text TOLD by the authors' own Lean function (tested against real Go, not proved from fmt's source: count such statements apart). THE CARD IS WHAT COUNTS. Prove the row's statement (the work); the ties are given (YtakkkkkahijaaabDoorTie.lean); close each card by the builder's one call (the guide's Derived/Test/ToyasCard.lean, 'card_holds'). Laid BY PROGRAM, IN A SANDBOX (cutbox-door.mjs). By AI agents, Wed Nov 11 2026. No macro, syntax, notation, axiom, sorry.
-/
import Derived.Test.YtakkkkkahijaaabDoorRows
import GoSem.ClaimSeven
namespace Go.Proofs.YtakkkkkahijaaabDoor
namespace Rows

/-- THE TIED CARD OF 'palisadelaw3.MsgTexts'. -/
def msgTextsCard : Claim7 := { stood := { row := msgTextsRow, standIns := [], harness := (true, "0d782a694b8d529d4571ffb20e8fbd04820ddd92ed744823baea95051e69e7c6"), looks := false }, kinds := [], alts := [], laidByText := true, laidKinds := [.data, .data, .data], laidTests := true, laidLooks := .later }
def MsgTextsCardSaid : Prop := Claim7.holds Tryd.pinned (.plain (OpenSpec.ofChange msgTextsSpec)) msgTextsCard

/-- THE SECOND FORM's CARD OF 'palisadelaw3.MsgTexts'. -/
def msgTextsUptoCard : Claim7 := { stood := { row := msgTextsUptoRow, standIns := [], harness := (true, "0d782a694b8d529d4571ffb20e8fbd04820ddd92ed744823baea95051e69e7c6"), looks := false }, kinds := [], alts := [], laidByText := true, laidKinds := [.data, .data, .data], laidTests := true, laidLooks := .later }
def MsgTextsUptoCardSaid : Prop := Claim7.holds Tryd.pinned (.plain (OpenSpec.upto msgTextsSpec)) msgTextsUptoCard
end Rows
end Go.Proofs.YtakkkkkahijaaabDoor
