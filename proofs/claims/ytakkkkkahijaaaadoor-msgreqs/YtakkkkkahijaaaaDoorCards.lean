/-
  DERIVED. GIVEN WITH THE SEED: THE CARDS: each row of YtakkkkkahijaaaaDoorRows.lean that lists a variable, with what it lists TIED to the program's text (the seventh form; the later family's looks); each row that meets fmt, with fmt's text TOLD by the authors' own Lean function (tested against real Go, not proved from fmt's source: count such statements apart). THE CARD IS WHAT COUNTS. Prove the row's statement (the work); the ties are given (YtakkkkkahijaaaaDoorTie.lean); close each card by the builder's one call (the guide's Derived/Test/ToyasCard.lean, 'card_holds'). Laid BY PROGRAM, IN A SANDBOX (cutbox-door.mjs). By AI agents, Wed Nov 11 2026. No macro, syntax, notation, axiom, sorry.
-/
import Derived.Test.YtakkkkkahijaaaaDoorRows
import GoSem.ClaimSeven
namespace Go.Proofs.YtakkkkkahijaaaaDoor
namespace Rows

/-- THE TIED CARD OF 'palisadelaw3.MsgBack'. -/
def msgBackCard : Claim7 := { stood := { row := msgBackRow, standIns := [], harness := (true, "eaaa400bd572b9e66bd7c21aa4cbe77bd87db9b65d0c6d8d528e52ce948cef39"), looks := false }, kinds := [], alts := [], laidByText := true, laidKinds := [.data, .data, .data], laidTests := true, laidLooks := .later }
def MsgBackCardSaid : Prop := Claim7.holds Tryd.pinned (.plain (OpenSpec.ofChange msgBackSpec)) msgBackCard

/-- THE TIED CARD OF 'palisadelaw3.MsgVotes'. -/
def msgVotesCard : Claim7 := { stood := { row := msgVotesRow, standIns := [], harness := (true, "eaaa400bd572b9e66bd7c21aa4cbe77bd87db9b65d0c6d8d528e52ce948cef39"), looks := false }, kinds := [], alts := [], laidByText := true, laidKinds := [.data, .data, .data], laidTests := true, laidLooks := .later }
def MsgVotesCardSaid : Prop := Claim7.holds Tryd.pinned (.plain (OpenSpec.ofChange msgVotesSpec)) msgVotesCard

/-- THE TIED CARD OF 'palisadelaw3.MsgKinds'. -/
def msgKindsCard : Claim7 := { stood := { row := msgKindsRow, standIns := [], harness := (true, "eaaa400bd572b9e66bd7c21aa4cbe77bd87db9b65d0c6d8d528e52ce948cef39"), looks := false }, kinds := [], alts := [], laidByText := true, laidKinds := [.data, .data, .data], laidTests := true, laidLooks := .later }
def MsgKindsCardSaid : Prop := Claim7.holds Tryd.pinned (.plain (OpenSpec.ofChange msgKindsSpec)) msgKindsCard

/-- THE TIED CARD OF 'palisadelaw3.MsgReqs'. -/
def msgReqsCard : Claim7 := { stood := { row := msgReqsRow, standIns := [], harness := (true, "eaaa400bd572b9e66bd7c21aa4cbe77bd87db9b65d0c6d8d528e52ce948cef39"), looks := false }, kinds := [], alts := [], laidByText := true, laidKinds := [.data, .data, .data], laidTests := true, laidLooks := .later }
def MsgReqsCardSaid : Prop := Claim7.holds Tryd.pinned (.plain (OpenSpec.ofChange msgReqsSpec)) msgReqsCard

/-- THE SECOND FORM's CARD OF 'palisadelaw3.MsgBack'. -/
def msgBackUptoCard : Claim7 := { stood := { row := msgBackUptoRow, standIns := [], harness := (true, "eaaa400bd572b9e66bd7c21aa4cbe77bd87db9b65d0c6d8d528e52ce948cef39"), looks := false }, kinds := [], alts := [], laidByText := true, laidKinds := [.data, .data, .data], laidTests := true, laidLooks := .later }
def MsgBackUptoCardSaid : Prop := Claim7.holds Tryd.pinned (.plain (OpenSpec.upto msgBackSpec)) msgBackUptoCard

/-- THE SECOND FORM's CARD OF 'palisadelaw3.MsgVotes'. -/
def msgVotesUptoCard : Claim7 := { stood := { row := msgVotesUptoRow, standIns := [], harness := (true, "eaaa400bd572b9e66bd7c21aa4cbe77bd87db9b65d0c6d8d528e52ce948cef39"), looks := false }, kinds := [], alts := [], laidByText := true, laidKinds := [.data, .data, .data], laidTests := true, laidLooks := .later }
def MsgVotesUptoCardSaid : Prop := Claim7.holds Tryd.pinned (.plain (OpenSpec.upto msgVotesSpec)) msgVotesUptoCard

/-- THE SECOND FORM's CARD OF 'palisadelaw3.MsgKinds'. -/
def msgKindsUptoCard : Claim7 := { stood := { row := msgKindsUptoRow, standIns := [], harness := (true, "eaaa400bd572b9e66bd7c21aa4cbe77bd87db9b65d0c6d8d528e52ce948cef39"), looks := false }, kinds := [], alts := [], laidByText := true, laidKinds := [.data, .data, .data], laidTests := true, laidLooks := .later }
def MsgKindsUptoCardSaid : Prop := Claim7.holds Tryd.pinned (.plain (OpenSpec.upto msgKindsSpec)) msgKindsUptoCard

/-- THE SECOND FORM's CARD OF 'palisadelaw3.MsgReqs'. -/
def msgReqsUptoCard : Claim7 := { stood := { row := msgReqsUptoRow, standIns := [], harness := (true, "eaaa400bd572b9e66bd7c21aa4cbe77bd87db9b65d0c6d8d528e52ce948cef39"), looks := false }, kinds := [], alts := [], laidByText := true, laidKinds := [.data, .data, .data], laidTests := true, laidLooks := .later }
def MsgReqsUptoCardSaid : Prop := Claim7.holds Tryd.pinned (.plain (OpenSpec.upto msgReqsSpec)) msgReqsUptoCard
end Rows
end Go.Proofs.YtakkkkkahijaaaaDoor
