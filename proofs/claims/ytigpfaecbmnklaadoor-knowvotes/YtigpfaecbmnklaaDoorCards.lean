/-
  DERIVED. GIVEN WITH THE SEED: THE CARDS: each row of YtigpfaecbmnklaaDoorRows.lean that lists a variable, with what it lists TIED to the program's text (the seventh form; the later family's looks); each row that meets fmt, with fmt's text TOLD by the authors' own Lean function (tested against real Go, not proved from fmt's source: count such statements apart). THE CARD IS WHAT COUNTS. Prove the row's statement (the work); the ties are given (YtigpfaecbmnklaaDoorTie.lean); close each card by the builder's one call (the guide's Derived/Test/ToyasCard.lean, 'card_holds'). Laid BY PROGRAM, IN A SANDBOX (cutbox-door.mjs). By AI agents, Wed Nov 11 2026. No macro, syntax, notation, axiom, sorry.
-/
import Derived.Test.YtigpfaecbmnklaaDoorRows
import GoSem.ClaimSeven
namespace Go.Proofs.YtigpfaecbmnklaaDoor
namespace Rows

/-- THE TIED CARD OF 'palisadelaw3.MsgBack'. -/
def msgBackCard : Claim7 := { stood := { row := msgBackRow, standIns := [], harness := (true, "008c986f672baaccd922d08d2bd4247b23ffe25c2db08fc45d0a643210999369"), looks := false }, kinds := [], alts := [], laidByText := true, laidKinds := [.data, .data, .data], laidTests := true, laidLooks := .later }
def MsgBackCardSaid : Prop := Claim7.holds Tryd.pinned (.plain (OpenSpec.ofChange msgBackSpec)) msgBackCard

/-- THE TIED CARD OF 'palisadelaw3.MsgVotes'. -/
def msgVotesCard : Claim7 := { stood := { row := msgVotesRow, standIns := [], harness := (true, "008c986f672baaccd922d08d2bd4247b23ffe25c2db08fc45d0a643210999369"), looks := false }, kinds := [], alts := [], laidByText := true, laidKinds := [.data, .data, .data], laidTests := true, laidLooks := .later }
def MsgVotesCardSaid : Prop := Claim7.holds Tryd.pinned (.plain (OpenSpec.ofChange msgVotesSpec)) msgVotesCard

/-- THE TIED CARD OF 'palisadelaw3.MsgKinds'. -/
def msgKindsCard : Claim7 := { stood := { row := msgKindsRow, standIns := [], harness := (true, "008c986f672baaccd922d08d2bd4247b23ffe25c2db08fc45d0a643210999369"), looks := false }, kinds := [], alts := [], laidByText := true, laidKinds := [.data, .data, .data], laidTests := true, laidLooks := .later }
def MsgKindsCardSaid : Prop := Claim7.holds Tryd.pinned (.plain (OpenSpec.ofChange msgKindsSpec)) msgKindsCard

/-- THE TIED CARD OF 'palisadelaw4.KnowOwn'. -/
def knowOwnCard : Claim7 := { stood := { row := knowOwnRow, standIns := [], harness := (true, "008c986f672baaccd922d08d2bd4247b23ffe25c2db08fc45d0a643210999369"), looks := false }, kinds := [], alts := [], laidByText := true, laidKinds := [.data, .data, .data], laidTests := true, laidLooks := .later }
def KnowOwnCardSaid : Prop := Claim7.holds Tryd.pinned (.plain (OpenSpec.ofChange knowOwnSpec)) knowOwnCard

/-- THE TIED CARD OF 'palisadelaw4.KnowReplays'. -/
def knowReplaysCard : Claim7 := { stood := { row := knowReplaysRow, standIns := [], harness := (true, "008c986f672baaccd922d08d2bd4247b23ffe25c2db08fc45d0a643210999369"), looks := false }, kinds := [], alts := [], laidByText := true, laidKinds := [.data, .data, .data], laidTests := true, laidLooks := .later }
def KnowReplaysCardSaid : Prop := Claim7.holds Tryd.pinned (.plain (OpenSpec.ofChange knowReplaysSpec)) knowReplaysCard

/-- THE TIED CARD OF 'palisadelaw4.KnowVotes'. -/
def knowVotesCard : Claim7 := { stood := { row := knowVotesRow, standIns := [], harness := (true, "008c986f672baaccd922d08d2bd4247b23ffe25c2db08fc45d0a643210999369"), looks := false }, kinds := [], alts := [], laidByText := true, laidKinds := [.data, .data, .data], laidTests := true, laidLooks := .later }
def KnowVotesCardSaid : Prop := Claim7.holds Tryd.pinned (.plain (OpenSpec.ofChange knowVotesSpec)) knowVotesCard

/-- THE SECOND FORM's CARD OF 'palisadelaw3.MsgBack'. -/
def msgBackUptoCard : Claim7 := { stood := { row := msgBackUptoRow, standIns := [], harness := (true, "008c986f672baaccd922d08d2bd4247b23ffe25c2db08fc45d0a643210999369"), looks := false }, kinds := [], alts := [], laidByText := true, laidKinds := [.data, .data, .data], laidTests := true, laidLooks := .later }
def MsgBackUptoCardSaid : Prop := Claim7.holds Tryd.pinned (.plain (OpenSpec.upto msgBackSpec)) msgBackUptoCard

/-- THE SECOND FORM's CARD OF 'palisadelaw3.MsgVotes'. -/
def msgVotesUptoCard : Claim7 := { stood := { row := msgVotesUptoRow, standIns := [], harness := (true, "008c986f672baaccd922d08d2bd4247b23ffe25c2db08fc45d0a643210999369"), looks := false }, kinds := [], alts := [], laidByText := true, laidKinds := [.data, .data, .data], laidTests := true, laidLooks := .later }
def MsgVotesUptoCardSaid : Prop := Claim7.holds Tryd.pinned (.plain (OpenSpec.upto msgVotesSpec)) msgVotesUptoCard

/-- THE SECOND FORM's CARD OF 'palisadelaw3.MsgKinds'. -/
def msgKindsUptoCard : Claim7 := { stood := { row := msgKindsUptoRow, standIns := [], harness := (true, "008c986f672baaccd922d08d2bd4247b23ffe25c2db08fc45d0a643210999369"), looks := false }, kinds := [], alts := [], laidByText := true, laidKinds := [.data, .data, .data], laidTests := true, laidLooks := .later }
def MsgKindsUptoCardSaid : Prop := Claim7.holds Tryd.pinned (.plain (OpenSpec.upto msgKindsSpec)) msgKindsUptoCard

/-- THE SECOND FORM's CARD OF 'palisadelaw4.KnowOwn'. -/
def knowOwnUptoCard : Claim7 := { stood := { row := knowOwnUptoRow, standIns := [], harness := (true, "008c986f672baaccd922d08d2bd4247b23ffe25c2db08fc45d0a643210999369"), looks := false }, kinds := [], alts := [], laidByText := true, laidKinds := [.data, .data, .data], laidTests := true, laidLooks := .later }
def KnowOwnUptoCardSaid : Prop := Claim7.holds Tryd.pinned (.plain (OpenSpec.upto knowOwnSpec)) knowOwnUptoCard

/-- THE SECOND FORM's CARD OF 'palisadelaw4.KnowReplays'. -/
def knowReplaysUptoCard : Claim7 := { stood := { row := knowReplaysUptoRow, standIns := [], harness := (true, "008c986f672baaccd922d08d2bd4247b23ffe25c2db08fc45d0a643210999369"), looks := false }, kinds := [], alts := [], laidByText := true, laidKinds := [.data, .data, .data], laidTests := true, laidLooks := .later }
def KnowReplaysUptoCardSaid : Prop := Claim7.holds Tryd.pinned (.plain (OpenSpec.upto knowReplaysSpec)) knowReplaysUptoCard

/-- THE SECOND FORM's CARD OF 'palisadelaw4.KnowVotes'. -/
def knowVotesUptoCard : Claim7 := { stood := { row := knowVotesUptoRow, standIns := [], harness := (true, "008c986f672baaccd922d08d2bd4247b23ffe25c2db08fc45d0a643210999369"), looks := false }, kinds := [], alts := [], laidByText := true, laidKinds := [.data, .data, .data], laidTests := true, laidLooks := .later }
def KnowVotesUptoCardSaid : Prop := Claim7.holds Tryd.pinned (.plain (OpenSpec.upto knowVotesSpec)) knowVotesUptoCard
end Rows
end Go.Proofs.YtigpfaecbmnklaaDoor
