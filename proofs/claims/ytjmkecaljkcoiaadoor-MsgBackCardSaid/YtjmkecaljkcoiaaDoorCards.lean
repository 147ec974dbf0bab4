/-
  DERIVED. GIVEN WITH THE SEED: THE CARDS: each row of YtjmkecaljkcoiaaDoorRows.lean that lists a variable, with what it lists TIED to the program's text (the seventh form; the later family's looks); each row that meets fmt, with fmt's text TOLD by the authors' own Lean function (tested against real Go, not proved from fmt's source: count such statements apart). THE CARD IS WHAT COUNTS. Prove the row's statement (the work); the ties are given (YtjmkecaljkcoiaaDoorTie.lean); close each card by the builder's one call (the guide's Derived/Test/ToyasCard.lean, 'card_holds'). Laid BY PROGRAM, IN A SANDBOX (cutbox-door.mjs). By AI agents, Wed Nov 11 2026. No macro, syntax, notation, axiom, sorry.
-/
import Derived.Test.YtjmkecaljkcoiaaDoorRows
import GoSem.ClaimSeven
namespace Go.Proofs.YtjmkecaljkcoiaaDoor
namespace Rows

/-- THE TIED CARD OF 'choraguslaw10.MsgEncodes'. -/
def msgEncodesCard : Claim7 := { stood := { row := msgEncodesRow, standIns := [], harness := (true, "268a4e384d7e928b6ef0f2fb02f482814329b416f7abf3bc5be88b87cc26b45f"), looks := false }, kinds := [], alts := [], laidByText := true, laidKinds := [.data], laidTests := true, laidLooks := .later }
def MsgEncodesCardSaid : Prop := Claim7.holds Tryd.pinned (.plain (OpenSpec.ofChange msgEncodesSpec)) msgEncodesCard

/-- THE TIED CARD OF 'choraguslaw10.MsgBack'. -/
def msgBackCard : Claim7 := { stood := { row := msgBackRow, standIns := [], harness := (true, "268a4e384d7e928b6ef0f2fb02f482814329b416f7abf3bc5be88b87cc26b45f"), looks := false }, kinds := [], alts := [], laidByText := true, laidKinds := [.data], laidTests := true, laidLooks := .later }
def MsgBackCardSaid : Prop := Claim7.holds Tryd.pinned (.plain (OpenSpec.ofChange msgBackSpec)) msgBackCard

/-- THE TIED CARD OF 'choraguslaw10.MsgWhole'. -/
def msgWholeCard : Claim7 := { stood := { row := msgWholeRow, standIns := [], harness := (true, "268a4e384d7e928b6ef0f2fb02f482814329b416f7abf3bc5be88b87cc26b45f"), looks := false }, kinds := [], alts := [], laidByText := true, laidKinds := [.data], laidTests := true, laidLooks := .later }
def MsgWholeCardSaid : Prop := Claim7.holds Tryd.pinned (.plain (OpenSpec.ofChange msgWholeSpec)) msgWholeCard

/-- THE TIED CARD OF 'choraguslaw10.MsgBeats'. -/
def msgBeatsCard : Claim7 := { stood := { row := msgBeatsRow, standIns := [], harness := (true, "268a4e384d7e928b6ef0f2fb02f482814329b416f7abf3bc5be88b87cc26b45f"), looks := false }, kinds := [], alts := [], laidByText := true, laidKinds := [.data], laidTests := true, laidLooks := .later }
def MsgBeatsCardSaid : Prop := Claim7.holds Tryd.pinned (.plain (OpenSpec.ofChange msgBeatsSpec)) msgBeatsCard

/-- THE SECOND FORM's CARD OF 'choraguslaw10.MsgEncodes'. -/
def msgEncodesUptoCard : Claim7 := { stood := { row := msgEncodesUptoRow, standIns := [], harness := (true, "268a4e384d7e928b6ef0f2fb02f482814329b416f7abf3bc5be88b87cc26b45f"), looks := false }, kinds := [], alts := [], laidByText := true, laidKinds := [.data], laidTests := true, laidLooks := .later }
def MsgEncodesUptoCardSaid : Prop := Claim7.holds Tryd.pinned (.plain (OpenSpec.upto msgEncodesSpec)) msgEncodesUptoCard

/-- THE SECOND FORM's CARD OF 'choraguslaw10.MsgBack'. -/
def msgBackUptoCard : Claim7 := { stood := { row := msgBackUptoRow, standIns := [], harness := (true, "268a4e384d7e928b6ef0f2fb02f482814329b416f7abf3bc5be88b87cc26b45f"), looks := false }, kinds := [], alts := [], laidByText := true, laidKinds := [.data], laidTests := true, laidLooks := .later }
def MsgBackUptoCardSaid : Prop := Claim7.holds Tryd.pinned (.plain (OpenSpec.upto msgBackSpec)) msgBackUptoCard

/-- THE SECOND FORM's CARD OF 'choraguslaw10.MsgWhole'. -/
def msgWholeUptoCard : Claim7 := { stood := { row := msgWholeUptoRow, standIns := [], harness := (true, "268a4e384d7e928b6ef0f2fb02f482814329b416f7abf3bc5be88b87cc26b45f"), looks := false }, kinds := [], alts := [], laidByText := true, laidKinds := [.data], laidTests := true, laidLooks := .later }
def MsgWholeUptoCardSaid : Prop := Claim7.holds Tryd.pinned (.plain (OpenSpec.upto msgWholeSpec)) msgWholeUptoCard

/-- THE SECOND FORM's CARD OF 'choraguslaw10.MsgBeats'. -/
def msgBeatsUptoCard : Claim7 := { stood := { row := msgBeatsUptoRow, standIns := [], harness := (true, "268a4e384d7e928b6ef0f2fb02f482814329b416f7abf3bc5be88b87cc26b45f"), looks := false }, kinds := [], alts := [], laidByText := true, laidKinds := [.data], laidTests := true, laidLooks := .later }
def MsgBeatsUptoCardSaid : Prop := Claim7.holds Tryd.pinned (.plain (OpenSpec.upto msgBeatsSpec)) msgBeatsUptoCard
end Rows
end Go.Proofs.YtjmkecaljkcoiaaDoor
