/-
  DERIVED. GIVEN WITH THE SEED: THE CARDS: each row of YtmlladpmecclbaaDoorRows.lean that lists a variable, with what it lists TIED to the program's text (the seventh form; the later family's looks); each row that meets fmt, with fmt's text TOLD by the authors' own Lean function (tested against real Go, not proved from fmt's source: count such statements apart). THE CARD IS WHAT COUNTS. Prove the row's statement (the work); the ties are given (YtmlladpmecclbaaDoorTie.lean); close each card by the builder's one call (the guide's Derived/Test/ToyasCard.lean, 'card_holds'). Laid BY PROGRAM, IN A SANDBOX (cutbox-door.mjs). By AI agents, Wed Nov 11 2026. No macro, syntax, notation, axiom, sorry.
-/
import Derived.Test.YtmlladpmecclbaaDoorRows
import GoSem.ClaimSeven
namespace Go.Proofs.YtmlladpmecclbaaDoor
namespace Rows

/-- THE TIED CARD OF 'thimblelaw18.TreePaths'. -/
def treePathsCard : Claim7 := { stood := { row := treePathsRow, standIns := [], harness := (true, "8e65ce61bc5d38f9f2f98e3e793d248de65d289f0217a2d3f2733bcd1031964d"), looks := false }, kinds := [], alts := [], laidByText := true, laidKinds := [.data, .data], laidTests := true, laidLooks := .later }
def TreePathsCardSaid : Prop := Claim7.holds Tryd.pinned (.plain (OpenSpec.ofChange treePathsSpec)) treePathsCard

/-- THE TIED CARD OF 'thimblelaw19.JournalMarks'. -/
def journalMarksCard : Claim7 := { stood := { row := journalMarksRow, standIns := [], harness := (true, "8e65ce61bc5d38f9f2f98e3e793d248de65d289f0217a2d3f2733bcd1031964d"), looks := false }, kinds := [], alts := [], laidByText := true, laidKinds := [.data, .data], laidTests := true, laidLooks := .later }
def JournalMarksCardSaid : Prop := Claim7.holds Tryd.pinned (.plain (OpenSpec.ofChange journalMarksSpec)) journalMarksCard

/-- THE TIED CARD OF 'thimblelaw19.JournalBinds'. -/
def journalBindsCard : Claim7 := { stood := { row := journalBindsRow, standIns := [], harness := (true, "8e65ce61bc5d38f9f2f98e3e793d248de65d289f0217a2d3f2733bcd1031964d"), looks := false }, kinds := [], alts := [], laidByText := true, laidKinds := [.data, .data], laidTests := true, laidLooks := .later }
def JournalBindsCardSaid : Prop := Claim7.holds Tryd.pinned (.plain (OpenSpec.ofChange journalBindsSpec)) journalBindsCard

/-- THE SECOND FORM's CARD OF 'thimblelaw18.TreePaths'. -/
def treePathsUptoCard : Claim7 := { stood := { row := treePathsUptoRow, standIns := [], harness := (true, "8e65ce61bc5d38f9f2f98e3e793d248de65d289f0217a2d3f2733bcd1031964d"), looks := false }, kinds := [], alts := [], laidByText := true, laidKinds := [.data, .data], laidTests := true, laidLooks := .later }
def TreePathsUptoCardSaid : Prop := Claim7.holds Tryd.pinned (.plain (OpenSpec.upto treePathsSpec)) treePathsUptoCard

/-- THE SECOND FORM's CARD OF 'thimblelaw19.JournalMarks'. -/
def journalMarksUptoCard : Claim7 := { stood := { row := journalMarksUptoRow, standIns := [], harness := (true, "8e65ce61bc5d38f9f2f98e3e793d248de65d289f0217a2d3f2733bcd1031964d"), looks := false }, kinds := [], alts := [], laidByText := true, laidKinds := [.data, .data], laidTests := true, laidLooks := .later }
def JournalMarksUptoCardSaid : Prop := Claim7.holds Tryd.pinned (.plain (OpenSpec.upto journalMarksSpec)) journalMarksUptoCard

/-- THE SECOND FORM's CARD OF 'thimblelaw19.JournalBinds'. -/
def journalBindsUptoCard : Claim7 := { stood := { row := journalBindsUptoRow, standIns := [], harness := (true, "8e65ce61bc5d38f9f2f98e3e793d248de65d289f0217a2d3f2733bcd1031964d"), looks := false }, kinds := [], alts := [], laidByText := true, laidKinds := [.data, .data], laidTests := true, laidLooks := .later }
def JournalBindsUptoCardSaid : Prop := Claim7.holds Tryd.pinned (.plain (OpenSpec.upto journalBindsSpec)) journalBindsUptoCard
end Rows
end Go.Proofs.YtmlladpmecclbaaDoor
