/-
  DERIVED. GIVEN WITH THE SEED: THE CARDS: each row of YtkelfjpnjhjmoaaDoorRows.lean that lists a variable, with what it lists TIED to the program's text (the seventh form; the later family's looks); each row that meets fmt, with fmt's text TOLD by the authors' own Lean function (tested against real Go, not proved from fmt's source: count such statements apart). THE CARD IS WHAT COUNTS. Prove the row's statement (the work); the ties are given (YtkelfjpnjhjmoaaDoorTie.lean); close each card by the builder's one call (the guide's Derived/Test/ToyasCard.lean, 'card_holds'). Laid BY PROGRAM, IN A SANDBOX (cutbox-door.mjs). By AI agents, Wed Nov 11 2026. No macro, syntax, notation, axiom, sorry.
-/
import Derived.Test.YtkelfjpnjhjmoaaDoorRows
import GoSem.ClaimSeven
namespace Go.Proofs.YtkelfjpnjhjmoaaDoor
namespace Rows

/-- THE TIED CARD OF 'thimblelaw04.MacDigests'. -/
def macDigestsCard : Claim7 := { stood := { row := macDigestsRow, standIns := [], harness := (true, "cf9b918fe41eac656709e504d9d2b99636cac485245ac8810c753c3a9b2caf39"), looks := false }, kinds := [], alts := [], laidByText := true, laidKinds := [.data, .data], laidTests := true, laidLooks := .later }
def MacDigestsCardSaid : Prop := Claim7.holds Tryd.pinned (.plain (OpenSpec.ofChange macDigestsSpec)) macDigestsCard

/-- THE TIED CARD OF 'thimblelaw04.MacPads'. -/
def macPadsCard : Claim7 := { stood := { row := macPadsRow, standIns := [], harness := (true, "cf9b918fe41eac656709e504d9d2b99636cac485245ac8810c753c3a9b2caf39"), looks := false }, kinds := [], alts := [], laidByText := true, laidKinds := [.data, .data], laidTests := true, laidLooks := .later }
def MacPadsCardSaid : Prop := Claim7.holds Tryd.pinned (.plain (OpenSpec.ofChange macPadsSpec)) macPadsCard

/-- THE TIED CARD OF 'thimblelaw04.MacSame'. -/
def macSameCard : Claim7 := { stood := { row := macSameRow, standIns := [], harness := (true, "cf9b918fe41eac656709e504d9d2b99636cac485245ac8810c753c3a9b2caf39"), looks := false }, kinds := [], alts := [], laidByText := true, laidKinds := [.data, .data], laidTests := true, laidLooks := .later }
def MacSameCardSaid : Prop := Claim7.holds Tryd.pinned (.plain (OpenSpec.ofChange macSameSpec)) macSameCard

/-- THE TIED CARD OF 'thimblelaw04.MacTurned'. -/
def macTurnedCard : Claim7 := { stood := { row := macTurnedRow, standIns := [], harness := (true, "cf9b918fe41eac656709e504d9d2b99636cac485245ac8810c753c3a9b2caf39"), looks := false }, kinds := [], alts := [], laidByText := true, laidKinds := [.data, .data], laidTests := true, laidLooks := .later }
def MacTurnedCardSaid : Prop := Claim7.holds Tryd.pinned (.plain (OpenSpec.ofChange macTurnedSpec)) macTurnedCard

/-- THE TIED CARD OF 'thimblelaw04.MacKeys'. -/
def macKeysCard : Claim7 := { stood := { row := macKeysRow, standIns := [], harness := (true, "cf9b918fe41eac656709e504d9d2b99636cac485245ac8810c753c3a9b2caf39"), looks := false }, kinds := [], alts := [], laidByText := true, laidKinds := [.data, .data], laidTests := true, laidLooks := .later }
def MacKeysCardSaid : Prop := Claim7.holds Tryd.pinned (.plain (OpenSpec.ofChange macKeysSpec)) macKeysCard

/-- THE SECOND FORM's CARD OF 'thimblelaw04.MacDigests'. -/
def macDigestsUptoCard : Claim7 := { stood := { row := macDigestsUptoRow, standIns := [], harness := (true, "cf9b918fe41eac656709e504d9d2b99636cac485245ac8810c753c3a9b2caf39"), looks := false }, kinds := [], alts := [], laidByText := true, laidKinds := [.data, .data], laidTests := true, laidLooks := .later }
def MacDigestsUptoCardSaid : Prop := Claim7.holds Tryd.pinned (.plain (OpenSpec.upto macDigestsSpec)) macDigestsUptoCard

/-- THE SECOND FORM's CARD OF 'thimblelaw04.MacPads'. -/
def macPadsUptoCard : Claim7 := { stood := { row := macPadsUptoRow, standIns := [], harness := (true, "cf9b918fe41eac656709e504d9d2b99636cac485245ac8810c753c3a9b2caf39"), looks := false }, kinds := [], alts := [], laidByText := true, laidKinds := [.data, .data], laidTests := true, laidLooks := .later }
def MacPadsUptoCardSaid : Prop := Claim7.holds Tryd.pinned (.plain (OpenSpec.upto macPadsSpec)) macPadsUptoCard

/-- THE SECOND FORM's CARD OF 'thimblelaw04.MacSame'. -/
def macSameUptoCard : Claim7 := { stood := { row := macSameUptoRow, standIns := [], harness := (true, "cf9b918fe41eac656709e504d9d2b99636cac485245ac8810c753c3a9b2caf39"), looks := false }, kinds := [], alts := [], laidByText := true, laidKinds := [.data, .data], laidTests := true, laidLooks := .later }
def MacSameUptoCardSaid : Prop := Claim7.holds Tryd.pinned (.plain (OpenSpec.upto macSameSpec)) macSameUptoCard

/-- THE SECOND FORM's CARD OF 'thimblelaw04.MacTurned'. -/
def macTurnedUptoCard : Claim7 := { stood := { row := macTurnedUptoRow, standIns := [], harness := (true, "cf9b918fe41eac656709e504d9d2b99636cac485245ac8810c753c3a9b2caf39"), looks := false }, kinds := [], alts := [], laidByText := true, laidKinds := [.data, .data], laidTests := true, laidLooks := .later }
def MacTurnedUptoCardSaid : Prop := Claim7.holds Tryd.pinned (.plain (OpenSpec.upto macTurnedSpec)) macTurnedUptoCard

/-- THE SECOND FORM's CARD OF 'thimblelaw04.MacKeys'. -/
def macKeysUptoCard : Claim7 := { stood := { row := macKeysUptoRow, standIns := [], harness := (true, "cf9b918fe41eac656709e504d9d2b99636cac485245ac8810c753c3a9b2caf39"), looks := false }, kinds := [], alts := [], laidByText := true, laidKinds := [.data, .data], laidTests := true, laidLooks := .later }
def MacKeysUptoCardSaid : Prop := Claim7.holds Tryd.pinned (.plain (OpenSpec.upto macKeysSpec)) macKeysUptoCard
end Rows
end Go.Proofs.YtkelfjpnjhjmoaaDoor
