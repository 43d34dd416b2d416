/-
  DERIVED. GIVEN WITH THE SEED: THE CARDS: each row of YtknikcihgijmlaaGreatDoorRows.lean that lists a variable, with what it lists TIED to the program's text (the seventh form; the later family's looks); each row that meets fmt, with fmt's text TOLD by the authors' own Lean function (tested against real Go, not proved from fmt's source: count such statements apart). THE CARD IS WHAT COUNTS. Prove the row's statement (the work); the ties are given (YtknikcihgijmlaaGreatDoorTie.lean); close each card by the builder's one call (the guide's Derived/Test/ToyasCard.lean, 'card_holds'). Laid BY PROGRAM, IN A SANDBOX (cutbox-door.mjs). By AI agents, Wed Nov 11 2026. No macro, syntax, notation, axiom, sorry.
-/
import Derived.Test.YtknikcihgijmlaaGreatDoorRows
import GoSem.ClaimSeven
namespace Go.Proofs.YtknikcihgijmlaaGreatDoor
namespace Rows

/-- THE TIED CARD OF 'bailiwicklaw15.CaptMoves'. -/
def captMovesCard : Claim7 := { stood := { row := captMovesRow, standIns := [], harness := (true, "5509a9a5998e78099db3afe92726fdb7449aa48ac5b035e7b8edf632cebdf1f3"), looks := true }, kinds := [], alts := [], laidByText := true, laidKinds := [.data, .pinned], laidTests := true, laidLooks := .later }
def CaptMovesCardSaid : Prop := Claim7.holds Tryz.pinned (.plain (OpenSpec.ofChange captMovesSpec)) captMovesCard

/-- THE TIED CARD OF 'bailiwicklaw15.CaptKids'. -/
def captKidsCard : Claim7 := { stood := { row := captKidsRow, standIns := [], harness := (true, "5509a9a5998e78099db3afe92726fdb7449aa48ac5b035e7b8edf632cebdf1f3"), looks := true }, kinds := [], alts := [], laidByText := true, laidKinds := [.data, .pinned], laidTests := true, laidLooks := .later }
def CaptKidsCardSaid : Prop := Claim7.holds Tryz.pinned (.plain (OpenSpec.ofChange captKidsSpec)) captKidsCard

/-- THE TIED CARD OF 'bailiwicklaw15.CaptRights'. -/
def captRightsCard : Claim7 := { stood := { row := captRightsRow, standIns := [], harness := (true, "5509a9a5998e78099db3afe92726fdb7449aa48ac5b035e7b8edf632cebdf1f3"), looks := true }, kinds := [], alts := [], laidByText := true, laidKinds := [.data, .pinned], laidTests := true, laidLooks := .later }
def CaptRightsCardSaid : Prop := Claim7.holds Tryz.pinned (.plain (OpenSpec.ofChange captRightsSpec)) captRightsCard

/-- THE TIED CARD OF 'bailiwicklaw15.CaptQuota'. -/
def captQuotaCard : Claim7 := { stood := { row := captQuotaRow, standIns := [], harness := (true, "5509a9a5998e78099db3afe92726fdb7449aa48ac5b035e7b8edf632cebdf1f3"), looks := true }, kinds := [], alts := [], laidByText := true, laidKinds := [.data, .pinned], laidTests := true, laidLooks := .later }
def CaptQuotaCardSaid : Prop := Claim7.holds Tryz.pinned (.plain (OpenSpec.ofChange captQuotaSpec)) captQuotaCard

/-- THE TIED CARD OF 'bailiwicklaw15.CaptRevoked'. -/
def captRevokedCard : Claim7 := { stood := { row := captRevokedRow, standIns := [], harness := (true, "5509a9a5998e78099db3afe92726fdb7449aa48ac5b035e7b8edf632cebdf1f3"), looks := true }, kinds := [], alts := [], laidByText := true, laidKinds := [.data, .pinned], laidTests := true, laidLooks := .later }
def CaptRevokedCardSaid : Prop := Claim7.holds Tryz.pinned (.plain (OpenSpec.ofChange captRevokedSpec)) captRevokedCard

/-- THE SECOND FORM's CARD OF 'bailiwicklaw15.CaptMoves'. -/
def captMovesUptoCard : Claim7 := { stood := { row := captMovesUptoRow, standIns := [], harness := (true, "5509a9a5998e78099db3afe92726fdb7449aa48ac5b035e7b8edf632cebdf1f3"), looks := true }, kinds := [], alts := [], laidByText := true, laidKinds := [.data, .pinned], laidTests := true, laidLooks := .later }
def CaptMovesUptoCardSaid : Prop := Claim7.holds Tryz.pinned (.plain (OpenSpec.upto captMovesSpec)) captMovesUptoCard

/-- THE SECOND FORM's CARD OF 'bailiwicklaw15.CaptKids'. -/
def captKidsUptoCard : Claim7 := { stood := { row := captKidsUptoRow, standIns := [], harness := (true, "5509a9a5998e78099db3afe92726fdb7449aa48ac5b035e7b8edf632cebdf1f3"), looks := true }, kinds := [], alts := [], laidByText := true, laidKinds := [.data, .pinned], laidTests := true, laidLooks := .later }
def CaptKidsUptoCardSaid : Prop := Claim7.holds Tryz.pinned (.plain (OpenSpec.upto captKidsSpec)) captKidsUptoCard

/-- THE SECOND FORM's CARD OF 'bailiwicklaw15.CaptRights'. -/
def captRightsUptoCard : Claim7 := { stood := { row := captRightsUptoRow, standIns := [], harness := (true, "5509a9a5998e78099db3afe92726fdb7449aa48ac5b035e7b8edf632cebdf1f3"), looks := true }, kinds := [], alts := [], laidByText := true, laidKinds := [.data, .pinned], laidTests := true, laidLooks := .later }
def CaptRightsUptoCardSaid : Prop := Claim7.holds Tryz.pinned (.plain (OpenSpec.upto captRightsSpec)) captRightsUptoCard

/-- THE SECOND FORM's CARD OF 'bailiwicklaw15.CaptQuota'. -/
def captQuotaUptoCard : Claim7 := { stood := { row := captQuotaUptoRow, standIns := [], harness := (true, "5509a9a5998e78099db3afe92726fdb7449aa48ac5b035e7b8edf632cebdf1f3"), looks := true }, kinds := [], alts := [], laidByText := true, laidKinds := [.data, .pinned], laidTests := true, laidLooks := .later }
def CaptQuotaUptoCardSaid : Prop := Claim7.holds Tryz.pinned (.plain (OpenSpec.upto captQuotaSpec)) captQuotaUptoCard

/-- THE SECOND FORM's CARD OF 'bailiwicklaw15.CaptRevoked'. -/
def captRevokedUptoCard : Claim7 := { stood := { row := captRevokedUptoRow, standIns := [], harness := (true, "5509a9a5998e78099db3afe92726fdb7449aa48ac5b035e7b8edf632cebdf1f3"), looks := true }, kinds := [], alts := [], laidByText := true, laidKinds := [.data, .pinned], laidTests := true, laidLooks := .later }
def CaptRevokedUptoCardSaid : Prop := Claim7.holds Tryz.pinned (.plain (OpenSpec.upto captRevokedSpec)) captRevokedUptoCard
end Rows
end Go.Proofs.YtknikcihgijmlaaGreatDoor
