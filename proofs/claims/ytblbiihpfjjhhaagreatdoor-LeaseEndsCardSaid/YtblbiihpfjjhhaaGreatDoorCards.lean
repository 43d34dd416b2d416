/-
  DERIVED. GIVEN WITH THE SEED: THE CARDS: each row of YtblbiihpfjjhhaaGreatDoorRows.lean that lists a variable, with what it lists TIED to the program's text (the seventh form; the later family's looks); each row that meets fmt, with fmt's text TOLD by the authors' own Lean function (tested against real Go, not proved from fmt's source: count such statements apart). THE CARD IS WHAT COUNTS. Prove the row's statement (the work); the ties are given (YtblbiihpfjjhhaaGreatDoorTie.lean); close each card by the builder's one call (the guide's Derived/Test/ToyasCard.lean, 'card_holds'). Laid BY PROGRAM, IN A SANDBOX (cutbox-door.mjs). By AI agents, Wed Nov 11 2026. No macro, syntax, notation, axiom, sorry.
-/
import Derived.Test.YtblbiihpfjjhhaaGreatDoorRows
import GoSem.ClaimSeven
namespace Go.Proofs.YtblbiihpfjjhhaaGreatDoor
namespace Rows

/-- THE TIED CARD OF 'bailiwicklaw17.SlotApart'. -/
def slotApartCard : Claim7 := { stood := { row := slotApartRow, standIns := [], harness := (true, "1215036dd0717c89e7fb90b68a9151822fb45e1be5ee308e688ec8fe34edce4e"), looks := true }, kinds := [], alts := [], laidByText := true, laidKinds := [.data, .pinned], laidTests := true, laidLooks := .later }
def SlotApartCardSaid : Prop := Claim7.holds Tryz.pinned (.plain (OpenSpec.ofChange slotApartSpec)) slotApartCard

/-- THE TIED CARD OF 'bailiwicklaw15.CaptNames'. -/
def captNamesCard : Claim7 := { stood := { row := captNamesRow, standIns := [], harness := (true, "1215036dd0717c89e7fb90b68a9151822fb45e1be5ee308e688ec8fe34edce4e"), looks := true }, kinds := [], alts := [], laidByText := true, laidKinds := [.data, .pinned], laidTests := true, laidLooks := .later }
def CaptNamesCardSaid : Prop := Claim7.holds Tryz.pinned (.plain (OpenSpec.ofChange captNamesSpec)) captNamesCard

/-- THE TIED CARD OF 'bailiwicklaw15.CaptDeep'. -/
def captDeepCard : Claim7 := { stood := { row := captDeepRow, standIns := [], harness := (true, "1215036dd0717c89e7fb90b68a9151822fb45e1be5ee308e688ec8fe34edce4e"), looks := true }, kinds := [], alts := [], laidByText := true, laidKinds := [.data, .pinned], laidTests := true, laidLooks := .later }
def CaptDeepCardSaid : Prop := Claim7.holds Tryz.pinned (.plain (OpenSpec.ofChange captDeepSpec)) captDeepCard

/-- THE TIED CARD OF 'bailiwicklaw15.CaptMoves'. -/
def captMovesCard : Claim7 := { stood := { row := captMovesRow, standIns := [], harness := (true, "1215036dd0717c89e7fb90b68a9151822fb45e1be5ee308e688ec8fe34edce4e"), looks := true }, kinds := [], alts := [], laidByText := true, laidKinds := [.data, .pinned], laidTests := true, laidLooks := .later }
def CaptMovesCardSaid : Prop := Claim7.holds Tryz.pinned (.plain (OpenSpec.ofChange captMovesSpec)) captMovesCard

/-- THE TIED CARD OF 'bailiwicklaw15.CaptKids'. -/
def captKidsCard : Claim7 := { stood := { row := captKidsRow, standIns := [], harness := (true, "1215036dd0717c89e7fb90b68a9151822fb45e1be5ee308e688ec8fe34edce4e"), looks := true }, kinds := [], alts := [], laidByText := true, laidKinds := [.data, .pinned], laidTests := true, laidLooks := .later }
def CaptKidsCardSaid : Prop := Claim7.holds Tryz.pinned (.plain (OpenSpec.ofChange captKidsSpec)) captKidsCard

/-- THE TIED CARD OF 'bailiwicklaw15.CaptRights'. -/
def captRightsCard : Claim7 := { stood := { row := captRightsRow, standIns := [], harness := (true, "1215036dd0717c89e7fb90b68a9151822fb45e1be5ee308e688ec8fe34edce4e"), looks := true }, kinds := [], alts := [], laidByText := true, laidKinds := [.data, .pinned], laidTests := true, laidLooks := .later }
def CaptRightsCardSaid : Prop := Claim7.holds Tryz.pinned (.plain (OpenSpec.ofChange captRightsSpec)) captRightsCard

/-- THE TIED CARD OF 'bailiwicklaw15.CaptQuota'. -/
def captQuotaCard : Claim7 := { stood := { row := captQuotaRow, standIns := [], harness := (true, "1215036dd0717c89e7fb90b68a9151822fb45e1be5ee308e688ec8fe34edce4e"), looks := true }, kinds := [], alts := [], laidByText := true, laidKinds := [.data, .pinned], laidTests := true, laidLooks := .later }
def CaptQuotaCardSaid : Prop := Claim7.holds Tryz.pinned (.plain (OpenSpec.ofChange captQuotaSpec)) captQuotaCard

/-- THE TIED CARD OF 'bailiwicklaw15.CaptRevoked'. -/
def captRevokedCard : Claim7 := { stood := { row := captRevokedRow, standIns := [], harness := (true, "1215036dd0717c89e7fb90b68a9151822fb45e1be5ee308e688ec8fe34edce4e"), looks := true }, kinds := [], alts := [], laidByText := true, laidKinds := [.data, .pinned], laidTests := true, laidLooks := .later }
def CaptRevokedCardSaid : Prop := Claim7.holds Tryz.pinned (.plain (OpenSpec.ofChange captRevokedSpec)) captRevokedCard

/-- THE TIED CARD OF 'bailiwicklaw16.LeaseDue'. -/
def leaseDueCard : Claim7 := { stood := { row := leaseDueRow, standIns := [], harness := (true, "1215036dd0717c89e7fb90b68a9151822fb45e1be5ee308e688ec8fe34edce4e"), looks := true }, kinds := [], alts := [], laidByText := true, laidKinds := [.data, .pinned], laidTests := true, laidLooks := .later }
def LeaseDueCardSaid : Prop := Claim7.holds Tryz.pinned (.plain (OpenSpec.ofChange leaseDueSpec)) leaseDueCard

/-- THE TIED CARD OF 'bailiwicklaw16.LeaseEnds'. -/
def leaseEndsCard : Claim7 := { stood := { row := leaseEndsRow, standIns := [], harness := (true, "1215036dd0717c89e7fb90b68a9151822fb45e1be5ee308e688ec8fe34edce4e"), looks := true }, kinds := [], alts := [], laidByText := true, laidKinds := [.data, .pinned], laidTests := true, laidLooks := .later }
def LeaseEndsCardSaid : Prop := Claim7.holds Tryz.pinned (.plain (OpenSpec.ofChange leaseEndsSpec)) leaseEndsCard

/-- THE TIED CARD OF 'bailiwicklaw16.LeaseKeys'. -/
def leaseKeysCard : Claim7 := { stood := { row := leaseKeysRow, standIns := [], harness := (true, "1215036dd0717c89e7fb90b68a9151822fb45e1be5ee308e688ec8fe34edce4e"), looks := true }, kinds := [], alts := [], laidByText := true, laidKinds := [.data, .pinned], laidTests := true, laidLooks := .later }
def LeaseKeysCardSaid : Prop := Claim7.holds Tryz.pinned (.plain (OpenSpec.ofChange leaseKeysSpec)) leaseKeysCard

/-- THE TIED CARD OF 'bailiwicklaw16.LeaseForgets'. -/
def leaseForgetsCard : Claim7 := { stood := { row := leaseForgetsRow, standIns := [], harness := (true, "1215036dd0717c89e7fb90b68a9151822fb45e1be5ee308e688ec8fe34edce4e"), looks := true }, kinds := [], alts := [], laidByText := true, laidKinds := [.data, .pinned], laidTests := true, laidLooks := .later }
def LeaseForgetsCardSaid : Prop := Claim7.holds Tryz.pinned (.plain (OpenSpec.ofChange leaseForgetsSpec)) leaseForgetsCard

/-- THE SECOND FORM's CARD OF 'bailiwicklaw17.SlotApart'. -/
def slotApartUptoCard : Claim7 := { stood := { row := slotApartUptoRow, standIns := [], harness := (true, "1215036dd0717c89e7fb90b68a9151822fb45e1be5ee308e688ec8fe34edce4e"), looks := true }, kinds := [], alts := [], laidByText := true, laidKinds := [.data, .pinned], laidTests := true, laidLooks := .later }
def SlotApartUptoCardSaid : Prop := Claim7.holds Tryz.pinned (.plain (OpenSpec.upto slotApartSpec)) slotApartUptoCard

/-- THE SECOND FORM's CARD OF 'bailiwicklaw15.CaptNames'. -/
def captNamesUptoCard : Claim7 := { stood := { row := captNamesUptoRow, standIns := [], harness := (true, "1215036dd0717c89e7fb90b68a9151822fb45e1be5ee308e688ec8fe34edce4e"), looks := true }, kinds := [], alts := [], laidByText := true, laidKinds := [.data, .pinned], laidTests := true, laidLooks := .later }
def CaptNamesUptoCardSaid : Prop := Claim7.holds Tryz.pinned (.plain (OpenSpec.upto captNamesSpec)) captNamesUptoCard

/-- THE SECOND FORM's CARD OF 'bailiwicklaw15.CaptDeep'. -/
def captDeepUptoCard : Claim7 := { stood := { row := captDeepUptoRow, standIns := [], harness := (true, "1215036dd0717c89e7fb90b68a9151822fb45e1be5ee308e688ec8fe34edce4e"), looks := true }, kinds := [], alts := [], laidByText := true, laidKinds := [.data, .pinned], laidTests := true, laidLooks := .later }
def CaptDeepUptoCardSaid : Prop := Claim7.holds Tryz.pinned (.plain (OpenSpec.upto captDeepSpec)) captDeepUptoCard

/-- THE SECOND FORM's CARD OF 'bailiwicklaw15.CaptMoves'. -/
def captMovesUptoCard : Claim7 := { stood := { row := captMovesUptoRow, standIns := [], harness := (true, "1215036dd0717c89e7fb90b68a9151822fb45e1be5ee308e688ec8fe34edce4e"), looks := true }, kinds := [], alts := [], laidByText := true, laidKinds := [.data, .pinned], laidTests := true, laidLooks := .later }
def CaptMovesUptoCardSaid : Prop := Claim7.holds Tryz.pinned (.plain (OpenSpec.upto captMovesSpec)) captMovesUptoCard

/-- THE SECOND FORM's CARD OF 'bailiwicklaw15.CaptKids'. -/
def captKidsUptoCard : Claim7 := { stood := { row := captKidsUptoRow, standIns := [], harness := (true, "1215036dd0717c89e7fb90b68a9151822fb45e1be5ee308e688ec8fe34edce4e"), looks := true }, kinds := [], alts := [], laidByText := true, laidKinds := [.data, .pinned], laidTests := true, laidLooks := .later }
def CaptKidsUptoCardSaid : Prop := Claim7.holds Tryz.pinned (.plain (OpenSpec.upto captKidsSpec)) captKidsUptoCard

/-- THE SECOND FORM's CARD OF 'bailiwicklaw15.CaptRights'. -/
def captRightsUptoCard : Claim7 := { stood := { row := captRightsUptoRow, standIns := [], harness := (true, "1215036dd0717c89e7fb90b68a9151822fb45e1be5ee308e688ec8fe34edce4e"), looks := true }, kinds := [], alts := [], laidByText := true, laidKinds := [.data, .pinned], laidTests := true, laidLooks := .later }
def CaptRightsUptoCardSaid : Prop := Claim7.holds Tryz.pinned (.plain (OpenSpec.upto captRightsSpec)) captRightsUptoCard

/-- THE SECOND FORM's CARD OF 'bailiwicklaw15.CaptQuota'. -/
def captQuotaUptoCard : Claim7 := { stood := { row := captQuotaUptoRow, standIns := [], harness := (true, "1215036dd0717c89e7fb90b68a9151822fb45e1be5ee308e688ec8fe34edce4e"), looks := true }, kinds := [], alts := [], laidByText := true, laidKinds := [.data, .pinned], laidTests := true, laidLooks := .later }
def CaptQuotaUptoCardSaid : Prop := Claim7.holds Tryz.pinned (.plain (OpenSpec.upto captQuotaSpec)) captQuotaUptoCard

/-- THE SECOND FORM's CARD OF 'bailiwicklaw15.CaptRevoked'. -/
def captRevokedUptoCard : Claim7 := { stood := { row := captRevokedUptoRow, standIns := [], harness := (true, "1215036dd0717c89e7fb90b68a9151822fb45e1be5ee308e688ec8fe34edce4e"), looks := true }, kinds := [], alts := [], laidByText := true, laidKinds := [.data, .pinned], laidTests := true, laidLooks := .later }
def CaptRevokedUptoCardSaid : Prop := Claim7.holds Tryz.pinned (.plain (OpenSpec.upto captRevokedSpec)) captRevokedUptoCard

/-- THE SECOND FORM's CARD OF 'bailiwicklaw16.LeaseDue'. -/
def leaseDueUptoCard : Claim7 := { stood := { row := leaseDueUptoRow, standIns := [], harness := (true, "1215036dd0717c89e7fb90b68a9151822fb45e1be5ee308e688ec8fe34edce4e"), looks := true }, kinds := [], alts := [], laidByText := true, laidKinds := [.data, .pinned], laidTests := true, laidLooks := .later }
def LeaseDueUptoCardSaid : Prop := Claim7.holds Tryz.pinned (.plain (OpenSpec.upto leaseDueSpec)) leaseDueUptoCard

/-- THE SECOND FORM's CARD OF 'bailiwicklaw16.LeaseEnds'. -/
def leaseEndsUptoCard : Claim7 := { stood := { row := leaseEndsUptoRow, standIns := [], harness := (true, "1215036dd0717c89e7fb90b68a9151822fb45e1be5ee308e688ec8fe34edce4e"), looks := true }, kinds := [], alts := [], laidByText := true, laidKinds := [.data, .pinned], laidTests := true, laidLooks := .later }
def LeaseEndsUptoCardSaid : Prop := Claim7.holds Tryz.pinned (.plain (OpenSpec.upto leaseEndsSpec)) leaseEndsUptoCard

/-- THE SECOND FORM's CARD OF 'bailiwicklaw16.LeaseKeys'. -/
def leaseKeysUptoCard : Claim7 := { stood := { row := leaseKeysUptoRow, standIns := [], harness := (true, "1215036dd0717c89e7fb90b68a9151822fb45e1be5ee308e688ec8fe34edce4e"), looks := true }, kinds := [], alts := [], laidByText := true, laidKinds := [.data, .pinned], laidTests := true, laidLooks := .later }
def LeaseKeysUptoCardSaid : Prop := Claim7.holds Tryz.pinned (.plain (OpenSpec.upto leaseKeysSpec)) leaseKeysUptoCard

/-- THE SECOND FORM's CARD OF 'bailiwicklaw16.LeaseForgets'. -/
def leaseForgetsUptoCard : Claim7 := { stood := { row := leaseForgetsUptoRow, standIns := [], harness := (true, "1215036dd0717c89e7fb90b68a9151822fb45e1be5ee308e688ec8fe34edce4e"), looks := true }, kinds := [], alts := [], laidByText := true, laidKinds := [.data, .pinned], laidTests := true, laidLooks := .later }
def LeaseForgetsUptoCardSaid : Prop := Claim7.holds Tryz.pinned (.plain (OpenSpec.upto leaseForgetsSpec)) leaseForgetsUptoCard
end Rows
end Go.Proofs.YtblbiihpfjjhhaaGreatDoor
