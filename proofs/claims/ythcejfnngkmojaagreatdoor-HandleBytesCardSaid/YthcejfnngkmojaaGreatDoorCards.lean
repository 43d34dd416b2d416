/-
  DERIVED. GIVEN WITH THE SEED: THE CARDS: each row of YthcejfnngkmojaaGreatDoorRows.lean that lists a variable, with what it lists TIED to the program's text (the seventh form; the later family's looks); each row that meets fmt, with fmt's text TOLD by the authors' own Lean function (tested against real Go, not proved from fmt's source: count such statements apart). THE CARD IS WHAT COUNTS. Prove the row's statement (the work); the ties are given (YthcejfnngkmojaaGreatDoorTie.lean); close each card by the builder's one call (the guide's Derived/Test/ToyasCard.lean, 'card_holds'). Laid BY PROGRAM, IN A SANDBOX (cutbox-door.mjs). By AI agents, Wed Nov 11 2026. No macro, syntax, notation, axiom, sorry.
-/
import Derived.Test.YthcejfnngkmojaaGreatDoorRows
import GoSem.ClaimSeven
namespace Go.Proofs.YthcejfnngkmojaaGreatDoor
namespace Rows

/-- THE TIED CARD OF 'bailiwicklaw16.LeaseClock'. -/
def leaseClockCard : Claim7 := { stood := { row := leaseClockRow, standIns := [], harness := (true, "4a207a8b1d034e30a8c18b9bf0772badbd50871ce6a7ff5f5beadc46febf488b"), looks := true }, kinds := [], alts := [], laidByText := true, laidKinds := [.data, .pinned], laidTests := true, laidLooks := .later }
def LeaseClockCardSaid : Prop := Claim7.holds Tryz.pinned (.plain (OpenSpec.ofChange leaseClockSpec)) leaseClockCard

/-- THE TIED CARD OF 'bailiwicklaw17.SlotApart'. -/
def slotApartCard : Claim7 := { stood := { row := slotApartRow, standIns := [], harness := (true, "4a207a8b1d034e30a8c18b9bf0772badbd50871ce6a7ff5f5beadc46febf488b"), looks := true }, kinds := [], alts := [], laidByText := true, laidKinds := [.data, .pinned], laidTests := true, laidLooks := .later }
def SlotApartCardSaid : Prop := Claim7.holds Tryz.pinned (.plain (OpenSpec.ofChange slotApartSpec)) slotApartCard

/-- THE TIED CARD OF 'bailiwicklaw17.SlotEpochs'. -/
def slotEpochsCard : Claim7 := { stood := { row := slotEpochsRow, standIns := [], harness := (true, "4a207a8b1d034e30a8c18b9bf0772badbd50871ce6a7ff5f5beadc46febf488b"), looks := true }, kinds := [], alts := [], laidByText := true, laidKinds := [.data, .pinned], laidTests := true, laidLooks := .later }
def SlotEpochsCardSaid : Prop := Claim7.holds Tryz.pinned (.plain (OpenSpec.ofChange slotEpochsSpec)) slotEpochsCard

/-- THE TIED CARD OF 'bailiwicklaw17.SlotFull'. -/
def slotFullCard : Claim7 := { stood := { row := slotFullRow, standIns := [], harness := (true, "4a207a8b1d034e30a8c18b9bf0772badbd50871ce6a7ff5f5beadc46febf488b"), looks := true }, kinds := [], alts := [], laidByText := true, laidKinds := [.data, .pinned], laidTests := true, laidLooks := .later }
def SlotFullCardSaid : Prop := Claim7.holds Tryz.pinned (.plain (OpenSpec.ofChange slotFullSpec)) slotFullCard

/-- THE TIED CARD OF 'bailiwicklaw17.SlotLeast'. -/
def slotLeastCard : Claim7 := { stood := { row := slotLeastRow, standIns := [], harness := (true, "4a207a8b1d034e30a8c18b9bf0772badbd50871ce6a7ff5f5beadc46febf488b"), looks := true }, kinds := [], alts := [], laidByText := true, laidKinds := [.data, .pinned], laidTests := true, laidLooks := .later }
def SlotLeastCardSaid : Prop := Claim7.holds Tryz.pinned (.plain (OpenSpec.ofChange slotLeastSpec)) slotLeastCard

/-- THE TIED CARD OF 'bailiwicklaw19.HandleBytes'. -/
def handleBytesCard : Claim7 := { stood := { row := handleBytesRow, standIns := [], harness := (true, "4a207a8b1d034e30a8c18b9bf0772badbd50871ce6a7ff5f5beadc46febf488b"), looks := true }, kinds := [], alts := [], laidByText := true, laidKinds := [.data, .pinned], laidTests := true, laidLooks := .later }
def HandleBytesCardSaid : Prop := Claim7.holds Tryz.pinned (.plain (OpenSpec.ofChange handleBytesSpec)) handleBytesCard

/-- THE TIED CARD OF 'bailiwicklaw19.HandleBack'. -/
def handleBackCard : Claim7 := { stood := { row := handleBackRow, standIns := [], harness := (true, "4a207a8b1d034e30a8c18b9bf0772badbd50871ce6a7ff5f5beadc46febf488b"), looks := true }, kinds := [], alts := [], laidByText := true, laidKinds := [.data, .pinned], laidTests := true, laidLooks := .later }
def HandleBackCardSaid : Prop := Claim7.holds Tryz.pinned (.plain (OpenSpec.ofChange handleBackSpec)) handleBackCard

/-- THE TIED CARD OF 'bailiwicklaw19.HandleOpens'. -/
def handleOpensCard : Claim7 := { stood := { row := handleOpensRow, standIns := [], harness := (true, "4a207a8b1d034e30a8c18b9bf0772badbd50871ce6a7ff5f5beadc46febf488b"), looks := true }, kinds := [], alts := [], laidByText := true, laidKinds := [.data, .pinned], laidTests := true, laidLooks := .later }
def HandleOpensCardSaid : Prop := Claim7.holds Tryz.pinned (.plain (OpenSpec.ofChange handleOpensSpec)) handleOpensCard

/-- THE TIED CARD OF 'bailiwicklaw19.HandleDraws'. -/
def handleDrawsCard : Claim7 := { stood := { row := handleDrawsRow, standIns := [], harness := (true, "4a207a8b1d034e30a8c18b9bf0772badbd50871ce6a7ff5f5beadc46febf488b"), looks := true }, kinds := [], alts := [], laidByText := true, laidKinds := [.data, .pinned], laidTests := true, laidLooks := .later }
def HandleDrawsCardSaid : Prop := Claim7.holds Tryz.pinned (.plain (OpenSpec.ofChange handleDrawsSpec)) handleDrawsCard

/-- THE TIED CARD OF 'bailiwicklaw19.HandleReused'. -/
def handleReusedCard : Claim7 := { stood := { row := handleReusedRow, standIns := [], harness := (true, "4a207a8b1d034e30a8c18b9bf0772badbd50871ce6a7ff5f5beadc46febf488b"), looks := true }, kinds := [], alts := [], laidByText := true, laidKinds := [.data, .pinned], laidTests := true, laidLooks := .later }
def HandleReusedCardSaid : Prop := Claim7.holds Tryz.pinned (.plain (OpenSpec.ofChange handleReusedSpec)) handleReusedCard

/-- THE TIED CARD OF 'bailiwicklaw19.HandleApart'. -/
def handleApartCard : Claim7 := { stood := { row := handleApartRow, standIns := [], harness := (true, "4a207a8b1d034e30a8c18b9bf0772badbd50871ce6a7ff5f5beadc46febf488b"), looks := true }, kinds := [], alts := [], laidByText := true, laidKinds := [.data, .pinned], laidTests := true, laidLooks := .later }
def HandleApartCardSaid : Prop := Claim7.holds Tryz.pinned (.plain (OpenSpec.ofChange handleApartSpec)) handleApartCard

/-- THE TIED CARD OF 'bailiwicklaw19.HandleKeys'. -/
def handleKeysCard : Claim7 := { stood := { row := handleKeysRow, standIns := [], harness := (true, "4a207a8b1d034e30a8c18b9bf0772badbd50871ce6a7ff5f5beadc46febf488b"), looks := true }, kinds := [], alts := [], laidByText := true, laidKinds := [.data, .pinned], laidTests := true, laidLooks := .later }
def HandleKeysCardSaid : Prop := Claim7.holds Tryz.pinned (.plain (OpenSpec.ofChange handleKeysSpec)) handleKeysCard

/-- THE SECOND FORM's CARD OF 'bailiwicklaw16.LeaseClock'. -/
def leaseClockUptoCard : Claim7 := { stood := { row := leaseClockUptoRow, standIns := [], harness := (true, "4a207a8b1d034e30a8c18b9bf0772badbd50871ce6a7ff5f5beadc46febf488b"), looks := true }, kinds := [], alts := [], laidByText := true, laidKinds := [.data, .pinned], laidTests := true, laidLooks := .later }
def LeaseClockUptoCardSaid : Prop := Claim7.holds Tryz.pinned (.plain (OpenSpec.upto leaseClockSpec)) leaseClockUptoCard

/-- THE SECOND FORM's CARD OF 'bailiwicklaw17.SlotApart'. -/
def slotApartUptoCard : Claim7 := { stood := { row := slotApartUptoRow, standIns := [], harness := (true, "4a207a8b1d034e30a8c18b9bf0772badbd50871ce6a7ff5f5beadc46febf488b"), looks := true }, kinds := [], alts := [], laidByText := true, laidKinds := [.data, .pinned], laidTests := true, laidLooks := .later }
def SlotApartUptoCardSaid : Prop := Claim7.holds Tryz.pinned (.plain (OpenSpec.upto slotApartSpec)) slotApartUptoCard

/-- THE SECOND FORM's CARD OF 'bailiwicklaw17.SlotEpochs'. -/
def slotEpochsUptoCard : Claim7 := { stood := { row := slotEpochsUptoRow, standIns := [], harness := (true, "4a207a8b1d034e30a8c18b9bf0772badbd50871ce6a7ff5f5beadc46febf488b"), looks := true }, kinds := [], alts := [], laidByText := true, laidKinds := [.data, .pinned], laidTests := true, laidLooks := .later }
def SlotEpochsUptoCardSaid : Prop := Claim7.holds Tryz.pinned (.plain (OpenSpec.upto slotEpochsSpec)) slotEpochsUptoCard

/-- THE SECOND FORM's CARD OF 'bailiwicklaw17.SlotFull'. -/
def slotFullUptoCard : Claim7 := { stood := { row := slotFullUptoRow, standIns := [], harness := (true, "4a207a8b1d034e30a8c18b9bf0772badbd50871ce6a7ff5f5beadc46febf488b"), looks := true }, kinds := [], alts := [], laidByText := true, laidKinds := [.data, .pinned], laidTests := true, laidLooks := .later }
def SlotFullUptoCardSaid : Prop := Claim7.holds Tryz.pinned (.plain (OpenSpec.upto slotFullSpec)) slotFullUptoCard

/-- THE SECOND FORM's CARD OF 'bailiwicklaw17.SlotLeast'. -/
def slotLeastUptoCard : Claim7 := { stood := { row := slotLeastUptoRow, standIns := [], harness := (true, "4a207a8b1d034e30a8c18b9bf0772badbd50871ce6a7ff5f5beadc46febf488b"), looks := true }, kinds := [], alts := [], laidByText := true, laidKinds := [.data, .pinned], laidTests := true, laidLooks := .later }
def SlotLeastUptoCardSaid : Prop := Claim7.holds Tryz.pinned (.plain (OpenSpec.upto slotLeastSpec)) slotLeastUptoCard

/-- THE SECOND FORM's CARD OF 'bailiwicklaw19.HandleBytes'. -/
def handleBytesUptoCard : Claim7 := { stood := { row := handleBytesUptoRow, standIns := [], harness := (true, "4a207a8b1d034e30a8c18b9bf0772badbd50871ce6a7ff5f5beadc46febf488b"), looks := true }, kinds := [], alts := [], laidByText := true, laidKinds := [.data, .pinned], laidTests := true, laidLooks := .later }
def HandleBytesUptoCardSaid : Prop := Claim7.holds Tryz.pinned (.plain (OpenSpec.upto handleBytesSpec)) handleBytesUptoCard

/-- THE SECOND FORM's CARD OF 'bailiwicklaw19.HandleBack'. -/
def handleBackUptoCard : Claim7 := { stood := { row := handleBackUptoRow, standIns := [], harness := (true, "4a207a8b1d034e30a8c18b9bf0772badbd50871ce6a7ff5f5beadc46febf488b"), looks := true }, kinds := [], alts := [], laidByText := true, laidKinds := [.data, .pinned], laidTests := true, laidLooks := .later }
def HandleBackUptoCardSaid : Prop := Claim7.holds Tryz.pinned (.plain (OpenSpec.upto handleBackSpec)) handleBackUptoCard

/-- THE SECOND FORM's CARD OF 'bailiwicklaw19.HandleOpens'. -/
def handleOpensUptoCard : Claim7 := { stood := { row := handleOpensUptoRow, standIns := [], harness := (true, "4a207a8b1d034e30a8c18b9bf0772badbd50871ce6a7ff5f5beadc46febf488b"), looks := true }, kinds := [], alts := [], laidByText := true, laidKinds := [.data, .pinned], laidTests := true, laidLooks := .later }
def HandleOpensUptoCardSaid : Prop := Claim7.holds Tryz.pinned (.plain (OpenSpec.upto handleOpensSpec)) handleOpensUptoCard

/-- THE SECOND FORM's CARD OF 'bailiwicklaw19.HandleDraws'. -/
def handleDrawsUptoCard : Claim7 := { stood := { row := handleDrawsUptoRow, standIns := [], harness := (true, "4a207a8b1d034e30a8c18b9bf0772badbd50871ce6a7ff5f5beadc46febf488b"), looks := true }, kinds := [], alts := [], laidByText := true, laidKinds := [.data, .pinned], laidTests := true, laidLooks := .later }
def HandleDrawsUptoCardSaid : Prop := Claim7.holds Tryz.pinned (.plain (OpenSpec.upto handleDrawsSpec)) handleDrawsUptoCard

/-- THE SECOND FORM's CARD OF 'bailiwicklaw19.HandleReused'. -/
def handleReusedUptoCard : Claim7 := { stood := { row := handleReusedUptoRow, standIns := [], harness := (true, "4a207a8b1d034e30a8c18b9bf0772badbd50871ce6a7ff5f5beadc46febf488b"), looks := true }, kinds := [], alts := [], laidByText := true, laidKinds := [.data, .pinned], laidTests := true, laidLooks := .later }
def HandleReusedUptoCardSaid : Prop := Claim7.holds Tryz.pinned (.plain (OpenSpec.upto handleReusedSpec)) handleReusedUptoCard

/-- THE SECOND FORM's CARD OF 'bailiwicklaw19.HandleApart'. -/
def handleApartUptoCard : Claim7 := { stood := { row := handleApartUptoRow, standIns := [], harness := (true, "4a207a8b1d034e30a8c18b9bf0772badbd50871ce6a7ff5f5beadc46febf488b"), looks := true }, kinds := [], alts := [], laidByText := true, laidKinds := [.data, .pinned], laidTests := true, laidLooks := .later }
def HandleApartUptoCardSaid : Prop := Claim7.holds Tryz.pinned (.plain (OpenSpec.upto handleApartSpec)) handleApartUptoCard

/-- THE SECOND FORM's CARD OF 'bailiwicklaw19.HandleKeys'. -/
def handleKeysUptoCard : Claim7 := { stood := { row := handleKeysUptoRow, standIns := [], harness := (true, "4a207a8b1d034e30a8c18b9bf0772badbd50871ce6a7ff5f5beadc46febf488b"), looks := true }, kinds := [], alts := [], laidByText := true, laidKinds := [.data, .pinned], laidTests := true, laidLooks := .later }
def HandleKeysUptoCardSaid : Prop := Claim7.holds Tryz.pinned (.plain (OpenSpec.upto handleKeysSpec)) handleKeysUptoCard
end Rows
end Go.Proofs.YthcejfnngkmojaaGreatDoor
