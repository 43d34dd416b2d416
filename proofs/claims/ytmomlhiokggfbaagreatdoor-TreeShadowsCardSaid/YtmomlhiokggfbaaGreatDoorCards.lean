/-
  DERIVED. GIVEN WITH THE SEED: THE CARDS: each row of YtmomlhiokggfbaaGreatDoorRows.lean that lists a variable, with what it lists TIED to the program's text (the seventh form; the later family's looks); each row that meets fmt, with fmt's text TOLD by the authors' own Lean function (tested against real Go, not proved from fmt's source: count such statements apart). THE CARD IS WHAT COUNTS. Prove the row's statement (the work); the ties are given (YtmomlhiokggfbaaGreatDoorTie.lean); close each card by the builder's one call (the guide's Derived/Test/ToyasCard.lean, 'card_holds'). Laid BY PROGRAM, IN A SANDBOX (cutbox-door.mjs). By AI agents, Wed Nov 11 2026. No macro, syntax, notation, axiom, sorry.
-/
import Derived.Test.YtmomlhiokggfbaaGreatDoorRows
import GoSem.ClaimSeven
namespace Go.Proofs.YtmomlhiokggfbaaGreatDoor
namespace Rows

/-- THE TIED CARD OF 'bailiwicklaw11.TreeMap'. -/
def treeMapCard : Claim7 := { stood := { row := treeMapRow, standIns := [], harness := (true, "7c28c804fb87912e3fc4f27eb7f8a75a86eb1b922bcd5b8c8bd6f03417f91002"), looks := false }, kinds := [], alts := [], laidByText := true, laidKinds := [.data, .pinned], laidTests := true, laidLooks := .later }
def TreeMapCardSaid : Prop := Claim7.holds Tryz.pinned (.plain (OpenSpec.ofChange treeMapSpec)) treeMapCard

/-- THE TIED CARD OF 'bailiwicklaw11.TreeShadows'. -/
def treeShadowsCard : Claim7 := { stood := { row := treeShadowsRow, standIns := [], harness := (true, "7c28c804fb87912e3fc4f27eb7f8a75a86eb1b922bcd5b8c8bd6f03417f91002"), looks := false }, kinds := [], alts := [], laidByText := true, laidKinds := [.data, .pinned], laidTests := true, laidLooks := .later }
def TreeShadowsCardSaid : Prop := Claim7.holds Tryz.pinned (.plain (OpenSpec.ofChange treeShadowsSpec)) treeShadowsCard

/-- THE TIED CARD OF 'bailiwicklaw11.TreeRanges'. -/
def treeRangesCard : Claim7 := { stood := { row := treeRangesRow, standIns := [], harness := (true, "7c28c804fb87912e3fc4f27eb7f8a75a86eb1b922bcd5b8c8bd6f03417f91002"), looks := false }, kinds := [], alts := [], laidByText := true, laidKinds := [.data, .pinned], laidTests := true, laidLooks := .later }
def TreeRangesCardSaid : Prop := Claim7.holds Tryz.pinned (.plain (OpenSpec.ofChange treeRangesSpec)) treeRangesCard

/-- THE TIED CARD OF 'bailiwicklaw11.TreeEmpties'. -/
def treeEmptiesCard : Claim7 := { stood := { row := treeEmptiesRow, standIns := [], harness := (true, "7c28c804fb87912e3fc4f27eb7f8a75a86eb1b922bcd5b8c8bd6f03417f91002"), looks := false }, kinds := [], alts := [], laidByText := true, laidKinds := [.data, .pinned], laidTests := true, laidLooks := .later }
def TreeEmptiesCardSaid : Prop := Claim7.holds Tryz.pinned (.plain (OpenSpec.ofChange treeEmptiesSpec)) treeEmptiesCard

/-- THE TIED CARD OF 'bailiwicklaw11.TreeOrders'. -/
def treeOrdersCard : Claim7 := { stood := { row := treeOrdersRow, standIns := [], harness := (true, "7c28c804fb87912e3fc4f27eb7f8a75a86eb1b922bcd5b8c8bd6f03417f91002"), looks := false }, kinds := [], alts := [], laidByText := true, laidKinds := [.data, .pinned], laidTests := true, laidLooks := .later }
def TreeOrdersCardSaid : Prop := Claim7.holds Tryz.pinned (.plain (OpenSpec.ofChange treeOrdersSpec)) treeOrdersCard

/-- THE TIED CARD OF 'bailiwicklaw11.TreeStops'. -/
def treeStopsCard : Claim7 := { stood := { row := treeStopsRow, standIns := [], harness := (true, "7c28c804fb87912e3fc4f27eb7f8a75a86eb1b922bcd5b8c8bd6f03417f91002"), looks := false }, kinds := [], alts := [], laidByText := true, laidKinds := [.data, .pinned], laidTests := true, laidLooks := .later }
def TreeStopsCardSaid : Prop := Claim7.holds Tryz.pinned (.plain (OpenSpec.ofChange treeStopsSpec)) treeStopsCard

/-- THE TIED CARD OF 'bailiwicklaw12.TxnDrops'. -/
def txnDropsCard : Claim7 := { stood := { row := txnDropsRow, standIns := [], harness := (true, "7c28c804fb87912e3fc4f27eb7f8a75a86eb1b922bcd5b8c8bd6f03417f91002"), looks := false }, kinds := [], alts := [], laidByText := true, laidKinds := [.data, .pinned], laidTests := true, laidLooks := .later }
def TxnDropsCardSaid : Prop := Claim7.holds Tryz.pinned (.plain (OpenSpec.ofChange txnDropsSpec)) txnDropsCard

/-- THE TIED CARD OF 'bailiwicklaw12.TxnFull'. -/
def txnFullCard : Claim7 := { stood := { row := txnFullRow, standIns := [], harness := (true, "7c28c804fb87912e3fc4f27eb7f8a75a86eb1b922bcd5b8c8bd6f03417f91002"), looks := false }, kinds := [], alts := [], laidByText := true, laidKinds := [.data, .pinned], laidTests := true, laidLooks := .later }
def TxnFullCardSaid : Prop := Claim7.holds Tryz.pinned (.plain (OpenSpec.ofChange txnFullSpec)) txnFullCard

/-- THE TIED CARD OF 'bailiwicklaw12.TxnReads'. -/
def txnReadsCard : Claim7 := { stood := { row := txnReadsRow, standIns := [], harness := (true, "7c28c804fb87912e3fc4f27eb7f8a75a86eb1b922bcd5b8c8bd6f03417f91002"), looks := false }, kinds := [], alts := [], laidByText := true, laidKinds := [.data, .pinned], laidTests := true, laidLooks := .later }
def TxnReadsCardSaid : Prop := Claim7.holds Tryz.pinned (.plain (OpenSpec.ofChange txnReadsSpec)) txnReadsCard

/-- THE TIED CARD OF 'bailiwicklaw12.TxnLong'. -/
def txnLongCard : Claim7 := { stood := { row := txnLongRow, standIns := [], harness := (true, "7c28c804fb87912e3fc4f27eb7f8a75a86eb1b922bcd5b8c8bd6f03417f91002"), looks := false }, kinds := [], alts := [], laidByText := true, laidKinds := [.data, .pinned], laidTests := true, laidLooks := .later }
def TxnLongCardSaid : Prop := Claim7.holds Tryz.pinned (.plain (OpenSpec.ofChange txnLongSpec)) txnLongCard

/-- THE SECOND FORM's CARD OF 'bailiwicklaw11.TreeMap'. -/
def treeMapUptoCard : Claim7 := { stood := { row := treeMapUptoRow, standIns := [], harness := (true, "7c28c804fb87912e3fc4f27eb7f8a75a86eb1b922bcd5b8c8bd6f03417f91002"), looks := false }, kinds := [], alts := [], laidByText := true, laidKinds := [.data, .pinned], laidTests := true, laidLooks := .later }
def TreeMapUptoCardSaid : Prop := Claim7.holds Tryz.pinned (.plain (OpenSpec.upto treeMapSpec)) treeMapUptoCard

/-- THE SECOND FORM's CARD OF 'bailiwicklaw11.TreeShadows'. -/
def treeShadowsUptoCard : Claim7 := { stood := { row := treeShadowsUptoRow, standIns := [], harness := (true, "7c28c804fb87912e3fc4f27eb7f8a75a86eb1b922bcd5b8c8bd6f03417f91002"), looks := false }, kinds := [], alts := [], laidByText := true, laidKinds := [.data, .pinned], laidTests := true, laidLooks := .later }
def TreeShadowsUptoCardSaid : Prop := Claim7.holds Tryz.pinned (.plain (OpenSpec.upto treeShadowsSpec)) treeShadowsUptoCard

/-- THE SECOND FORM's CARD OF 'bailiwicklaw11.TreeRanges'. -/
def treeRangesUptoCard : Claim7 := { stood := { row := treeRangesUptoRow, standIns := [], harness := (true, "7c28c804fb87912e3fc4f27eb7f8a75a86eb1b922bcd5b8c8bd6f03417f91002"), looks := false }, kinds := [], alts := [], laidByText := true, laidKinds := [.data, .pinned], laidTests := true, laidLooks := .later }
def TreeRangesUptoCardSaid : Prop := Claim7.holds Tryz.pinned (.plain (OpenSpec.upto treeRangesSpec)) treeRangesUptoCard

/-- THE SECOND FORM's CARD OF 'bailiwicklaw11.TreeEmpties'. -/
def treeEmptiesUptoCard : Claim7 := { stood := { row := treeEmptiesUptoRow, standIns := [], harness := (true, "7c28c804fb87912e3fc4f27eb7f8a75a86eb1b922bcd5b8c8bd6f03417f91002"), looks := false }, kinds := [], alts := [], laidByText := true, laidKinds := [.data, .pinned], laidTests := true, laidLooks := .later }
def TreeEmptiesUptoCardSaid : Prop := Claim7.holds Tryz.pinned (.plain (OpenSpec.upto treeEmptiesSpec)) treeEmptiesUptoCard

/-- THE SECOND FORM's CARD OF 'bailiwicklaw11.TreeOrders'. -/
def treeOrdersUptoCard : Claim7 := { stood := { row := treeOrdersUptoRow, standIns := [], harness := (true, "7c28c804fb87912e3fc4f27eb7f8a75a86eb1b922bcd5b8c8bd6f03417f91002"), looks := false }, kinds := [], alts := [], laidByText := true, laidKinds := [.data, .pinned], laidTests := true, laidLooks := .later }
def TreeOrdersUptoCardSaid : Prop := Claim7.holds Tryz.pinned (.plain (OpenSpec.upto treeOrdersSpec)) treeOrdersUptoCard

/-- THE SECOND FORM's CARD OF 'bailiwicklaw11.TreeStops'. -/
def treeStopsUptoCard : Claim7 := { stood := { row := treeStopsUptoRow, standIns := [], harness := (true, "7c28c804fb87912e3fc4f27eb7f8a75a86eb1b922bcd5b8c8bd6f03417f91002"), looks := false }, kinds := [], alts := [], laidByText := true, laidKinds := [.data, .pinned], laidTests := true, laidLooks := .later }
def TreeStopsUptoCardSaid : Prop := Claim7.holds Tryz.pinned (.plain (OpenSpec.upto treeStopsSpec)) treeStopsUptoCard

/-- THE SECOND FORM's CARD OF 'bailiwicklaw12.TxnDrops'. -/
def txnDropsUptoCard : Claim7 := { stood := { row := txnDropsUptoRow, standIns := [], harness := (true, "7c28c804fb87912e3fc4f27eb7f8a75a86eb1b922bcd5b8c8bd6f03417f91002"), looks := false }, kinds := [], alts := [], laidByText := true, laidKinds := [.data, .pinned], laidTests := true, laidLooks := .later }
def TxnDropsUptoCardSaid : Prop := Claim7.holds Tryz.pinned (.plain (OpenSpec.upto txnDropsSpec)) txnDropsUptoCard

/-- THE SECOND FORM's CARD OF 'bailiwicklaw12.TxnFull'. -/
def txnFullUptoCard : Claim7 := { stood := { row := txnFullUptoRow, standIns := [], harness := (true, "7c28c804fb87912e3fc4f27eb7f8a75a86eb1b922bcd5b8c8bd6f03417f91002"), looks := false }, kinds := [], alts := [], laidByText := true, laidKinds := [.data, .pinned], laidTests := true, laidLooks := .later }
def TxnFullUptoCardSaid : Prop := Claim7.holds Tryz.pinned (.plain (OpenSpec.upto txnFullSpec)) txnFullUptoCard

/-- THE SECOND FORM's CARD OF 'bailiwicklaw12.TxnReads'. -/
def txnReadsUptoCard : Claim7 := { stood := { row := txnReadsUptoRow, standIns := [], harness := (true, "7c28c804fb87912e3fc4f27eb7f8a75a86eb1b922bcd5b8c8bd6f03417f91002"), looks := false }, kinds := [], alts := [], laidByText := true, laidKinds := [.data, .pinned], laidTests := true, laidLooks := .later }
def TxnReadsUptoCardSaid : Prop := Claim7.holds Tryz.pinned (.plain (OpenSpec.upto txnReadsSpec)) txnReadsUptoCard

/-- THE SECOND FORM's CARD OF 'bailiwicklaw12.TxnLong'. -/
def txnLongUptoCard : Claim7 := { stood := { row := txnLongUptoRow, standIns := [], harness := (true, "7c28c804fb87912e3fc4f27eb7f8a75a86eb1b922bcd5b8c8bd6f03417f91002"), looks := false }, kinds := [], alts := [], laidByText := true, laidKinds := [.data, .pinned], laidTests := true, laidLooks := .later }
def TxnLongUptoCardSaid : Prop := Claim7.holds Tryz.pinned (.plain (OpenSpec.upto txnLongSpec)) txnLongUptoCard
end Rows
end Go.Proofs.YtmomlhiokggfbaaGreatDoor
