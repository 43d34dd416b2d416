/-
  NARROWER THAN 'FOR EVERY INPUT', by the rows' own cells (each row's printed sentence says how): LeaseClock: laid · SlotApart: laid · SlotEpochs: laid · SlotFull: laid · SlotLeast: laid · HandleBytes: laid · HandleBack: laid · HandleOpens: laid · HandleDraws: laid · HandleReused: laid · HandleApart: laid · HandleKeys: laid.
  DERIVED. THE GIVEN ROWS OF THIS SEAT. 12 by the template 'for every input the law returns true; each argument reads behind the call as it read before'; 0 by the template 'total and deterministic' (their statements: YthcejfnngkmojaaGreatDoorTotals.lean).
  GIVEN WITH THE SEED: the statements are not yours to turn. If you find one false, say at which input.
  Laid BY PROGRAM, IN A SANDBOX (cutbox-rows.mjs): the forced cells as the released guide's own fill.sh prints them over the translation c7a5347f3470068b… (all of the seat's roots in one cut). By AI agents, Wed Nov 11 2026. No macro, syntax, notation, axiom, sorry.
-/
import Derived.Test.YthcejfnngkmojaaGreatDoorChecked
import GoSem.PinnedTables
import GoSem.Claim
import GoSem.ClaimJoined
import GoSem.ClaimMapViews
import Derived.JoinedTies
import Derived.KernelRfl
namespace Go.Proofs.YthcejfnngkmojaaGreatDoor
/- THE CELL 'sum', in the pinned program and in every row, IS THE sha256 OF THE DUMP (.gsa) THAT YthcejfnngkmojaaGreatDoorProg.lean LOADS. Nothing in Lean hashes anything: it is a label: what it is worth is what the hold of that sum in a sandbox is worth. -/
noncomputable def Tryz.pinned : Pinned := { name := "ythcejfnngkmojaagreatdoor", sum := "c7a5347f3470068b9a677966ceb22e974e3d2b5b63aa6ac78fd3716546fd73c9", checked := Tryz.checked }
namespace Rows
def none {H : Type} : Left H := { results := [], args := [] }

/- WHAT THE LISTED PACKAGE-LEVEL VARIABLES READ AS WHEN THE CALL BEGINS. Each datum BY PROGRAM (the guide's laid-datum.mjs) off the statement by which the dump's own 'gosem.cut.vars' lays the variable. In a bare row this is a premise. The card (YthcejfnngkmojaaGreatDoorCards.lean) ties it to the program's text. -/
def laid_unicode_utf8_acceptRanges {H : Type} : DataW H := .agg [.agg [.lit (.int .u8 128), .lit (.int .u8 191)], .agg [.lit (.int .u8 160), .lit (.int .u8 191)], .agg [.lit (.int .u8 128), .lit (.int .u8 159)], .agg [.lit (.int .u8 144), .lit (.int .u8 191)], .agg [.lit (.int .u8 128), .lit (.int .u8 143)], .agg [.lit (.int .u8 0), .lit (.int .u8 0)], .agg [.lit (.int .u8 0), .lit (.int .u8 0)], .agg [.lit (.int .u8 0), .lit (.int .u8 0)], .agg [.lit (.int .u8 0), .lit (.int .u8 0)], .agg [.lit (.int .u8 0), .lit (.int .u8 0)], .agg [.lit (.int .u8 0), .lit (.int .u8 0)], .agg [.lit (.int .u8 0), .lit (.int .u8 0)], .agg [.lit (.int .u8 0), .lit (.int .u8 0)], .agg [.lit (.int .u8 0), .lit (.int .u8 0)], .agg [.lit (.int .u8 0), .lit (.int .u8 0)], .agg [.lit (.int .u8 0), .lit (.int .u8 0)]]
/-- One of Go's own tables, pinned by name: the form's constant. -/
def laid_unicode_utf8_first : DataW Unit := Go.Pinned.utf8First

/-- 'bailiwicklaw16.LeaseClock': WHATEVER THE INPUT: true; the input reads as it did. -/
def leaseClockSpec : ChangeSpec := { name := "leaseClock", fn := fun _ => fun
  | [d] => { results := [.lit (.bool true)], args := [d] }
  | _ => none }
def leaseClockRow : OpenClaim := { program := "ythcejfnngkmojaagreatdoor", sum := "c7a5347f3470068b9a677966ceb22e974e3d2b5b63aa6ac78fd3716546fd73c9", func := "bailiwick/bailiwicklaw16.LeaseClock", spec := "leaseClock", inPlace := ["internal/bytealg.IndexByteString", "internal/bytealg.IndexString", "internal/abi.NoEscape"], unfollowed := true, recurses := true, named := ["unicode/utf8.first", "unicode/utf8.acceptRanges", "internal/bytealg.MaxLen"], apart := false, laid := [("unicode/utf8.acceptRanges", laid_unicode_utf8_acceptRanges), ("unicode/utf8.first", laid_unicode_utf8_first)] }
def LeaseClockSaid : Prop := leaseClockRow.holds Tryz.pinned (OpenSpec.ofChange leaseClockSpec)

/-- ITS FALSE NEIGHBOUR: 'it returns false'. Refute it at one input. -/
def leaseClockWrong : ChangeSpec := { name := "leaseClock", fn := fun _ => fun
  | [d] => { results := [.lit (.bool false)], args := [d] }
  | _ => none }
def LeaseClockWrongFalsely : Prop := leaseClockRow.holds Tryz.pinned (OpenSpec.ofChange leaseClockWrong)

/-- 'bailiwicklaw17.SlotApart': WHATEVER THE INPUT: true; the input reads as it did. -/
def slotApartSpec : ChangeSpec := { name := "slotApart", fn := fun _ => fun
  | [d1, d2] => { results := [.lit (.bool true)], args := [d1, d2] }
  | _ => none }
def slotApartRow : OpenClaim := { program := "ythcejfnngkmojaagreatdoor", sum := "c7a5347f3470068b9a677966ceb22e974e3d2b5b63aa6ac78fd3716546fd73c9", func := "bailiwick/bailiwicklaw17.SlotApart", spec := "slotApart", inPlace := ["internal/bytealg.IndexByteString", "internal/bytealg.IndexString", "internal/abi.NoEscape"], unfollowed := true, recurses := true, named := ["unicode/utf8.first", "unicode/utf8.acceptRanges", "internal/bytealg.MaxLen"], apart := false, laid := [("unicode/utf8.acceptRanges", laid_unicode_utf8_acceptRanges), ("unicode/utf8.first", laid_unicode_utf8_first)] }
def SlotApartSaid : Prop := slotApartRow.holds Tryz.pinned (OpenSpec.ofChange slotApartSpec)

/-- ITS FALSE NEIGHBOUR: 'it returns false'. Refute it at one input. -/
def slotApartWrong : ChangeSpec := { name := "slotApart", fn := fun _ => fun
  | [d1, d2] => { results := [.lit (.bool false)], args := [d1, d2] }
  | _ => none }
def SlotApartWrongFalsely : Prop := slotApartRow.holds Tryz.pinned (OpenSpec.ofChange slotApartWrong)

/-- 'bailiwicklaw17.SlotEpochs': WHATEVER THE INPUT: true; the input reads as it did. -/
def slotEpochsSpec : ChangeSpec := { name := "slotEpochs", fn := fun _ => fun
  | [d] => { results := [.lit (.bool true)], args := [d] }
  | _ => none }
def slotEpochsRow : OpenClaim := { program := "ythcejfnngkmojaagreatdoor", sum := "c7a5347f3470068b9a677966ceb22e974e3d2b5b63aa6ac78fd3716546fd73c9", func := "bailiwick/bailiwicklaw17.SlotEpochs", spec := "slotEpochs", inPlace := ["internal/bytealg.IndexByteString", "internal/bytealg.IndexString", "internal/abi.NoEscape"], unfollowed := true, recurses := true, named := ["unicode/utf8.first", "unicode/utf8.acceptRanges", "internal/bytealg.MaxLen"], apart := false, laid := [("unicode/utf8.acceptRanges", laid_unicode_utf8_acceptRanges), ("unicode/utf8.first", laid_unicode_utf8_first)] }
def SlotEpochsSaid : Prop := slotEpochsRow.holds Tryz.pinned (OpenSpec.ofChange slotEpochsSpec)

/-- ITS FALSE NEIGHBOUR: 'it returns false'. Refute it at one input. -/
def slotEpochsWrong : ChangeSpec := { name := "slotEpochs", fn := fun _ => fun
  | [d] => { results := [.lit (.bool false)], args := [d] }
  | _ => none }
def SlotEpochsWrongFalsely : Prop := slotEpochsRow.holds Tryz.pinned (OpenSpec.ofChange slotEpochsWrong)

/-- 'bailiwicklaw17.SlotFull': WHATEVER THE INPUT: true; the input reads as it did. -/
def slotFullSpec : ChangeSpec := { name := "slotFull", fn := fun _ => fun
  | [d1, d2] => { results := [.lit (.bool true)], args := [d1, d2] }
  | _ => none }
def slotFullRow : OpenClaim := { program := "ythcejfnngkmojaagreatdoor", sum := "c7a5347f3470068b9a677966ceb22e974e3d2b5b63aa6ac78fd3716546fd73c9", func := "bailiwick/bailiwicklaw17.SlotFull", spec := "slotFull", inPlace := ["internal/bytealg.IndexByteString", "internal/bytealg.IndexString", "internal/abi.NoEscape"], unfollowed := true, recurses := true, named := ["unicode/utf8.first", "unicode/utf8.acceptRanges", "internal/bytealg.MaxLen"], apart := false, laid := [("unicode/utf8.acceptRanges", laid_unicode_utf8_acceptRanges), ("unicode/utf8.first", laid_unicode_utf8_first)] }
def SlotFullSaid : Prop := slotFullRow.holds Tryz.pinned (OpenSpec.ofChange slotFullSpec)

/-- ITS FALSE NEIGHBOUR: 'it returns false'. Refute it at one input. -/
def slotFullWrong : ChangeSpec := { name := "slotFull", fn := fun _ => fun
  | [d1, d2] => { results := [.lit (.bool false)], args := [d1, d2] }
  | _ => none }
def SlotFullWrongFalsely : Prop := slotFullRow.holds Tryz.pinned (OpenSpec.ofChange slotFullWrong)

/-- 'bailiwicklaw17.SlotLeast': WHATEVER THE INPUT: true; the input reads as it did. -/
def slotLeastSpec : ChangeSpec := { name := "slotLeast", fn := fun _ => fun
  | [d] => { results := [.lit (.bool true)], args := [d] }
  | _ => none }
def slotLeastRow : OpenClaim := { program := "ythcejfnngkmojaagreatdoor", sum := "c7a5347f3470068b9a677966ceb22e974e3d2b5b63aa6ac78fd3716546fd73c9", func := "bailiwick/bailiwicklaw17.SlotLeast", spec := "slotLeast", inPlace := ["internal/bytealg.IndexByteString", "internal/bytealg.IndexString", "internal/abi.NoEscape"], unfollowed := true, recurses := true, named := ["unicode/utf8.first", "unicode/utf8.acceptRanges", "internal/bytealg.MaxLen"], apart := false, laid := [("unicode/utf8.acceptRanges", laid_unicode_utf8_acceptRanges), ("unicode/utf8.first", laid_unicode_utf8_first)] }
def SlotLeastSaid : Prop := slotLeastRow.holds Tryz.pinned (OpenSpec.ofChange slotLeastSpec)

/-- ITS FALSE NEIGHBOUR: 'it returns false'. Refute it at one input. -/
def slotLeastWrong : ChangeSpec := { name := "slotLeast", fn := fun _ => fun
  | [d] => { results := [.lit (.bool false)], args := [d] }
  | _ => none }
def SlotLeastWrongFalsely : Prop := slotLeastRow.holds Tryz.pinned (OpenSpec.ofChange slotLeastWrong)

/-- 'bailiwicklaw19.HandleBytes': WHATEVER THE INPUT: true; the input reads as it did. -/
def handleBytesSpec : ChangeSpec := { name := "handleBytes", fn := fun _ => fun
  | [d1, d2, d3, d4] => { results := [.lit (.bool true)], args := [d1, d2, d3, d4] }
  | _ => none }
def handleBytesRow : OpenClaim := { program := "ythcejfnngkmojaagreatdoor", sum := "c7a5347f3470068b9a677966ceb22e974e3d2b5b63aa6ac78fd3716546fd73c9", func := "bailiwick/bailiwicklaw19.HandleBytes", spec := "handleBytes", inPlace := ["internal/bytealg.IndexByteString", "internal/bytealg.IndexString", "internal/abi.NoEscape"], unfollowed := true, recurses := true, named := ["unicode/utf8.first", "unicode/utf8.acceptRanges", "internal/bytealg.MaxLen"], apart := false, laid := [("unicode/utf8.acceptRanges", laid_unicode_utf8_acceptRanges), ("unicode/utf8.first", laid_unicode_utf8_first)] }
def HandleBytesSaid : Prop := handleBytesRow.holds Tryz.pinned (OpenSpec.ofChange handleBytesSpec)

/-- ITS FALSE NEIGHBOUR: 'it returns false'. Refute it at one input. -/
def handleBytesWrong : ChangeSpec := { name := "handleBytes", fn := fun _ => fun
  | [d1, d2, d3, d4] => { results := [.lit (.bool false)], args := [d1, d2, d3, d4] }
  | _ => none }
def HandleBytesWrongFalsely : Prop := handleBytesRow.holds Tryz.pinned (OpenSpec.ofChange handleBytesWrong)

/-- 'bailiwicklaw19.HandleBack': WHATEVER THE INPUT: true; the input reads as it did. -/
def handleBackSpec : ChangeSpec := { name := "handleBack", fn := fun _ => fun
  | [d1, d2, d3, d4] => { results := [.lit (.bool true)], args := [d1, d2, d3, d4] }
  | _ => none }
def handleBackRow : OpenClaim := { program := "ythcejfnngkmojaagreatdoor", sum := "c7a5347f3470068b9a677966ceb22e974e3d2b5b63aa6ac78fd3716546fd73c9", func := "bailiwick/bailiwicklaw19.HandleBack", spec := "handleBack", inPlace := ["internal/bytealg.IndexByteString", "internal/bytealg.IndexString", "internal/abi.NoEscape"], unfollowed := true, recurses := true, named := ["unicode/utf8.first", "unicode/utf8.acceptRanges", "internal/bytealg.MaxLen"], apart := false, laid := [("unicode/utf8.acceptRanges", laid_unicode_utf8_acceptRanges), ("unicode/utf8.first", laid_unicode_utf8_first)] }
def HandleBackSaid : Prop := handleBackRow.holds Tryz.pinned (OpenSpec.ofChange handleBackSpec)

/-- ITS FALSE NEIGHBOUR: 'it returns false'. Refute it at one input. -/
def handleBackWrong : ChangeSpec := { name := "handleBack", fn := fun _ => fun
  | [d1, d2, d3, d4] => { results := [.lit (.bool false)], args := [d1, d2, d3, d4] }
  | _ => none }
def HandleBackWrongFalsely : Prop := handleBackRow.holds Tryz.pinned (OpenSpec.ofChange handleBackWrong)

/-- 'bailiwicklaw19.HandleOpens': WHATEVER THE INPUT: true; the input reads as it did. -/
def handleOpensSpec : ChangeSpec := { name := "handleOpens", fn := fun _ => fun
  | [d1, d2, d3, d4, d5] => { results := [.lit (.bool true)], args := [d1, d2, d3, d4, d5] }
  | _ => none }
def handleOpensRow : OpenClaim := { program := "ythcejfnngkmojaagreatdoor", sum := "c7a5347f3470068b9a677966ceb22e974e3d2b5b63aa6ac78fd3716546fd73c9", func := "bailiwick/bailiwicklaw19.HandleOpens", spec := "handleOpens", inPlace := ["internal/bytealg.IndexByteString", "internal/bytealg.IndexString", "internal/abi.NoEscape"], unfollowed := true, recurses := true, named := ["unicode/utf8.first", "unicode/utf8.acceptRanges", "internal/bytealg.MaxLen"], apart := false, laid := [("unicode/utf8.acceptRanges", laid_unicode_utf8_acceptRanges), ("unicode/utf8.first", laid_unicode_utf8_first)] }
def HandleOpensSaid : Prop := handleOpensRow.holds Tryz.pinned (OpenSpec.ofChange handleOpensSpec)

/-- ITS FALSE NEIGHBOUR: 'it returns false'. Refute it at one input. -/
def handleOpensWrong : ChangeSpec := { name := "handleOpens", fn := fun _ => fun
  | [d1, d2, d3, d4, d5] => { results := [.lit (.bool false)], args := [d1, d2, d3, d4, d5] }
  | _ => none }
def HandleOpensWrongFalsely : Prop := handleOpensRow.holds Tryz.pinned (OpenSpec.ofChange handleOpensWrong)

/-- 'bailiwicklaw19.HandleDraws': WHATEVER THE INPUT: true; the input reads as it did. -/
def handleDrawsSpec : ChangeSpec := { name := "handleDraws", fn := fun _ => fun
  | [d1, d2] => { results := [.lit (.bool true)], args := [d1, d2] }
  | _ => none }
def handleDrawsRow : OpenClaim := { program := "ythcejfnngkmojaagreatdoor", sum := "c7a5347f3470068b9a677966ceb22e974e3d2b5b63aa6ac78fd3716546fd73c9", func := "bailiwick/bailiwicklaw19.HandleDraws", spec := "handleDraws", inPlace := ["internal/bytealg.IndexByteString", "internal/bytealg.IndexString", "internal/abi.NoEscape"], unfollowed := true, recurses := true, named := ["unicode/utf8.first", "unicode/utf8.acceptRanges", "internal/bytealg.MaxLen"], apart := false, laid := [("unicode/utf8.acceptRanges", laid_unicode_utf8_acceptRanges), ("unicode/utf8.first", laid_unicode_utf8_first)] }
def HandleDrawsSaid : Prop := handleDrawsRow.holds Tryz.pinned (OpenSpec.ofChange handleDrawsSpec)

/-- ITS FALSE NEIGHBOUR: 'it returns false'. Refute it at one input. -/
def handleDrawsWrong : ChangeSpec := { name := "handleDraws", fn := fun _ => fun
  | [d1, d2] => { results := [.lit (.bool false)], args := [d1, d2] }
  | _ => none }
def HandleDrawsWrongFalsely : Prop := handleDrawsRow.holds Tryz.pinned (OpenSpec.ofChange handleDrawsWrong)

/-- 'bailiwicklaw19.HandleReused': WHATEVER THE INPUT: true; the input reads as it did. -/
def handleReusedSpec : ChangeSpec := { name := "handleReused", fn := fun _ => fun
  | [d1, d2, d3] => { results := [.lit (.bool true)], args := [d1, d2, d3] }
  | _ => none }
def handleReusedRow : OpenClaim := { program := "ythcejfnngkmojaagreatdoor", sum := "c7a5347f3470068b9a677966ceb22e974e3d2b5b63aa6ac78fd3716546fd73c9", func := "bailiwick/bailiwicklaw19.HandleReused", spec := "handleReused", inPlace := ["internal/bytealg.IndexByteString", "internal/bytealg.IndexString", "internal/abi.NoEscape"], unfollowed := true, recurses := true, named := ["unicode/utf8.first", "unicode/utf8.acceptRanges", "internal/bytealg.MaxLen"], apart := false, laid := [("unicode/utf8.acceptRanges", laid_unicode_utf8_acceptRanges), ("unicode/utf8.first", laid_unicode_utf8_first)] }
def HandleReusedSaid : Prop := handleReusedRow.holds Tryz.pinned (OpenSpec.ofChange handleReusedSpec)

/-- ITS FALSE NEIGHBOUR: 'it returns false'. Refute it at one input. -/
def handleReusedWrong : ChangeSpec := { name := "handleReused", fn := fun _ => fun
  | [d1, d2, d3] => { results := [.lit (.bool false)], args := [d1, d2, d3] }
  | _ => none }
def HandleReusedWrongFalsely : Prop := handleReusedRow.holds Tryz.pinned (OpenSpec.ofChange handleReusedWrong)

/-- 'bailiwicklaw19.HandleApart': WHATEVER THE INPUT: true; the input reads as it did. -/
def handleApartSpec : ChangeSpec := { name := "handleApart", fn := fun _ => fun
  | [d1, d2, d3, d4, d5, d6, d7] => { results := [.lit (.bool true)], args := [d1, d2, d3, d4, d5, d6, d7] }
  | _ => none }
def handleApartRow : OpenClaim := { program := "ythcejfnngkmojaagreatdoor", sum := "c7a5347f3470068b9a677966ceb22e974e3d2b5b63aa6ac78fd3716546fd73c9", func := "bailiwick/bailiwicklaw19.HandleApart", spec := "handleApart", inPlace := ["internal/bytealg.IndexByteString", "internal/bytealg.IndexString", "internal/abi.NoEscape"], unfollowed := true, recurses := true, named := ["unicode/utf8.first", "unicode/utf8.acceptRanges", "internal/bytealg.MaxLen"], apart := false, laid := [("unicode/utf8.acceptRanges", laid_unicode_utf8_acceptRanges), ("unicode/utf8.first", laid_unicode_utf8_first)] }
def HandleApartSaid : Prop := handleApartRow.holds Tryz.pinned (OpenSpec.ofChange handleApartSpec)

/-- ITS FALSE NEIGHBOUR: 'it returns false'. Refute it at one input. -/
def handleApartWrong : ChangeSpec := { name := "handleApart", fn := fun _ => fun
  | [d1, d2, d3, d4, d5, d6, d7] => { results := [.lit (.bool false)], args := [d1, d2, d3, d4, d5, d6, d7] }
  | _ => none }
def HandleApartWrongFalsely : Prop := handleApartRow.holds Tryz.pinned (OpenSpec.ofChange handleApartWrong)

/-- 'bailiwicklaw19.HandleKeys': WHATEVER THE INPUT: true; the input reads as it did. -/
def handleKeysSpec : ChangeSpec := { name := "handleKeys", fn := fun _ => fun
  | [d1, d2] => { results := [.lit (.bool true)], args := [d1, d2] }
  | _ => none }
def handleKeysRow : OpenClaim := { program := "ythcejfnngkmojaagreatdoor", sum := "c7a5347f3470068b9a677966ceb22e974e3d2b5b63aa6ac78fd3716546fd73c9", func := "bailiwick/bailiwicklaw19.HandleKeys", spec := "handleKeys", inPlace := ["internal/bytealg.IndexByteString", "internal/bytealg.IndexString", "internal/abi.NoEscape"], unfollowed := true, recurses := true, named := ["unicode/utf8.first", "unicode/utf8.acceptRanges", "internal/bytealg.MaxLen"], apart := false, laid := [("unicode/utf8.acceptRanges", laid_unicode_utf8_acceptRanges), ("unicode/utf8.first", laid_unicode_utf8_first)] }
def HandleKeysSaid : Prop := handleKeysRow.holds Tryz.pinned (OpenSpec.ofChange handleKeysSpec)

/-- ITS FALSE NEIGHBOUR: 'it returns false'. Refute it at one input. -/
def handleKeysWrong : ChangeSpec := { name := "handleKeys", fn := fun _ => fun
  | [d1, d2] => { results := [.lit (.bool false)], args := [d1, d2] }
  | _ => none }
def HandleKeysWrongFalsely : Prop := handleKeysRow.holds Tryz.pinned (OpenSpec.ofChange handleKeysWrong)

/- THE SECOND FORM. 'bulk': how many values and letters a reading holds, each counted each time it is reached (what is shared counts as often as it is met; a slice's spare places count too). A statement '..UptoSaid' is the law's where the arguments, and the package variables that the reading takes, are together of bulk at most 1048576: NARROWER than '..Said'. Prove '..Said' where nothing that the law and all that it calls make is longer than what came in: it says more and counts as full. Else prove '..UptoSaid'. A law counts once. -/
mutual
def uptoBulk {H : Type} : DataW H → Nat
  | .lit (.string bytes) => bytes.length + 1
  | .lit _ => 1
  | .nil => 1
  | .ptr d => uptoBulk d + 1
  | .slice elems spare => uptoBulkAll elems + uptoBulkAll spare + 1
  | .agg parts => uptoBulkAll parts + 1
  | .iface _ d => uptoBulk d + 1
  | .map entries => uptoBulkEntries entries + 1
  | .held _ => 1
def uptoBulkAll {H : Type} : List (DataW H) → Nat
  | [] => 0
  | d :: r => uptoBulk d + uptoBulkAll r
def uptoBulkEntries {H : Type} : List (Lit × DataW H) → Nat
  | [] => 0
  | x :: r => uptoBulkEntry x + uptoBulkEntries r
def uptoBulkEntry {H : Type} : Lit × DataW H → Nat
  | (.string bytes, d) => bytes.length + uptoBulk d + 1
  | (_, d) => uptoBulk d + 1
 end
def uptoSmall : (H : Type) → List (DataW H) → Bool := fun _ ds => decide (uptoBulkAll ds ≤ 1048576)
def OpenSpec.upto (s : _root_.Go.ChangeSpec) : _root_.Go.OpenSpec := { _root_.Go.OpenSpec.ofChange s with cond := some uptoSmall }

/-- 'bailiwicklaw16.LeaseClock', WHERE WHAT IT READS IS OF BULK AT MOST 1048576: true; the input reads as it did. -/
def leaseClockUptoRow : OpenClaim := { program := "ythcejfnngkmojaagreatdoor", sum := "c7a5347f3470068b9a677966ceb22e974e3d2b5b63aa6ac78fd3716546fd73c9", func := "bailiwick/bailiwicklaw16.LeaseClock", spec := "leaseClock", inPlace := ["internal/bytealg.IndexByteString", "internal/bytealg.IndexString", "internal/abi.NoEscape"], unfollowed := true, recurses := true, named := ["unicode/utf8.first", "unicode/utf8.acceptRanges", "internal/bytealg.MaxLen"], apart := false, laid := [("unicode/utf8.acceptRanges", laid_unicode_utf8_acceptRanges), ("unicode/utf8.first", laid_unicode_utf8_first)], narrowed := true }
def LeaseClockUptoSaid : Prop := leaseClockUptoRow.holds Tryz.pinned (OpenSpec.upto leaseClockSpec)

/-- 'bailiwicklaw17.SlotApart', WHERE WHAT IT READS IS OF BULK AT MOST 1048576: true; the input reads as it did. -/
def slotApartUptoRow : OpenClaim := { program := "ythcejfnngkmojaagreatdoor", sum := "c7a5347f3470068b9a677966ceb22e974e3d2b5b63aa6ac78fd3716546fd73c9", func := "bailiwick/bailiwicklaw17.SlotApart", spec := "slotApart", inPlace := ["internal/bytealg.IndexByteString", "internal/bytealg.IndexString", "internal/abi.NoEscape"], unfollowed := true, recurses := true, named := ["unicode/utf8.first", "unicode/utf8.acceptRanges", "internal/bytealg.MaxLen"], apart := false, laid := [("unicode/utf8.acceptRanges", laid_unicode_utf8_acceptRanges), ("unicode/utf8.first", laid_unicode_utf8_first)], narrowed := true }
def SlotApartUptoSaid : Prop := slotApartUptoRow.holds Tryz.pinned (OpenSpec.upto slotApartSpec)

/-- 'bailiwicklaw17.SlotEpochs', WHERE WHAT IT READS IS OF BULK AT MOST 1048576: true; the input reads as it did. -/
def slotEpochsUptoRow : OpenClaim := { program := "ythcejfnngkmojaagreatdoor", sum := "c7a5347f3470068b9a677966ceb22e974e3d2b5b63aa6ac78fd3716546fd73c9", func := "bailiwick/bailiwicklaw17.SlotEpochs", spec := "slotEpochs", inPlace := ["internal/bytealg.IndexByteString", "internal/bytealg.IndexString", "internal/abi.NoEscape"], unfollowed := true, recurses := true, named := ["unicode/utf8.first", "unicode/utf8.acceptRanges", "internal/bytealg.MaxLen"], apart := false, laid := [("unicode/utf8.acceptRanges", laid_unicode_utf8_acceptRanges), ("unicode/utf8.first", laid_unicode_utf8_first)], narrowed := true }
def SlotEpochsUptoSaid : Prop := slotEpochsUptoRow.holds Tryz.pinned (OpenSpec.upto slotEpochsSpec)

/-- 'bailiwicklaw17.SlotFull', WHERE WHAT IT READS IS OF BULK AT MOST 1048576: true; the input reads as it did. -/
def slotFullUptoRow : OpenClaim := { program := "ythcejfnngkmojaagreatdoor", sum := "c7a5347f3470068b9a677966ceb22e974e3d2b5b63aa6ac78fd3716546fd73c9", func := "bailiwick/bailiwicklaw17.SlotFull", spec := "slotFull", inPlace := ["internal/bytealg.IndexByteString", "internal/bytealg.IndexString", "internal/abi.NoEscape"], unfollowed := true, recurses := true, named := ["unicode/utf8.first", "unicode/utf8.acceptRanges", "internal/bytealg.MaxLen"], apart := false, laid := [("unicode/utf8.acceptRanges", laid_unicode_utf8_acceptRanges), ("unicode/utf8.first", laid_unicode_utf8_first)], narrowed := true }
def SlotFullUptoSaid : Prop := slotFullUptoRow.holds Tryz.pinned (OpenSpec.upto slotFullSpec)

/-- 'bailiwicklaw17.SlotLeast', WHERE WHAT IT READS IS OF BULK AT MOST 1048576: true; the input reads as it did. -/
def slotLeastUptoRow : OpenClaim := { program := "ythcejfnngkmojaagreatdoor", sum := "c7a5347f3470068b9a677966ceb22e974e3d2b5b63aa6ac78fd3716546fd73c9", func := "bailiwick/bailiwicklaw17.SlotLeast", spec := "slotLeast", inPlace := ["internal/bytealg.IndexByteString", "internal/bytealg.IndexString", "internal/abi.NoEscape"], unfollowed := true, recurses := true, named := ["unicode/utf8.first", "unicode/utf8.acceptRanges", "internal/bytealg.MaxLen"], apart := false, laid := [("unicode/utf8.acceptRanges", laid_unicode_utf8_acceptRanges), ("unicode/utf8.first", laid_unicode_utf8_first)], narrowed := true }
def SlotLeastUptoSaid : Prop := slotLeastUptoRow.holds Tryz.pinned (OpenSpec.upto slotLeastSpec)

/-- 'bailiwicklaw19.HandleBytes', WHERE WHAT IT READS IS OF BULK AT MOST 1048576: true; the input reads as it did. -/
def handleBytesUptoRow : OpenClaim := { program := "ythcejfnngkmojaagreatdoor", sum := "c7a5347f3470068b9a677966ceb22e974e3d2b5b63aa6ac78fd3716546fd73c9", func := "bailiwick/bailiwicklaw19.HandleBytes", spec := "handleBytes", inPlace := ["internal/bytealg.IndexByteString", "internal/bytealg.IndexString", "internal/abi.NoEscape"], unfollowed := true, recurses := true, named := ["unicode/utf8.first", "unicode/utf8.acceptRanges", "internal/bytealg.MaxLen"], apart := false, laid := [("unicode/utf8.acceptRanges", laid_unicode_utf8_acceptRanges), ("unicode/utf8.first", laid_unicode_utf8_first)], narrowed := true }
def HandleBytesUptoSaid : Prop := handleBytesUptoRow.holds Tryz.pinned (OpenSpec.upto handleBytesSpec)

/-- 'bailiwicklaw19.HandleBack', WHERE WHAT IT READS IS OF BULK AT MOST 1048576: true; the input reads as it did. -/
def handleBackUptoRow : OpenClaim := { program := "ythcejfnngkmojaagreatdoor", sum := "c7a5347f3470068b9a677966ceb22e974e3d2b5b63aa6ac78fd3716546fd73c9", func := "bailiwick/bailiwicklaw19.HandleBack", spec := "handleBack", inPlace := ["internal/bytealg.IndexByteString", "internal/bytealg.IndexString", "internal/abi.NoEscape"], unfollowed := true, recurses := true, named := ["unicode/utf8.first", "unicode/utf8.acceptRanges", "internal/bytealg.MaxLen"], apart := false, laid := [("unicode/utf8.acceptRanges", laid_unicode_utf8_acceptRanges), ("unicode/utf8.first", laid_unicode_utf8_first)], narrowed := true }
def HandleBackUptoSaid : Prop := handleBackUptoRow.holds Tryz.pinned (OpenSpec.upto handleBackSpec)

/-- 'bailiwicklaw19.HandleOpens', WHERE WHAT IT READS IS OF BULK AT MOST 1048576: true; the input reads as it did. -/
def handleOpensUptoRow : OpenClaim := { program := "ythcejfnngkmojaagreatdoor", sum := "c7a5347f3470068b9a677966ceb22e974e3d2b5b63aa6ac78fd3716546fd73c9", func := "bailiwick/bailiwicklaw19.HandleOpens", spec := "handleOpens", inPlace := ["internal/bytealg.IndexByteString", "internal/bytealg.IndexString", "internal/abi.NoEscape"], unfollowed := true, recurses := true, named := ["unicode/utf8.first", "unicode/utf8.acceptRanges", "internal/bytealg.MaxLen"], apart := false, laid := [("unicode/utf8.acceptRanges", laid_unicode_utf8_acceptRanges), ("unicode/utf8.first", laid_unicode_utf8_first)], narrowed := true }
def HandleOpensUptoSaid : Prop := handleOpensUptoRow.holds Tryz.pinned (OpenSpec.upto handleOpensSpec)

/-- 'bailiwicklaw19.HandleDraws', WHERE WHAT IT READS IS OF BULK AT MOST 1048576: true; the input reads as it did. -/
def handleDrawsUptoRow : OpenClaim := { program := "ythcejfnngkmojaagreatdoor", sum := "c7a5347f3470068b9a677966ceb22e974e3d2b5b63aa6ac78fd3716546fd73c9", func := "bailiwick/bailiwicklaw19.HandleDraws", spec := "handleDraws", inPlace := ["internal/bytealg.IndexByteString", "internal/bytealg.IndexString", "internal/abi.NoEscape"], unfollowed := true, recurses := true, named := ["unicode/utf8.first", "unicode/utf8.acceptRanges", "internal/bytealg.MaxLen"], apart := false, laid := [("unicode/utf8.acceptRanges", laid_unicode_utf8_acceptRanges), ("unicode/utf8.first", laid_unicode_utf8_first)], narrowed := true }
def HandleDrawsUptoSaid : Prop := handleDrawsUptoRow.holds Tryz.pinned (OpenSpec.upto handleDrawsSpec)

/-- 'bailiwicklaw19.HandleReused', WHERE WHAT IT READS IS OF BULK AT MOST 1048576: true; the input reads as it did. -/
def handleReusedUptoRow : OpenClaim := { program := "ythcejfnngkmojaagreatdoor", sum := "c7a5347f3470068b9a677966ceb22e974e3d2b5b63aa6ac78fd3716546fd73c9", func := "bailiwick/bailiwicklaw19.HandleReused", spec := "handleReused", inPlace := ["internal/bytealg.IndexByteString", "internal/bytealg.IndexString", "internal/abi.NoEscape"], unfollowed := true, recurses := true, named := ["unicode/utf8.first", "unicode/utf8.acceptRanges", "internal/bytealg.MaxLen"], apart := false, laid := [("unicode/utf8.acceptRanges", laid_unicode_utf8_acceptRanges), ("unicode/utf8.first", laid_unicode_utf8_first)], narrowed := true }
def HandleReusedUptoSaid : Prop := handleReusedUptoRow.holds Tryz.pinned (OpenSpec.upto handleReusedSpec)

/-- 'bailiwicklaw19.HandleApart', WHERE WHAT IT READS IS OF BULK AT MOST 1048576: true; the input reads as it did. -/
def handleApartUptoRow : OpenClaim := { program := "ythcejfnngkmojaagreatdoor", sum := "c7a5347f3470068b9a677966ceb22e974e3d2b5b63aa6ac78fd3716546fd73c9", func := "bailiwick/bailiwicklaw19.HandleApart", spec := "handleApart", inPlace := ["internal/bytealg.IndexByteString", "internal/bytealg.IndexString", "internal/abi.NoEscape"], unfollowed := true, recurses := true, named := ["unicode/utf8.first", "unicode/utf8.acceptRanges", "internal/bytealg.MaxLen"], apart := false, laid := [("unicode/utf8.acceptRanges", laid_unicode_utf8_acceptRanges), ("unicode/utf8.first", laid_unicode_utf8_first)], narrowed := true }
def HandleApartUptoSaid : Prop := handleApartUptoRow.holds Tryz.pinned (OpenSpec.upto handleApartSpec)

/-- 'bailiwicklaw19.HandleKeys', WHERE WHAT IT READS IS OF BULK AT MOST 1048576: true; the input reads as it did. -/
def handleKeysUptoRow : OpenClaim := { program := "ythcejfnngkmojaagreatdoor", sum := "c7a5347f3470068b9a677966ceb22e974e3d2b5b63aa6ac78fd3716546fd73c9", func := "bailiwick/bailiwicklaw19.HandleKeys", spec := "handleKeys", inPlace := ["internal/bytealg.IndexByteString", "internal/bytealg.IndexString", "internal/abi.NoEscape"], unfollowed := true, recurses := true, named := ["unicode/utf8.first", "unicode/utf8.acceptRanges", "internal/bytealg.MaxLen"], apart := false, laid := [("unicode/utf8.acceptRanges", laid_unicode_utf8_acceptRanges), ("unicode/utf8.first", laid_unicode_utf8_first)], narrowed := true }
def HandleKeysUptoSaid : Prop := handleKeysUptoRow.holds Tryz.pinned (OpenSpec.upto handleKeysSpec)

end Rows
end Go.Proofs.YthcejfnngkmojaaGreatDoor
