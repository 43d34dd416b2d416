/-
  NARROWER THAN 'FOR EVERY INPUT', by the rows' own cells (each row's printed sentence says how): CaptMoves: laid · CaptKids: laid · CaptRights: laid · CaptQuota: laid · CaptRevoked: laid.
  DERIVED. THE GIVEN ROWS OF THIS SEAT. 5 by the template 'for every input the law returns true; each argument reads behind the call as it read before'; 0 by the template 'total and deterministic' (their statements: YtknikcihgijmlaaGreatDoorTotals.lean).
  GIVEN WITH THE SEED: the statements are not yours to turn. If you find one false, say at which input.
  Laid BY PROGRAM, IN A SANDBOX (cutbox-rows.mjs): the forced cells as the released guide's own fill.sh prints them over the translation dc868ed0b4ce5e9a… (all of the seat's roots in one cut). By AI agents, Wed Nov 11 2026. No macro, syntax, notation, axiom, sorry.
-/
import Derived.Test.YtknikcihgijmlaaGreatDoorChecked
import GoSem.PinnedTables
import GoSem.Claim
import GoSem.ClaimJoined
import GoSem.ClaimMapViews
import Derived.JoinedTies
import Derived.KernelRfl
namespace Go.Proofs.YtknikcihgijmlaaGreatDoor
/- THE CELL 'sum', in the pinned program and in every row, IS THE sha256 OF THE DUMP (.gsa) THAT YtknikcihgijmlaaGreatDoorProg.lean LOADS. Nothing in Lean hashes anything: it is a label: what it is worth is what the hold of that sum in a sandbox is worth. -/
noncomputable def Tryz.pinned : Pinned := { name := "ytknikcihgijmlaagreatdoor", sum := "dc868ed0b4ce5e9ae1c93bd7ab0bdf9feb64af48fb4f9960d4bccbba74bc69e8", checked := Tryz.checked }
namespace Rows
def none {H : Type} : Left H := { results := [], args := [] }

/- WHAT THE LISTED PACKAGE-LEVEL VARIABLES READ AS WHEN THE CALL BEGINS. Each datum BY PROGRAM (the guide's laid-datum.mjs) off the statement by which the dump's own 'gosem.cut.vars' lays the variable. In a bare row this is a premise. The card (YtknikcihgijmlaaGreatDoorCards.lean) ties it to the program's text. -/
def laid_unicode_utf8_acceptRanges {H : Type} : DataW H := .agg [.agg [.lit (.int .u8 128), .lit (.int .u8 191)], .agg [.lit (.int .u8 160), .lit (.int .u8 191)], .agg [.lit (.int .u8 128), .lit (.int .u8 159)], .agg [.lit (.int .u8 144), .lit (.int .u8 191)], .agg [.lit (.int .u8 128), .lit (.int .u8 143)], .agg [.lit (.int .u8 0), .lit (.int .u8 0)], .agg [.lit (.int .u8 0), .lit (.int .u8 0)], .agg [.lit (.int .u8 0), .lit (.int .u8 0)], .agg [.lit (.int .u8 0), .lit (.int .u8 0)], .agg [.lit (.int .u8 0), .lit (.int .u8 0)], .agg [.lit (.int .u8 0), .lit (.int .u8 0)], .agg [.lit (.int .u8 0), .lit (.int .u8 0)], .agg [.lit (.int .u8 0), .lit (.int .u8 0)], .agg [.lit (.int .u8 0), .lit (.int .u8 0)], .agg [.lit (.int .u8 0), .lit (.int .u8 0)], .agg [.lit (.int .u8 0), .lit (.int .u8 0)]]
/-- One of Go's own tables, pinned by name: the form's constant. -/
def laid_unicode_utf8_first : DataW Unit := Go.Pinned.utf8First

/-- 'bailiwicklaw15.CaptMoves': WHATEVER THE INPUT: true; the input reads as it did. -/
def captMovesSpec : ChangeSpec := { name := "captMoves", fn := fun _ => fun
  | [d1, d2, d3] => { results := [.lit (.bool true)], args := [d1, d2, d3] }
  | _ => none }
def captMovesRow : OpenClaim := { program := "ytknikcihgijmlaagreatdoor", sum := "dc868ed0b4ce5e9ae1c93bd7ab0bdf9feb64af48fb4f9960d4bccbba74bc69e8", func := "bailiwick/bailiwicklaw15.CaptMoves", spec := "captMoves", inPlace := ["internal/bytealg.IndexByteString", "internal/bytealg.IndexString", "internal/abi.NoEscape"], unfollowed := true, recurses := true, named := ["unicode/utf8.first", "unicode/utf8.acceptRanges", "internal/bytealg.MaxLen"], apart := false, laid := [("unicode/utf8.acceptRanges", laid_unicode_utf8_acceptRanges), ("unicode/utf8.first", laid_unicode_utf8_first)] }
def CaptMovesSaid : Prop := captMovesRow.holds Tryz.pinned (OpenSpec.ofChange captMovesSpec)

/-- ITS FALSE NEIGHBOUR: 'it returns false'. Refute it at one input. -/
def captMovesWrong : ChangeSpec := { name := "captMoves", fn := fun _ => fun
  | [d1, d2, d3] => { results := [.lit (.bool false)], args := [d1, d2, d3] }
  | _ => none }
def CaptMovesWrongFalsely : Prop := captMovesRow.holds Tryz.pinned (OpenSpec.ofChange captMovesWrong)

/-- 'bailiwicklaw15.CaptKids': WHATEVER THE INPUT: true; the input reads as it did. -/
def captKidsSpec : ChangeSpec := { name := "captKids", fn := fun _ => fun
  | [d1, d2] => { results := [.lit (.bool true)], args := [d1, d2] }
  | _ => none }
def captKidsRow : OpenClaim := { program := "ytknikcihgijmlaagreatdoor", sum := "dc868ed0b4ce5e9ae1c93bd7ab0bdf9feb64af48fb4f9960d4bccbba74bc69e8", func := "bailiwick/bailiwicklaw15.CaptKids", spec := "captKids", inPlace := ["internal/bytealg.IndexByteString", "internal/bytealg.IndexString", "internal/abi.NoEscape"], unfollowed := true, recurses := true, named := ["unicode/utf8.first", "unicode/utf8.acceptRanges", "internal/bytealg.MaxLen"], apart := false, laid := [("unicode/utf8.acceptRanges", laid_unicode_utf8_acceptRanges), ("unicode/utf8.first", laid_unicode_utf8_first)] }
def CaptKidsSaid : Prop := captKidsRow.holds Tryz.pinned (OpenSpec.ofChange captKidsSpec)

/-- ITS FALSE NEIGHBOUR: 'it returns false'. Refute it at one input. -/
def captKidsWrong : ChangeSpec := { name := "captKids", fn := fun _ => fun
  | [d1, d2] => { results := [.lit (.bool false)], args := [d1, d2] }
  | _ => none }
def CaptKidsWrongFalsely : Prop := captKidsRow.holds Tryz.pinned (OpenSpec.ofChange captKidsWrong)

/-- 'bailiwicklaw15.CaptRights': WHATEVER THE INPUT: true; the input reads as it did. -/
def captRightsSpec : ChangeSpec := { name := "captRights", fn := fun _ => fun
  | [d] => { results := [.lit (.bool true)], args := [d] }
  | _ => none }
def captRightsRow : OpenClaim := { program := "ytknikcihgijmlaagreatdoor", sum := "dc868ed0b4ce5e9ae1c93bd7ab0bdf9feb64af48fb4f9960d4bccbba74bc69e8", func := "bailiwick/bailiwicklaw15.CaptRights", spec := "captRights", inPlace := ["internal/bytealg.IndexByteString", "internal/bytealg.IndexString", "internal/abi.NoEscape"], unfollowed := true, recurses := true, named := ["unicode/utf8.first", "unicode/utf8.acceptRanges", "internal/bytealg.MaxLen"], apart := false, laid := [("unicode/utf8.acceptRanges", laid_unicode_utf8_acceptRanges), ("unicode/utf8.first", laid_unicode_utf8_first)] }
def CaptRightsSaid : Prop := captRightsRow.holds Tryz.pinned (OpenSpec.ofChange captRightsSpec)

/-- ITS FALSE NEIGHBOUR: 'it returns false'. Refute it at one input. -/
def captRightsWrong : ChangeSpec := { name := "captRights", fn := fun _ => fun
  | [d] => { results := [.lit (.bool false)], args := [d] }
  | _ => none }
def CaptRightsWrongFalsely : Prop := captRightsRow.holds Tryz.pinned (OpenSpec.ofChange captRightsWrong)

/-- 'bailiwicklaw15.CaptQuota': WHATEVER THE INPUT: true; the input reads as it did. -/
def captQuotaSpec : ChangeSpec := { name := "captQuota", fn := fun _ => fun
  | [d] => { results := [.lit (.bool true)], args := [d] }
  | _ => none }
def captQuotaRow : OpenClaim := { program := "ytknikcihgijmlaagreatdoor", sum := "dc868ed0b4ce5e9ae1c93bd7ab0bdf9feb64af48fb4f9960d4bccbba74bc69e8", func := "bailiwick/bailiwicklaw15.CaptQuota", spec := "captQuota", inPlace := ["internal/bytealg.IndexByteString", "internal/bytealg.IndexString", "internal/abi.NoEscape"], unfollowed := true, recurses := true, named := ["unicode/utf8.first", "unicode/utf8.acceptRanges", "internal/bytealg.MaxLen"], apart := false, laid := [("unicode/utf8.acceptRanges", laid_unicode_utf8_acceptRanges), ("unicode/utf8.first", laid_unicode_utf8_first)] }
def CaptQuotaSaid : Prop := captQuotaRow.holds Tryz.pinned (OpenSpec.ofChange captQuotaSpec)

/-- ITS FALSE NEIGHBOUR: 'it returns false'. Refute it at one input. -/
def captQuotaWrong : ChangeSpec := { name := "captQuota", fn := fun _ => fun
  | [d] => { results := [.lit (.bool false)], args := [d] }
  | _ => none }
def CaptQuotaWrongFalsely : Prop := captQuotaRow.holds Tryz.pinned (OpenSpec.ofChange captQuotaWrong)

/-- 'bailiwicklaw15.CaptRevoked': WHATEVER THE INPUT: true; the input reads as it did. -/
def captRevokedSpec : ChangeSpec := { name := "captRevoked", fn := fun _ => fun
  | [d1, d2, d3] => { results := [.lit (.bool true)], args := [d1, d2, d3] }
  | _ => none }
def captRevokedRow : OpenClaim := { program := "ytknikcihgijmlaagreatdoor", sum := "dc868ed0b4ce5e9ae1c93bd7ab0bdf9feb64af48fb4f9960d4bccbba74bc69e8", func := "bailiwick/bailiwicklaw15.CaptRevoked", spec := "captRevoked", inPlace := ["internal/bytealg.IndexByteString", "internal/bytealg.IndexString", "internal/abi.NoEscape"], unfollowed := true, recurses := true, named := ["unicode/utf8.first", "unicode/utf8.acceptRanges", "internal/bytealg.MaxLen"], apart := false, laid := [("unicode/utf8.acceptRanges", laid_unicode_utf8_acceptRanges), ("unicode/utf8.first", laid_unicode_utf8_first)] }
def CaptRevokedSaid : Prop := captRevokedRow.holds Tryz.pinned (OpenSpec.ofChange captRevokedSpec)

/-- ITS FALSE NEIGHBOUR: 'it returns false'. Refute it at one input. -/
def captRevokedWrong : ChangeSpec := { name := "captRevoked", fn := fun _ => fun
  | [d1, d2, d3] => { results := [.lit (.bool false)], args := [d1, d2, d3] }
  | _ => none }
def CaptRevokedWrongFalsely : Prop := captRevokedRow.holds Tryz.pinned (OpenSpec.ofChange captRevokedWrong)

/- THE SECOND FORM. 'bulk': how many values and letters a reading holds, each counted each time it is reached (what is shared counts as often as it is met; a slice's spare places count too). A statement '..UptoSaid' is the law's where the arguments, and the package variables that the reading takes, are together of bulk at most 1048576: NARROWER than '..Said'. Prove '..Said' where nothing that the law and all that it calls make is longer than what came in: it says more and counts as full. Else prove '..UptoSaid'. A law counts once. -/
mutual
def uptoBulk {H : Type} : DataW H → Nat
  | .lit (.string bytes) => bytes.length + 1
  | .lit _ => 1
  | .nil => 1
  | .ptr d => uptoBulk d + 1
  | .slice elems spare => uptoBulkAll elems + uptoBulkAll spare + 1
  | .agg parts => uptoBulkAll parts + 1
  | .iface _ d => uptoBulk d + 1
  | .map entries => uptoBulkEntries entries + 1
  | .held _ => 1
def uptoBulkAll {H : Type} : List (DataW H) → Nat
  | [] => 0
  | d :: r => uptoBulk d + uptoBulkAll r
def uptoBulkEntries {H : Type} : List (Lit × DataW H) → Nat
  | [] => 0
  | x :: r => uptoBulkEntry x + uptoBulkEntries r
def uptoBulkEntry {H : Type} : Lit × DataW H → Nat
  | (.string bytes, d) => bytes.length + uptoBulk d + 1
  | (_, d) => uptoBulk d + 1
 end
def uptoSmall : (H : Type) → List (DataW H) → Bool := fun _ ds => decide (uptoBulkAll ds ≤ 1048576)
def OpenSpec.upto (s : _root_.Go.ChangeSpec) : _root_.Go.OpenSpec := { _root_.Go.OpenSpec.ofChange s with cond := some uptoSmall }

/-- 'bailiwicklaw15.CaptMoves', WHERE WHAT IT READS IS OF BULK AT MOST 1048576: true; the input reads as it did. -/
def captMovesUptoRow : OpenClaim := { program := "ytknikcihgijmlaagreatdoor", sum := "dc868ed0b4ce5e9ae1c93bd7ab0bdf9feb64af48fb4f9960d4bccbba74bc69e8", func := "bailiwick/bailiwicklaw15.CaptMoves", spec := "captMoves", inPlace := ["internal/bytealg.IndexByteString", "internal/bytealg.IndexString", "internal/abi.NoEscape"], unfollowed := true, recurses := true, named := ["unicode/utf8.first", "unicode/utf8.acceptRanges", "internal/bytealg.MaxLen"], apart := false, laid := [("unicode/utf8.acceptRanges", laid_unicode_utf8_acceptRanges), ("unicode/utf8.first", laid_unicode_utf8_first)], narrowed := true }
def CaptMovesUptoSaid : Prop := captMovesUptoRow.holds Tryz.pinned (OpenSpec.upto captMovesSpec)

/-- 'bailiwicklaw15.CaptKids', WHERE WHAT IT READS IS OF BULK AT MOST 1048576: true; the input reads as it did. -/
def captKidsUptoRow : OpenClaim := { program := "ytknikcihgijmlaagreatdoor", sum := "dc868ed0b4ce5e9ae1c93bd7ab0bdf9feb64af48fb4f9960d4bccbba74bc69e8", func := "bailiwick/bailiwicklaw15.CaptKids", spec := "captKids", inPlace := ["internal/bytealg.IndexByteString", "internal/bytealg.IndexString", "internal/abi.NoEscape"], unfollowed := true, recurses := true, named := ["unicode/utf8.first", "unicode/utf8.acceptRanges", "internal/bytealg.MaxLen"], apart := false, laid := [("unicode/utf8.acceptRanges", laid_unicode_utf8_acceptRanges), ("unicode/utf8.first", laid_unicode_utf8_first)], narrowed := true }
def CaptKidsUptoSaid : Prop := captKidsUptoRow.holds Tryz.pinned (OpenSpec.upto captKidsSpec)

/-- 'bailiwicklaw15.CaptRights', WHERE WHAT IT READS IS OF BULK AT MOST 1048576: true; the input reads as it did. -/
def captRightsUptoRow : OpenClaim := { program := "ytknikcihgijmlaagreatdoor", sum := "dc868ed0b4ce5e9ae1c93bd7ab0bdf9feb64af48fb4f9960d4bccbba74bc69e8", func := "bailiwick/bailiwicklaw15.CaptRights", spec := "captRights", inPlace := ["internal/bytealg.IndexByteString", "internal/bytealg.IndexString", "internal/abi.NoEscape"], unfollowed := true, recurses := true, named := ["unicode/utf8.first", "unicode/utf8.acceptRanges", "internal/bytealg.MaxLen"], apart := false, laid := [("unicode/utf8.acceptRanges", laid_unicode_utf8_acceptRanges), ("unicode/utf8.first", laid_unicode_utf8_first)], narrowed := true }
def CaptRightsUptoSaid : Prop := captRightsUptoRow.holds Tryz.pinned (OpenSpec.upto captRightsSpec)

/-- 'bailiwicklaw15.CaptQuota', WHERE WHAT IT READS IS OF BULK AT MOST 1048576: true; the input reads as it did. -/
def captQuotaUptoRow : OpenClaim := { program := "ytknikcihgijmlaagreatdoor", sum := "dc868ed0b4ce5e9ae1c93bd7ab0bdf9feb64af48fb4f9960d4bccbba74bc69e8", func := "bailiwick/bailiwicklaw15.CaptQuota", spec := "captQuota", inPlace := ["internal/bytealg.IndexByteString", "internal/bytealg.IndexString", "internal/abi.NoEscape"], unfollowed := true, recurses := true, named := ["unicode/utf8.first", "unicode/utf8.acceptRanges", "internal/bytealg.MaxLen"], apart := false, laid := [("unicode/utf8.acceptRanges", laid_unicode_utf8_acceptRanges), ("unicode/utf8.first", laid_unicode_utf8_first)], narrowed := true }
def CaptQuotaUptoSaid : Prop := captQuotaUptoRow.holds Tryz.pinned (OpenSpec.upto captQuotaSpec)

/-- 'bailiwicklaw15.CaptRevoked', WHERE WHAT IT READS IS OF BULK AT MOST 1048576: true; the input reads as it did. -/
def captRevokedUptoRow : OpenClaim := { program := "ytknikcihgijmlaagreatdoor", sum := "dc868ed0b4ce5e9ae1c93bd7ab0bdf9feb64af48fb4f9960d4bccbba74bc69e8", func := "bailiwick/bailiwicklaw15.CaptRevoked", spec := "captRevoked", inPlace := ["internal/bytealg.IndexByteString", "internal/bytealg.IndexString", "internal/abi.NoEscape"], unfollowed := true, recurses := true, named := ["unicode/utf8.first", "unicode/utf8.acceptRanges", "internal/bytealg.MaxLen"], apart := false, laid := [("unicode/utf8.acceptRanges", laid_unicode_utf8_acceptRanges), ("unicode/utf8.first", laid_unicode_utf8_first)], narrowed := true }
def CaptRevokedUptoSaid : Prop := captRevokedUptoRow.holds Tryz.pinned (OpenSpec.upto captRevokedSpec)

end Rows
end Go.Proofs.YtknikcihgijmlaaGreatDoor
