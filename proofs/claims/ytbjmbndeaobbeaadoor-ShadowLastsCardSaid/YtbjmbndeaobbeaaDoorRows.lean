/-
  NARROWER THAN 'FOR EVERY INPUT', by the rows' own cells (each row's printed sentence says how): ShadowLasts: laid · ShadowHands: laid · ShadowGives: laid · ShadowAgain: laid.
  DERIVED. THE GIVEN ROWS OF THIS SEAT. 4 by the template 'for every input the law returns true; each argument reads behind the call as it read before'; 0 by the template 'total and deterministic' (their statements: YtbjmbndeaobbeaaDoorTotals.lean).
  GIVEN WITH THE SEED: the statements are not yours to turn. If you find one false, say at which input.
  Laid BY PROGRAM, IN A SANDBOX (cutbox-rows.mjs): the forced cells as the released guide's own fill.sh prints them over the translation 2532d57b658eb3ac… (all of the seat's roots in one cut). By AI agents, Wed Nov 11 2026. No macro, syntax, notation, axiom, sorry.
-/
import Derived.Test.YtbjmbndeaobbeaaDoorChecked
import GoSem.PinnedTables
import GoSem.Claim
import GoSem.ClaimJoined
import GoSem.ClaimMapViews
import Derived.JoinedTies
import Derived.KernelRfl
namespace Go.Proofs.YtbjmbndeaobbeaaDoor
/- THE CELL 'sum', in the pinned program and in every row, IS THE sha256 OF THE DUMP (.gsa) THAT YtbjmbndeaobbeaaDoorProg.lean LOADS. Nothing in Lean hashes anything: it is a label: what it is worth is what the hold of that sum in a sandbox is worth. -/
noncomputable def Tryd.pinned : Pinned := { name := "ytbjmbndeaobbeaadoor", sum := "2532d57b658eb3ac0872465fa321543d5d5d8a6e413791fba9f165c05b4afbe4", checked := Tryd.checked }
namespace Rows
def none {H : Type} : Left H := { results := [], args := [] }

/- WHAT THE LISTED PACKAGE-LEVEL VARIABLES READ AS WHEN THE CALL BEGINS. Each datum BY PROGRAM (the guide's laid-datum.mjs) off the statement by which the dump's own 'gosem.cut.vars' lays the variable. In a bare row this is a premise. The card (YtbjmbndeaobbeaaDoorCards.lean) ties it to the program's text. -/
def laid_unicode_utf8_acceptRanges {H : Type} : DataW H := .agg [.agg [.lit (.int .u8 128), .lit (.int .u8 191)], .agg [.lit (.int .u8 160), .lit (.int .u8 191)], .agg [.lit (.int .u8 128), .lit (.int .u8 159)], .agg [.lit (.int .u8 144), .lit (.int .u8 191)], .agg [.lit (.int .u8 128), .lit (.int .u8 143)], .agg [.lit (.int .u8 0), .lit (.int .u8 0)], .agg [.lit (.int .u8 0), .lit (.int .u8 0)], .agg [.lit (.int .u8 0), .lit (.int .u8 0)], .agg [.lit (.int .u8 0), .lit (.int .u8 0)], .agg [.lit (.int .u8 0), .lit (.int .u8 0)], .agg [.lit (.int .u8 0), .lit (.int .u8 0)], .agg [.lit (.int .u8 0), .lit (.int .u8 0)], .agg [.lit (.int .u8 0), .lit (.int .u8 0)], .agg [.lit (.int .u8 0), .lit (.int .u8 0)], .agg [.lit (.int .u8 0), .lit (.int .u8 0)], .agg [.lit (.int .u8 0), .lit (.int .u8 0)]]
/-- One of Go's own tables, pinned by name: the form's constant. -/
def laid_unicode_utf8_first : DataW Unit := Go.Pinned.utf8First

/-- 'bailiwicklaw09.ShadowLasts': WHATEVER THE INPUT: true; the input reads as it did. -/
def shadowLastsSpec : ChangeSpec := { name := "shadowLasts", fn := fun _ => fun
  | [d1, d2, d3] => { results := [.lit (.bool true)], args := [d1, d2, d3] }
  | _ => none }
def shadowLastsRow : OpenClaim := { program := "ytbjmbndeaobbeaadoor", sum := "2532d57b658eb3ac0872465fa321543d5d5d8a6e413791fba9f165c05b4afbe4", func := "bailiwick/bailiwicklaw09.ShadowLasts", spec := "shadowLasts", inPlace := ["internal/bytealg.IndexByteString", "internal/bytealg.IndexString"], named := ["unicode/utf8.first", "unicode/utf8.acceptRanges", "internal/bytealg.MaxLen"], apart := false, laid := [("unicode/utf8.acceptRanges", laid_unicode_utf8_acceptRanges), ("unicode/utf8.first", laid_unicode_utf8_first)] }
def ShadowLastsSaid : Prop := shadowLastsRow.holds Tryd.pinned (OpenSpec.ofChange shadowLastsSpec)

/-- ITS FALSE NEIGHBOUR: 'it returns false'. Refute it at one input. -/
def shadowLastsWrong : ChangeSpec := { name := "shadowLasts", fn := fun _ => fun
  | [d1, d2, d3] => { results := [.lit (.bool false)], args := [d1, d2, d3] }
  | _ => none }
def ShadowLastsWrongFalsely : Prop := shadowLastsRow.holds Tryd.pinned (OpenSpec.ofChange shadowLastsWrong)

/-- 'bailiwicklaw09.ShadowHands': WHATEVER THE INPUT: true; the input reads as it did. -/
def shadowHandsSpec : ChangeSpec := { name := "shadowHands", fn := fun _ => fun
  | [d1, d2] => { results := [.lit (.bool true)], args := [d1, d2] }
  | _ => none }
def shadowHandsRow : OpenClaim := { program := "ytbjmbndeaobbeaadoor", sum := "2532d57b658eb3ac0872465fa321543d5d5d8a6e413791fba9f165c05b4afbe4", func := "bailiwick/bailiwicklaw09.ShadowHands", spec := "shadowHands", inPlace := ["internal/bytealg.IndexByteString", "internal/bytealg.IndexString"], named := ["unicode/utf8.first", "unicode/utf8.acceptRanges", "internal/bytealg.MaxLen"], apart := false, laid := [("unicode/utf8.acceptRanges", laid_unicode_utf8_acceptRanges), ("unicode/utf8.first", laid_unicode_utf8_first)] }
def ShadowHandsSaid : Prop := shadowHandsRow.holds Tryd.pinned (OpenSpec.ofChange shadowHandsSpec)

/-- ITS FALSE NEIGHBOUR: 'it returns false'. Refute it at one input. -/
def shadowHandsWrong : ChangeSpec := { name := "shadowHands", fn := fun _ => fun
  | [d1, d2] => { results := [.lit (.bool false)], args := [d1, d2] }
  | _ => none }
def ShadowHandsWrongFalsely : Prop := shadowHandsRow.holds Tryd.pinned (OpenSpec.ofChange shadowHandsWrong)

/-- 'bailiwicklaw09.ShadowGives': WHATEVER THE INPUT: true; the input reads as it did. -/
def shadowGivesSpec : ChangeSpec := { name := "shadowGives", fn := fun _ => fun
  | [d1, d2] => { results := [.lit (.bool true)], args := [d1, d2] }
  | _ => none }
def shadowGivesRow : OpenClaim := { program := "ytbjmbndeaobbeaadoor", sum := "2532d57b658eb3ac0872465fa321543d5d5d8a6e413791fba9f165c05b4afbe4", func := "bailiwick/bailiwicklaw09.ShadowGives", spec := "shadowGives", inPlace := ["internal/bytealg.IndexByteString", "internal/bytealg.IndexString"], named := ["unicode/utf8.first", "unicode/utf8.acceptRanges", "internal/bytealg.MaxLen"], apart := false, laid := [("unicode/utf8.acceptRanges", laid_unicode_utf8_acceptRanges), ("unicode/utf8.first", laid_unicode_utf8_first)] }
def ShadowGivesSaid : Prop := shadowGivesRow.holds Tryd.pinned (OpenSpec.ofChange shadowGivesSpec)

/-- ITS FALSE NEIGHBOUR: 'it returns false'. Refute it at one input. -/
def shadowGivesWrong : ChangeSpec := { name := "shadowGives", fn := fun _ => fun
  | [d1, d2] => { results := [.lit (.bool false)], args := [d1, d2] }
  | _ => none }
def ShadowGivesWrongFalsely : Prop := shadowGivesRow.holds Tryd.pinned (OpenSpec.ofChange shadowGivesWrong)

/-- 'bailiwicklaw09.ShadowAgain': WHATEVER THE INPUT: true; the input reads as it did. -/
def shadowAgainSpec : ChangeSpec := { name := "shadowAgain", fn := fun _ => fun
  | [d1, d2, d3] => { results := [.lit (.bool true)], args := [d1, d2, d3] }
  | _ => none }
def shadowAgainRow : OpenClaim := { program := "ytbjmbndeaobbeaadoor", sum := "2532d57b658eb3ac0872465fa321543d5d5d8a6e413791fba9f165c05b4afbe4", func := "bailiwick/bailiwicklaw09.ShadowAgain", spec := "shadowAgain", inPlace := ["internal/bytealg.IndexByteString", "internal/bytealg.IndexString"], named := ["unicode/utf8.first", "unicode/utf8.acceptRanges", "internal/bytealg.MaxLen"], apart := false, laid := [("unicode/utf8.acceptRanges", laid_unicode_utf8_acceptRanges), ("unicode/utf8.first", laid_unicode_utf8_first)] }
def ShadowAgainSaid : Prop := shadowAgainRow.holds Tryd.pinned (OpenSpec.ofChange shadowAgainSpec)

/-- ITS FALSE NEIGHBOUR: 'it returns false'. Refute it at one input. -/
def shadowAgainWrong : ChangeSpec := { name := "shadowAgain", fn := fun _ => fun
  | [d1, d2, d3] => { results := [.lit (.bool false)], args := [d1, d2, d3] }
  | _ => none }
def ShadowAgainWrongFalsely : Prop := shadowAgainRow.holds Tryd.pinned (OpenSpec.ofChange shadowAgainWrong)

/- THE SECOND FORM. 'bulk': how many values and letters a reading holds, each counted each time it is reached (what is shared counts as often as it is met; a slice's spare places count too). A statement '..UptoSaid' is the law's where the arguments, and the package variables that the reading takes, are together of bulk at most 1048576: NARROWER than '..Said'. Prove '..Said' where nothing that the law and all that it calls make is longer than what came in: it says more and counts as full. Else prove '..UptoSaid'. A law counts once. -/
mutual
def uptoBulk {H : Type} : DataW H → Nat
  | .lit (.string bytes) => bytes.length + 1
  | .lit _ => 1
  | .nil => 1
  | .ptr d => uptoBulk d + 1
  | .slice elems spare => uptoBulkAll elems + uptoBulkAll spare + 1
  | .agg parts => uptoBulkAll parts + 1
  | .iface _ d => uptoBulk d + 1
  | .map entries => uptoBulkEntries entries + 1
  | .held _ => 1
def uptoBulkAll {H : Type} : List (DataW H) → Nat
  | [] => 0
  | d :: r => uptoBulk d + uptoBulkAll r
def uptoBulkEntries {H : Type} : List (Lit × DataW H) → Nat
  | [] => 0
  | x :: r => uptoBulkEntry x + uptoBulkEntries r
def uptoBulkEntry {H : Type} : Lit × DataW H → Nat
  | (.string bytes, d) => bytes.length + uptoBulk d + 1
  | (_, d) => uptoBulk d + 1
 end
def uptoSmall : (H : Type) → List (DataW H) → Bool := fun _ ds => decide (uptoBulkAll ds ≤ 1048576)
def OpenSpec.upto (s : _root_.Go.ChangeSpec) : _root_.Go.OpenSpec := { _root_.Go.OpenSpec.ofChange s with cond := some uptoSmall }

/-- 'bailiwicklaw09.ShadowLasts', WHERE WHAT IT READS IS OF BULK AT MOST 1048576: true; the input reads as it did. -/
def shadowLastsUptoRow : OpenClaim := { program := "ytbjmbndeaobbeaadoor", sum := "2532d57b658eb3ac0872465fa321543d5d5d8a6e413791fba9f165c05b4afbe4", func := "bailiwick/bailiwicklaw09.ShadowLasts", spec := "shadowLasts", inPlace := ["internal/bytealg.IndexByteString", "internal/bytealg.IndexString"], named := ["unicode/utf8.first", "unicode/utf8.acceptRanges", "internal/bytealg.MaxLen"], apart := false, laid := [("unicode/utf8.acceptRanges", laid_unicode_utf8_acceptRanges), ("unicode/utf8.first", laid_unicode_utf8_first)], narrowed := true }
def ShadowLastsUptoSaid : Prop := shadowLastsUptoRow.holds Tryd.pinned (OpenSpec.upto shadowLastsSpec)

/-- 'bailiwicklaw09.ShadowHands', WHERE WHAT IT READS IS OF BULK AT MOST 1048576: true; the input reads as it did. -/
def shadowHandsUptoRow : OpenClaim := { program := "ytbjmbndeaobbeaadoor", sum := "2532d57b658eb3ac0872465fa321543d5d5d8a6e413791fba9f165c05b4afbe4", func := "bailiwick/bailiwicklaw09.ShadowHands", spec := "shadowHands", inPlace := ["internal/bytealg.IndexByteString", "internal/bytealg.IndexString"], named := ["unicode/utf8.first", "unicode/utf8.acceptRanges", "internal/bytealg.MaxLen"], apart := false, laid := [("unicode/utf8.acceptRanges", laid_unicode_utf8_acceptRanges), ("unicode/utf8.first", laid_unicode_utf8_first)], narrowed := true }
def ShadowHandsUptoSaid : Prop := shadowHandsUptoRow.holds Tryd.pinned (OpenSpec.upto shadowHandsSpec)

/-- 'bailiwicklaw09.ShadowGives', WHERE WHAT IT READS IS OF BULK AT MOST 1048576: true; the input reads as it did. -/
def shadowGivesUptoRow : OpenClaim := { program := "ytbjmbndeaobbeaadoor", sum := "2532d57b658eb3ac0872465fa321543d5d5d8a6e413791fba9f165c05b4afbe4", func := "bailiwick/bailiwicklaw09.ShadowGives", spec := "shadowGives", inPlace := ["internal/bytealg.IndexByteString", "internal/bytealg.IndexString"], named := ["unicode/utf8.first", "unicode/utf8.acceptRanges", "internal/bytealg.MaxLen"], apart := false, laid := [("unicode/utf8.acceptRanges", laid_unicode_utf8_acceptRanges), ("unicode/utf8.first", laid_unicode_utf8_first)], narrowed := true }
def ShadowGivesUptoSaid : Prop := shadowGivesUptoRow.holds Tryd.pinned (OpenSpec.upto shadowGivesSpec)

/-- 'bailiwicklaw09.ShadowAgain', WHERE WHAT IT READS IS OF BULK AT MOST 1048576: true; the input reads as it did. -/
def shadowAgainUptoRow : OpenClaim := { program := "ytbjmbndeaobbeaadoor", sum := "2532d57b658eb3ac0872465fa321543d5d5d8a6e413791fba9f165c05b4afbe4", func := "bailiwick/bailiwicklaw09.ShadowAgain", spec := "shadowAgain", inPlace := ["internal/bytealg.IndexByteString", "internal/bytealg.IndexString"], named := ["unicode/utf8.first", "unicode/utf8.acceptRanges", "internal/bytealg.MaxLen"], apart := false, laid := [("unicode/utf8.acceptRanges", laid_unicode_utf8_acceptRanges), ("unicode/utf8.first", laid_unicode_utf8_first)], narrowed := true }
def ShadowAgainUptoSaid : Prop := shadowAgainUptoRow.holds Tryd.pinned (OpenSpec.upto shadowAgainSpec)

end Rows
end Go.Proofs.YtbjmbndeaobbeaaDoor
