/-
  DERIVED. GIVEN WITH THE SEED: THE CARDS: each row of YtojofakfnlofhaaDoorRows.lean that lists a variable, with what it lists TIED to the program's text (the seventh form; the later family's looks); each row that meets fmt, with fmt's text TOLD by the authors' own Lean function (tested against real Go, not proved from fmt's source: count such statements apart). THE CARD IS WHAT COUNTS. Prove the row's statement (the work); the ties are given (YtojofakfnlofhaaDoorTie.lean); close each card by the builder's one call (the guide's Derived/Test/ToyasCard.lean, 'card_holds'). Laid BY PROGRAM, IN A SANDBOX (cutbox-door.mjs). By AI agents, Wed Nov 11 2026. No macro, syntax, notation, axiom, sorry.
-/
import Derived.Test.YtojofakfnlofhaaDoorRows
import GoSem.ClaimSeven
namespace Go.Proofs.YtojofakfnlofhaaDoor
namespace Rows

/-- THE TIED CARD OF 'bailiwicklaw07.PageSeals'. -/
def pageSealsCard : Claim7 := { stood := { row := pageSealsRow, standIns := [], harness := (true, "d862724912d215f689c35e2957171255a4b36fc50f5f1f49909d3ea6b8bc83a6"), looks := false }, kinds := [], alts := [], laidByText := true, laidKinds := [.data, .pinned], laidTests := true, laidLooks := .later }
def PageSealsCardSaid : Prop := Claim7.holds Tryd.pinned (.plain (OpenSpec.ofChange pageSealsSpec)) pageSealsCard

/-- THE TIED CARD OF 'bailiwicklaw07.PageLays'. -/
def pageLaysCard : Claim7 := { stood := { row := pageLaysRow, standIns := [], harness := (true, "d862724912d215f689c35e2957171255a4b36fc50f5f1f49909d3ea6b8bc83a6"), looks := false }, kinds := [], alts := [], laidByText := true, laidKinds := [.data, .pinned], laidTests := true, laidLooks := .later }
def PageLaysCardSaid : Prop := Claim7.holds Tryd.pinned (.plain (OpenSpec.ofChange pageLaysSpec)) pageLaysCard

/-- THE TIED CARD OF 'bailiwicklaw07.PageBack'. -/
def pageBackCard : Claim7 := { stood := { row := pageBackRow, standIns := [], harness := (true, "d862724912d215f689c35e2957171255a4b36fc50f5f1f49909d3ea6b8bc83a6"), looks := false }, kinds := [], alts := [], laidByText := true, laidKinds := [.data, .pinned], laidTests := true, laidLooks := .later }
def PageBackCardSaid : Prop := Claim7.holds Tryd.pinned (.plain (OpenSpec.ofChange pageBackSpec)) pageBackCard

/-- THE TIED CARD OF 'bailiwicklaw07.PageByte'. -/
def pageByteCard : Claim7 := { stood := { row := pageByteRow, standIns := [], harness := (true, "d862724912d215f689c35e2957171255a4b36fc50f5f1f49909d3ea6b8bc83a6"), looks := false }, kinds := [], alts := [], laidByText := true, laidKinds := [.data, .pinned], laidTests := true, laidLooks := .later }
def PageByteCardSaid : Prop := Claim7.holds Tryd.pinned (.plain (OpenSpec.ofChange pageByteSpec)) pageByteCard

/-- THE TIED CARD OF 'bailiwicklaw07.PageSums'. -/
def pageSumsCard : Claim7 := { stood := { row := pageSumsRow, standIns := [], harness := (true, "d862724912d215f689c35e2957171255a4b36fc50f5f1f49909d3ea6b8bc83a6"), looks := false }, kinds := [], alts := [], laidByText := true, laidKinds := [.data, .pinned], laidTests := true, laidLooks := .later }
def PageSumsCardSaid : Prop := Claim7.holds Tryd.pinned (.plain (OpenSpec.ofChange pageSumsSpec)) pageSumsCard

/-- THE SECOND FORM's CARD OF 'bailiwicklaw07.PageSeals'. -/
def pageSealsUptoCard : Claim7 := { stood := { row := pageSealsUptoRow, standIns := [], harness := (true, "d862724912d215f689c35e2957171255a4b36fc50f5f1f49909d3ea6b8bc83a6"), looks := false }, kinds := [], alts := [], laidByText := true, laidKinds := [.data, .pinned], laidTests := true, laidLooks := .later }
def PageSealsUptoCardSaid : Prop := Claim7.holds Tryd.pinned (.plain (OpenSpec.upto pageSealsSpec)) pageSealsUptoCard

/-- THE SECOND FORM's CARD OF 'bailiwicklaw07.PageLays'. -/
def pageLaysUptoCard : Claim7 := { stood := { row := pageLaysUptoRow, standIns := [], harness := (true, "d862724912d215f689c35e2957171255a4b36fc50f5f1f49909d3ea6b8bc83a6"), looks := false }, kinds := [], alts := [], laidByText := true, laidKinds := [.data, .pinned], laidTests := true, laidLooks := .later }
def PageLaysUptoCardSaid : Prop := Claim7.holds Tryd.pinned (.plain (OpenSpec.upto pageLaysSpec)) pageLaysUptoCard

/-- THE SECOND FORM's CARD OF 'bailiwicklaw07.PageBack'. -/
def pageBackUptoCard : Claim7 := { stood := { row := pageBackUptoRow, standIns := [], harness := (true, "d862724912d215f689c35e2957171255a4b36fc50f5f1f49909d3ea6b8bc83a6"), looks := false }, kinds := [], alts := [], laidByText := true, laidKinds := [.data, .pinned], laidTests := true, laidLooks := .later }
def PageBackUptoCardSaid : Prop := Claim7.holds Tryd.pinned (.plain (OpenSpec.upto pageBackSpec)) pageBackUptoCard

/-- THE SECOND FORM's CARD OF 'bailiwicklaw07.PageByte'. -/
def pageByteUptoCard : Claim7 := { stood := { row := pageByteUptoRow, standIns := [], harness := (true, "d862724912d215f689c35e2957171255a4b36fc50f5f1f49909d3ea6b8bc83a6"), looks := false }, kinds := [], alts := [], laidByText := true, laidKinds := [.data, .pinned], laidTests := true, laidLooks := .later }
def PageByteUptoCardSaid : Prop := Claim7.holds Tryd.pinned (.plain (OpenSpec.upto pageByteSpec)) pageByteUptoCard

/-- THE SECOND FORM's CARD OF 'bailiwicklaw07.PageSums'. -/
def pageSumsUptoCard : Claim7 := { stood := { row := pageSumsUptoRow, standIns := [], harness := (true, "d862724912d215f689c35e2957171255a4b36fc50f5f1f49909d3ea6b8bc83a6"), looks := false }, kinds := [], alts := [], laidByText := true, laidKinds := [.data, .pinned], laidTests := true, laidLooks := .later }
def PageSumsUptoCardSaid : Prop := Claim7.holds Tryd.pinned (.plain (OpenSpec.upto pageSumsSpec)) pageSumsUptoCard
end Rows
end Go.Proofs.YtojofakfnlofhaaDoor
