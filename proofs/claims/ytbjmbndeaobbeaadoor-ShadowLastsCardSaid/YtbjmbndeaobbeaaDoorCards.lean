/-
  DERIVED. GIVEN WITH THE SEED: THE CARDS: each row of YtbjmbndeaobbeaaDoorRows.lean that lists a variable, with what it lists TIED to the program's text (the seventh form; the later family's looks); each row that meets fmt, with fmt's text TOLD by the authors' own Lean function (tested against real Go, not proved from fmt's source: count such statements apart). THE CARD IS WHAT COUNTS. Prove the row's statement (the work); the ties are given (YtbjmbndeaobbeaaDoorTie.lean); close each card by the builder's one call (the guide's Derived/Test/ToyasCard.lean, 'card_holds'). Laid BY PROGRAM, IN A SANDBOX (cutbox-door.mjs). By AI agents, Wed Nov 11 2026. No macro, syntax, notation, axiom, sorry.
-/
import Derived.Test.YtbjmbndeaobbeaaDoorRows
import GoSem.ClaimSeven
namespace Go.Proofs.YtbjmbndeaobbeaaDoor
namespace Rows

/-- THE TIED CARD OF 'bailiwicklaw09.ShadowLasts'. -/
def shadowLastsCard : Claim7 := { stood := { row := shadowLastsRow, standIns := [], harness := (true, "ae0f63cc542306b862b3fbf09fe2ffd310f4b1f221f759b2cf1999beb0dc79b0"), looks := false }, kinds := [], alts := [], laidByText := true, laidKinds := [.data, .pinned], laidTests := true, laidLooks := .later }
def ShadowLastsCardSaid : Prop := Claim7.holds Tryd.pinned (.plain (OpenSpec.ofChange shadowLastsSpec)) shadowLastsCard

/-- THE TIED CARD OF 'bailiwicklaw09.ShadowHands'. -/
def shadowHandsCard : Claim7 := { stood := { row := shadowHandsRow, standIns := [], harness := (true, "ae0f63cc542306b862b3fbf09fe2ffd310f4b1f221f759b2cf1999beb0dc79b0"), looks := false }, kinds := [], alts := [], laidByText := true, laidKinds := [.data, .pinned], laidTests := true, laidLooks := .later }
def ShadowHandsCardSaid : Prop := Claim7.holds Tryd.pinned (.plain (OpenSpec.ofChange shadowHandsSpec)) shadowHandsCard

/-- THE TIED CARD OF 'bailiwicklaw09.ShadowGives'. -/
def shadowGivesCard : Claim7 := { stood := { row := shadowGivesRow, standIns := [], harness := (true, "ae0f63cc542306b862b3fbf09fe2ffd310f4b1f221f759b2cf1999beb0dc79b0"), looks := false }, kinds := [], alts := [], laidByText := true, laidKinds := [.data, .pinned], laidTests := true, laidLooks := .later }
def ShadowGivesCardSaid : Prop := Claim7.holds Tryd.pinned (.plain (OpenSpec.ofChange shadowGivesSpec)) shadowGivesCard

/-- THE TIED CARD OF 'bailiwicklaw09.ShadowAgain'. -/
def shadowAgainCard : Claim7 := { stood := { row := shadowAgainRow, standIns := [], harness := (true, "ae0f63cc542306b862b3fbf09fe2ffd310f4b1f221f759b2cf1999beb0dc79b0"), looks := false }, kinds := [], alts := [], laidByText := true, laidKinds := [.data, .pinned], laidTests := true, laidLooks := .later }
def ShadowAgainCardSaid : Prop := Claim7.holds Tryd.pinned (.plain (OpenSpec.ofChange shadowAgainSpec)) shadowAgainCard

/-- THE SECOND FORM's CARD OF 'bailiwicklaw09.ShadowLasts'. -/
def shadowLastsUptoCard : Claim7 := { stood := { row := shadowLastsUptoRow, standIns := [], harness := (true, "ae0f63cc542306b862b3fbf09fe2ffd310f4b1f221f759b2cf1999beb0dc79b0"), looks := false }, kinds := [], alts := [], laidByText := true, laidKinds := [.data, .pinned], laidTests := true, laidLooks := .later }
def ShadowLastsUptoCardSaid : Prop := Claim7.holds Tryd.pinned (.plain (OpenSpec.upto shadowLastsSpec)) shadowLastsUptoCard

/-- THE SECOND FORM's CARD OF 'bailiwicklaw09.ShadowHands'. -/
def shadowHandsUptoCard : Claim7 := { stood := { row := shadowHandsUptoRow, standIns := [], harness := (true, "ae0f63cc542306b862b3fbf09fe2ffd310f4b1f221f759b2cf1999beb0dc79b0"), looks := false }, kinds := [], alts := [], laidByText := true, laidKinds := [.data, .pinned], laidTests := true, laidLooks := .later }
def ShadowHandsUptoCardSaid : Prop := Claim7.holds Tryd.pinned (.plain (OpenSpec.upto shadowHandsSpec)) shadowHandsUptoCard

/-- THE SECOND FORM's CARD OF 'bailiwicklaw09.ShadowGives'. -/
def shadowGivesUptoCard : Claim7 := { stood := { row := shadowGivesUptoRow, standIns := [], harness := (true, "ae0f63cc542306b862b3fbf09fe2ffd310f4b1f221f759b2cf1999beb0dc79b0"), looks := false }, kinds := [], alts := [], laidByText := true, laidKinds := [.data, .pinned], laidTests := true, laidLooks := .later }
def ShadowGivesUptoCardSaid : Prop := Claim7.holds Tryd.pinned (.plain (OpenSpec.upto shadowGivesSpec)) shadowGivesUptoCard

/-- THE SECOND FORM's CARD OF 'bailiwicklaw09.ShadowAgain'. -/
def shadowAgainUptoCard : Claim7 := { stood := { row := shadowAgainUptoRow, standIns := [], harness := (true, "ae0f63cc542306b862b3fbf09fe2ffd310f4b1f221f759b2cf1999beb0dc79b0"), looks := false }, kinds := [], alts := [], laidByText := true, laidKinds := [.data, .pinned], laidTests := true, laidLooks := .later }
def ShadowAgainUptoCardSaid : Prop := Claim7.holds Tryd.pinned (.plain (OpenSpec.upto shadowAgainSpec)) shadowAgainUptoCard
end Rows
end Go.Proofs.YtbjmbndeaobbeaaDoor
