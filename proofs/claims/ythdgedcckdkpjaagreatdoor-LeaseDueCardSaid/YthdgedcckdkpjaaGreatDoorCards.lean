/-
  DERIVED. GIVEN WITH THE SEED: THE CARDS: each row of YthdgedcckdkpjaaGreatDoorRows.lean that lists a variable, with what it lists TIED to the program's text (the seventh form; the later family's looks); each row that meets fmt, with fmt's text TOLD by the authors' own Lean function (tested against real Go, not proved from fmt's source: count such statements apart). THE CARD IS WHAT COUNTS. Prove the row's statement (the work); the ties are given (YthdgedcckdkpjaaGreatDoorTie.lean); close each card by the builder's one call (the guide's Derived/Test/ToyasCard.lean, 'card_holds'). Laid BY PROGRAM, IN A SANDBOX (cutbox-door.mjs). By AI agents, Wed Nov 11 2026. No macro, syntax, notation, axiom, sorry.
-/
import Derived.Test.YthdgedcckdkpjaaGreatDoorRows
import GoSem.ClaimSeven
namespace Go.Proofs.YthdgedcckdkpjaaGreatDoor
namespace Rows

/-- THE TIED CARD OF 'bailiwicklaw16.LeaseEnds'. -/
def leaseEndsCard : Claim7 := { stood := { row := leaseEndsRow, standIns := [], harness := (true, "79adb7d43ddba8f3209ef01b7f4129fb3983a12d27b76e3291b94204393a8968"), looks := true }, kinds := [], alts := [], laidByText := true, laidKinds := [.data, .pinned], laidTests := true, laidLooks := .later }
def LeaseEndsCardSaid : Prop := Claim7.holds Tryz.pinned (.plain (OpenSpec.ofChange leaseEndsSpec)) leaseEndsCard

/-- THE TIED CARD OF 'bailiwicklaw16.LeaseKeys'. -/
def leaseKeysCard : Claim7 := { stood := { row := leaseKeysRow, standIns := [], harness := (true, "79adb7d43ddba8f3209ef01b7f4129fb3983a12d27b76e3291b94204393a8968"), looks := true }, kinds := [], alts := [], laidByText := true, laidKinds := [.data, .pinned], laidTests := true, laidLooks := .later }
def LeaseKeysCardSaid : Prop := Claim7.holds Tryz.pinned (.plain (OpenSpec.ofChange leaseKeysSpec)) leaseKeysCard

/-- THE TIED CARD OF 'bailiwicklaw16.LeaseForgets'. -/
def leaseForgetsCard : Claim7 := { stood := { row := leaseForgetsRow, standIns := [], harness := (true, "79adb7d43ddba8f3209ef01b7f4129fb3983a12d27b76e3291b94204393a8968"), looks := true }, kinds := [], alts := [], laidByText := true, laidKinds := [.data, .pinned], laidTests := true, laidLooks := .later }
def LeaseForgetsCardSaid : Prop := Claim7.holds Tryz.pinned (.plain (OpenSpec.ofChange leaseForgetsSpec)) leaseForgetsCard

/-- THE TIED CARD OF 'bailiwicklaw16.LeaseDue'. -/
def leaseDueCard : Claim7 := { stood := { row := leaseDueRow, standIns := [], harness := (true, "79adb7d43ddba8f3209ef01b7f4129fb3983a12d27b76e3291b94204393a8968"), looks := true }, kinds := [], alts := [], laidByText := true, laidKinds := [.data, .pinned], laidTests := true, laidLooks := .later }
def LeaseDueCardSaid : Prop := Claim7.holds Tryz.pinned (.plain (OpenSpec.ofChange leaseDueSpec)) leaseDueCard

/-- THE SECOND FORM's CARD OF 'bailiwicklaw16.LeaseEnds'. -/
def leaseEndsUptoCard : Claim7 := { stood := { row := leaseEndsUptoRow, standIns := [], harness := (true, "79adb7d43ddba8f3209ef01b7f4129fb3983a12d27b76e3291b94204393a8968"), looks := true }, kinds := [], alts := [], laidByText := true, laidKinds := [.data, .pinned], laidTests := true, laidLooks := .later }
def LeaseEndsUptoCardSaid : Prop := Claim7.holds Tryz.pinned (.plain (OpenSpec.upto leaseEndsSpec)) leaseEndsUptoCard

/-- THE SECOND FORM's CARD OF 'bailiwicklaw16.LeaseKeys'. -/
def leaseKeysUptoCard : Claim7 := { stood := { row := leaseKeysUptoRow, standIns := [], harness := (true, "79adb7d43ddba8f3209ef01b7f4129fb3983a12d27b76e3291b94204393a8968"), looks := true }, kinds := [], alts := [], laidByText := true, laidKinds := [.data, .pinned], laidTests := true, laidLooks := .later }
def LeaseKeysUptoCardSaid : Prop := Claim7.holds Tryz.pinned (.plain (OpenSpec.upto leaseKeysSpec)) leaseKeysUptoCard

/-- THE SECOND FORM's CARD OF 'bailiwicklaw16.LeaseForgets'. -/
def leaseForgetsUptoCard : Claim7 := { stood := { row := leaseForgetsUptoRow, standIns := [], harness := (true, "79adb7d43ddba8f3209ef01b7f4129fb3983a12d27b76e3291b94204393a8968"), looks := true }, kinds := [], alts := [], laidByText := true, laidKinds := [.data, .pinned], laidTests := true, laidLooks := .later }
def LeaseForgetsUptoCardSaid : Prop := Claim7.holds Tryz.pinned (.plain (OpenSpec.upto leaseForgetsSpec)) leaseForgetsUptoCard

/-- THE SECOND FORM's CARD OF 'bailiwicklaw16.LeaseDue'. -/
def leaseDueUptoCard : Claim7 := { stood := { row := leaseDueUptoRow, standIns := [], harness := (true, "79adb7d43ddba8f3209ef01b7f4129fb3983a12d27b76e3291b94204393a8968"), looks := true }, kinds := [], alts := [], laidByText := true, laidKinds := [.data, .pinned], laidTests := true, laidLooks := .later }
def LeaseDueUptoCardSaid : Prop := Claim7.holds Tryz.pinned (.plain (OpenSpec.upto leaseDueSpec)) leaseDueUptoCard
end Rows
end Go.Proofs.YthdgedcckdkpjaaGreatDoor
