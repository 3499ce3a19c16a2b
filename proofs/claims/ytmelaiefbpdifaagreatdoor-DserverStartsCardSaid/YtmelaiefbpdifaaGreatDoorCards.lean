/-
  DERIVED. GIVEN WITH THE SEED: THE CARDS: each row of YtmelaiefbpdifaaGreatDoorRows.lean that lists a variable, with what it lists TIED to the program's text (the seventh form; the later family's looks); each row that meets fmt, with fmt's text TOLD by the authors' own Lean function (tested against real Go, not proved from fmt's source: count such statements apart). THE CARD IS WHAT COUNTS. Prove the row's statement (the work); the ties are given (YtmelaiefbpdifaaGreatDoorTie.lean); close each card by the builder's one call (the guide's Derived/Test/ToyasCard.lean, 'card_holds'). Laid BY PROGRAM, IN A SANDBOX (cutbox-door.mjs). By AI agents, Wed Nov 11 2026. No macro, syntax, notation, axiom, sorry.
-/
import Derived.Test.YtmelaiefbpdifaaGreatDoorRows
import GoSem.ClaimSeven
namespace Go.Proofs.YtmelaiefbpdifaaGreatDoor
namespace Rows

/-- THE TIED CARD OF 'lamellalaw13.DserverStarts'. -/
def dserverStartsCard : Claim7 := { stood := { row := dserverStartsRow, standIns := [], harness := (true, "32d0d46b6662d5cf894da02c4b7674257705717a3681baeea6dc5a9ad0826b9d"), looks := false }, kinds := [], alts := [], laidByText := true, laidKinds := [.data, .pinned], laidTests := true, laidLooks := .later }
def DserverStartsCardSaid : Prop := Claim7.holds Tryz.pinned (.plain (OpenSpec.ofChange dserverStartsSpec)) dserverStartsCard

/-- THE TIED CARD OF 'lamellalaw13.DserverFenced'. -/
def dserverFencedCard : Claim7 := { stood := { row := dserverFencedRow, standIns := [], harness := (true, "32d0d46b6662d5cf894da02c4b7674257705717a3681baeea6dc5a9ad0826b9d"), looks := false }, kinds := [], alts := [], laidByText := true, laidKinds := [.data, .pinned], laidTests := true, laidLooks := .later }
def DserverFencedCardSaid : Prop := Claim7.holds Tryz.pinned (.plain (OpenSpec.ofChange dserverFencedSpec)) dserverFencedCard

/-- THE TIED CARD OF 'lamellalaw13.DserverSure'. -/
def dserverSureCard : Claim7 := { stood := { row := dserverSureRow, standIns := [], harness := (true, "32d0d46b6662d5cf894da02c4b7674257705717a3681baeea6dc5a9ad0826b9d"), looks := false }, kinds := [], alts := [], laidByText := true, laidKinds := [.data, .pinned], laidTests := true, laidLooks := .later }
def DserverSureCardSaid : Prop := Claim7.holds Tryz.pinned (.plain (OpenSpec.ofChange dserverSureSpec)) dserverSureCard

/-- THE TIED CARD OF 'lamellalaw13.DserverOnce'. -/
def dserverOnceCard : Claim7 := { stood := { row := dserverOnceRow, standIns := [], harness := (true, "32d0d46b6662d5cf894da02c4b7674257705717a3681baeea6dc5a9ad0826b9d"), looks := false }, kinds := [], alts := [], laidByText := true, laidKinds := [.data, .pinned], laidTests := true, laidLooks := .later }
def DserverOnceCardSaid : Prop := Claim7.holds Tryz.pinned (.plain (OpenSpec.ofChange dserverOnceSpec)) dserverOnceCard

/-- THE TIED CARD OF 'lamellalaw13.DserverAlone'. -/
def dserverAloneCard : Claim7 := { stood := { row := dserverAloneRow, standIns := [], harness := (true, "32d0d46b6662d5cf894da02c4b7674257705717a3681baeea6dc5a9ad0826b9d"), looks := false }, kinds := [], alts := [], laidByText := true, laidKinds := [.data, .pinned], laidTests := true, laidLooks := .later }
def DserverAloneCardSaid : Prop := Claim7.holds Tryz.pinned (.plain (OpenSpec.ofChange dserverAloneSpec)) dserverAloneCard

/-- THE TIED CARD OF 'lamellalaw13.DserverDeaf'. -/
def dserverDeafCard : Claim7 := { stood := { row := dserverDeafRow, standIns := [], harness := (true, "32d0d46b6662d5cf894da02c4b7674257705717a3681baeea6dc5a9ad0826b9d"), looks := false }, kinds := [], alts := [], laidByText := true, laidKinds := [.data, .pinned], laidTests := true, laidLooks := .later }
def DserverDeafCardSaid : Prop := Claim7.holds Tryz.pinned (.plain (OpenSpec.ofChange dserverDeafSpec)) dserverDeafCard

/-- THE SECOND FORM's CARD OF 'lamellalaw13.DserverStarts'. -/
def dserverStartsUptoCard : Claim7 := { stood := { row := dserverStartsUptoRow, standIns := [], harness := (true, "32d0d46b6662d5cf894da02c4b7674257705717a3681baeea6dc5a9ad0826b9d"), looks := false }, kinds := [], alts := [], laidByText := true, laidKinds := [.data, .pinned], laidTests := true, laidLooks := .later }
def DserverStartsUptoCardSaid : Prop := Claim7.holds Tryz.pinned (.plain (OpenSpec.upto dserverStartsSpec)) dserverStartsUptoCard

/-- THE SECOND FORM's CARD OF 'lamellalaw13.DserverFenced'. -/
def dserverFencedUptoCard : Claim7 := { stood := { row := dserverFencedUptoRow, standIns := [], harness := (true, "32d0d46b6662d5cf894da02c4b7674257705717a3681baeea6dc5a9ad0826b9d"), looks := false }, kinds := [], alts := [], laidByText := true, laidKinds := [.data, .pinned], laidTests := true, laidLooks := .later }
def DserverFencedUptoCardSaid : Prop := Claim7.holds Tryz.pinned (.plain (OpenSpec.upto dserverFencedSpec)) dserverFencedUptoCard

/-- THE SECOND FORM's CARD OF 'lamellalaw13.DserverSure'. -/
def dserverSureUptoCard : Claim7 := { stood := { row := dserverSureUptoRow, standIns := [], harness := (true, "32d0d46b6662d5cf894da02c4b7674257705717a3681baeea6dc5a9ad0826b9d"), looks := false }, kinds := [], alts := [], laidByText := true, laidKinds := [.data, .pinned], laidTests := true, laidLooks := .later }
def DserverSureUptoCardSaid : Prop := Claim7.holds Tryz.pinned (.plain (OpenSpec.upto dserverSureSpec)) dserverSureUptoCard

/-- THE SECOND FORM's CARD OF 'lamellalaw13.DserverOnce'. -/
def dserverOnceUptoCard : Claim7 := { stood := { row := dserverOnceUptoRow, standIns := [], harness := (true, "32d0d46b6662d5cf894da02c4b7674257705717a3681baeea6dc5a9ad0826b9d"), looks := false }, kinds := [], alts := [], laidByText := true, laidKinds := [.data, .pinned], laidTests := true, laidLooks := .later }
def DserverOnceUptoCardSaid : Prop := Claim7.holds Tryz.pinned (.plain (OpenSpec.upto dserverOnceSpec)) dserverOnceUptoCard

/-- THE SECOND FORM's CARD OF 'lamellalaw13.DserverAlone'. -/
def dserverAloneUptoCard : Claim7 := { stood := { row := dserverAloneUptoRow, standIns := [], harness := (true, "32d0d46b6662d5cf894da02c4b7674257705717a3681baeea6dc5a9ad0826b9d"), looks := false }, kinds := [], alts := [], laidByText := true, laidKinds := [.data, .pinned], laidTests := true, laidLooks := .later }
def DserverAloneUptoCardSaid : Prop := Claim7.holds Tryz.pinned (.plain (OpenSpec.upto dserverAloneSpec)) dserverAloneUptoCard

/-- THE SECOND FORM's CARD OF 'lamellalaw13.DserverDeaf'. -/
def dserverDeafUptoCard : Claim7 := { stood := { row := dserverDeafUptoRow, standIns := [], harness := (true, "32d0d46b6662d5cf894da02c4b7674257705717a3681baeea6dc5a9ad0826b9d"), looks := false }, kinds := [], alts := [], laidByText := true, laidKinds := [.data, .pinned], laidTests := true, laidLooks := .later }
def DserverDeafUptoCardSaid : Prop := Claim7.holds Tryz.pinned (.plain (OpenSpec.upto dserverDeafSpec)) dserverDeafUptoCard
end Rows
end Go.Proofs.YtmelaiefbpdifaaGreatDoor
