/-
  DERIVED. GIVEN WITH THE SEED: THE CARDS: each row of YtchlcmgdfbabdaaGreatDoorRows.lean that lists a variable, with what it lists TIED to the program's text (the seventh form; the later family's looks); each row that meets fmt, with fmt's text TOLD by the authors' own Lean function (tested against real Go, not proved from fmt's source: count such statements apart). THE CARD IS WHAT COUNTS. Prove the row's statement (the work); the ties are given (YtchlcmgdfbabdaaGreatDoorTie.lean); close each card by the builder's one call (the guide's Derived/Test/ToyasCard.lean, 'card_holds'). Laid BY PROGRAM, IN A SANDBOX (cutbox-door.mjs). By AI agents, Wed Nov 11 2026. No macro, syntax, notation, axiom, sorry.
-/
import Derived.Test.YtchlcmgdfbabdaaGreatDoorRows
import GoSem.ClaimSeven
namespace Go.Proofs.YtchlcmgdfbabdaaGreatDoor
namespace Rows

/-- THE TIED CARD OF 'lamellalaw07.PagesLoad'. -/
def pagesLoadCard : Claim7 := { stood := { row := pagesLoadRow, standIns := [], harness := (true, "ec2285c28fadc9ebaf9c63cbbaf29be22aa1380e24be8e528c8baeca1eba09d7"), looks := false }, kinds := [], alts := [], laidByText := true, laidKinds := [.data, .pinned], laidTests := true, laidLooks := .later }
def PagesLoadCardSaid : Prop := Claim7.holds Tryz.pinned (.plain (OpenSpec.ofChange pagesLoadSpec)) pagesLoadCard

/-- THE TIED CARD OF 'lamellalaw07.PagesBack'. -/
def pagesBackCard : Claim7 := { stood := { row := pagesBackRow, standIns := [], harness := (true, "ec2285c28fadc9ebaf9c63cbbaf29be22aa1380e24be8e528c8baeca1eba09d7"), looks := false }, kinds := [], alts := [], laidByText := true, laidKinds := [.data, .pinned], laidTests := true, laidLooks := .later }
def PagesBackCardSaid : Prop := Claim7.holds Tryz.pinned (.plain (OpenSpec.ofChange pagesBackSpec)) pagesBackCard

/-- THE SECOND FORM's CARD OF 'lamellalaw07.PagesLoad'. -/
def pagesLoadUptoCard : Claim7 := { stood := { row := pagesLoadUptoRow, standIns := [], harness := (true, "ec2285c28fadc9ebaf9c63cbbaf29be22aa1380e24be8e528c8baeca1eba09d7"), looks := false }, kinds := [], alts := [], laidByText := true, laidKinds := [.data, .pinned], laidTests := true, laidLooks := .later }
def PagesLoadUptoCardSaid : Prop := Claim7.holds Tryz.pinned (.plain (OpenSpec.upto pagesLoadSpec)) pagesLoadUptoCard

/-- THE SECOND FORM's CARD OF 'lamellalaw07.PagesBack'. -/
def pagesBackUptoCard : Claim7 := { stood := { row := pagesBackUptoRow, standIns := [], harness := (true, "ec2285c28fadc9ebaf9c63cbbaf29be22aa1380e24be8e528c8baeca1eba09d7"), looks := false }, kinds := [], alts := [], laidByText := true, laidKinds := [.data, .pinned], laidTests := true, laidLooks := .later }
def PagesBackUptoCardSaid : Prop := Claim7.holds Tryz.pinned (.plain (OpenSpec.upto pagesBackSpec)) pagesBackUptoCard
end Rows
end Go.Proofs.YtchlcmgdfbabdaaGreatDoor
