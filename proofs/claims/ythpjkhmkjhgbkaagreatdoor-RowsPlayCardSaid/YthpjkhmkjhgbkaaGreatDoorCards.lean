/-
  DERIVED. GIVEN WITH THE SEED: THE CARDS: each row of YthpjkhmkjhgbkaaGreatDoorRows.lean that lists a variable, with what it lists TIED to the program's text (the seventh form; the later family's looks); each row that meets fmt, with fmt's text TOLD by the authors' own Lean function (tested against real Go, not proved from fmt's source: count such statements apart). THE CARD IS WHAT COUNTS. Prove the row's statement (the work); the ties are given (YthpjkhmkjhgbkaaGreatDoorTie.lean); close each card by the builder's one call (the guide's Derived/Test/ToyasCard.lean, 'card_holds'). Laid BY PROGRAM, IN A SANDBOX (cutbox-door.mjs). By AI agents, Wed Nov 11 2026. No macro, syntax, notation, axiom, sorry.
-/
import Derived.Test.YthpjkhmkjhgbkaaGreatDoorRows
import GoSem.ClaimSeven
namespace Go.Proofs.YthpjkhmkjhgbkaaGreatDoor
namespace Rows

/-- THE TIED CARD OF 'lamellalaw05.RowsPlay'. -/
def rowsPlayCard : Claim7 := { stood := { row := rowsPlayRow, standIns := [], harness := (true, "809645d6cbb151e9a154f9c81cdc9c1ca9933a26bdb1295ad90e2d8102e5e81f"), looks := false }, kinds := [], alts := [], laidByText := true, laidKinds := [.data, .pinned], laidTests := true, laidLooks := .later }
def RowsPlayCardSaid : Prop := Claim7.holds Tryz.pinned (.plain (OpenSpec.ofChange rowsPlaySpec)) rowsPlayCard

/-- THE TIED CARD OF 'lamellalaw05.RowsTogether'. -/
def rowsTogetherCard : Claim7 := { stood := { row := rowsTogetherRow, standIns := [], harness := (true, "809645d6cbb151e9a154f9c81cdc9c1ca9933a26bdb1295ad90e2d8102e5e81f"), looks := false }, kinds := [], alts := [], laidByText := true, laidKinds := [.data, .pinned], laidTests := true, laidLooks := .later }
def RowsTogetherCardSaid : Prop := Claim7.holds Tryz.pinned (.plain (OpenSpec.ofChange rowsTogetherSpec)) rowsTogetherCard

/-- THE TIED CARD OF 'lamellalaw05.RowsPut'. -/
def rowsPutCard : Claim7 := { stood := { row := rowsPutRow, standIns := [], harness := (true, "809645d6cbb151e9a154f9c81cdc9c1ca9933a26bdb1295ad90e2d8102e5e81f"), looks := false }, kinds := [], alts := [], laidByText := true, laidKinds := [.data, .pinned], laidTests := true, laidLooks := .later }
def RowsPutCardSaid : Prop := Claim7.holds Tryz.pinned (.plain (OpenSpec.ofChange rowsPutSpec)) rowsPutCard

/-- THE TIED CARD OF 'lamellalaw05.RowsNil'. -/
def rowsNilCard : Claim7 := { stood := { row := rowsNilRow, standIns := [], harness := (true, "809645d6cbb151e9a154f9c81cdc9c1ca9933a26bdb1295ad90e2d8102e5e81f"), looks := false }, kinds := [], alts := [], laidByText := true, laidKinds := [.data, .pinned], laidTests := true, laidLooks := .later }
def RowsNilCardSaid : Prop := Claim7.holds Tryz.pinned (.plain (OpenSpec.ofChange rowsNilSpec)) rowsNilCard

/-- THE TIED CARD OF 'lamellalaw05.RowsOrder'. -/
def rowsOrderCard : Claim7 := { stood := { row := rowsOrderRow, standIns := [], harness := (true, "809645d6cbb151e9a154f9c81cdc9c1ca9933a26bdb1295ad90e2d8102e5e81f"), looks := false }, kinds := [], alts := [], laidByText := true, laidKinds := [.data, .pinned], laidTests := true, laidLooks := .later }
def RowsOrderCardSaid : Prop := Claim7.holds Tryz.pinned (.plain (OpenSpec.ofChange rowsOrderSpec)) rowsOrderCard

/-- THE TIED CARD OF 'lamellalaw05.RowsKeeps'. -/
def rowsKeepsCard : Claim7 := { stood := { row := rowsKeepsRow, standIns := [], harness := (true, "809645d6cbb151e9a154f9c81cdc9c1ca9933a26bdb1295ad90e2d8102e5e81f"), looks := false }, kinds := [], alts := [], laidByText := true, laidKinds := [.data, .pinned], laidTests := true, laidLooks := .later }
def RowsKeepsCardSaid : Prop := Claim7.holds Tryz.pinned (.plain (OpenSpec.ofChange rowsKeepsSpec)) rowsKeepsCard

/-- THE SECOND FORM's CARD OF 'lamellalaw05.RowsPlay'. -/
def rowsPlayUptoCard : Claim7 := { stood := { row := rowsPlayUptoRow, standIns := [], harness := (true, "809645d6cbb151e9a154f9c81cdc9c1ca9933a26bdb1295ad90e2d8102e5e81f"), looks := false }, kinds := [], alts := [], laidByText := true, laidKinds := [.data, .pinned], laidTests := true, laidLooks := .later }
def RowsPlayUptoCardSaid : Prop := Claim7.holds Tryz.pinned (.plain (OpenSpec.upto rowsPlaySpec)) rowsPlayUptoCard

/-- THE SECOND FORM's CARD OF 'lamellalaw05.RowsTogether'. -/
def rowsTogetherUptoCard : Claim7 := { stood := { row := rowsTogetherUptoRow, standIns := [], harness := (true, "809645d6cbb151e9a154f9c81cdc9c1ca9933a26bdb1295ad90e2d8102e5e81f"), looks := false }, kinds := [], alts := [], laidByText := true, laidKinds := [.data, .pinned], laidTests := true, laidLooks := .later }
def RowsTogetherUptoCardSaid : Prop := Claim7.holds Tryz.pinned (.plain (OpenSpec.upto rowsTogetherSpec)) rowsTogetherUptoCard

/-- THE SECOND FORM's CARD OF 'lamellalaw05.RowsPut'. -/
def rowsPutUptoCard : Claim7 := { stood := { row := rowsPutUptoRow, standIns := [], harness := (true, "809645d6cbb151e9a154f9c81cdc9c1ca9933a26bdb1295ad90e2d8102e5e81f"), looks := false }, kinds := [], alts := [], laidByText := true, laidKinds := [.data, .pinned], laidTests := true, laidLooks := .later }
def RowsPutUptoCardSaid : Prop := Claim7.holds Tryz.pinned (.plain (OpenSpec.upto rowsPutSpec)) rowsPutUptoCard

/-- THE SECOND FORM's CARD OF 'lamellalaw05.RowsNil'. -/
def rowsNilUptoCard : Claim7 := { stood := { row := rowsNilUptoRow, standIns := [], harness := (true, "809645d6cbb151e9a154f9c81cdc9c1ca9933a26bdb1295ad90e2d8102e5e81f"), looks := false }, kinds := [], alts := [], laidByText := true, laidKinds := [.data, .pinned], laidTests := true, laidLooks := .later }
def RowsNilUptoCardSaid : Prop := Claim7.holds Tryz.pinned (.plain (OpenSpec.upto rowsNilSpec)) rowsNilUptoCard

/-- THE SECOND FORM's CARD OF 'lamellalaw05.RowsOrder'. -/
def rowsOrderUptoCard : Claim7 := { stood := { row := rowsOrderUptoRow, standIns := [], harness := (true, "809645d6cbb151e9a154f9c81cdc9c1ca9933a26bdb1295ad90e2d8102e5e81f"), looks := false }, kinds := [], alts := [], laidByText := true, laidKinds := [.data, .pinned], laidTests := true, laidLooks := .later }
def RowsOrderUptoCardSaid : Prop := Claim7.holds Tryz.pinned (.plain (OpenSpec.upto rowsOrderSpec)) rowsOrderUptoCard

/-- THE SECOND FORM's CARD OF 'lamellalaw05.RowsKeeps'. -/
def rowsKeepsUptoCard : Claim7 := { stood := { row := rowsKeepsUptoRow, standIns := [], harness := (true, "809645d6cbb151e9a154f9c81cdc9c1ca9933a26bdb1295ad90e2d8102e5e81f"), looks := false }, kinds := [], alts := [], laidByText := true, laidKinds := [.data, .pinned], laidTests := true, laidLooks := .later }
def RowsKeepsUptoCardSaid : Prop := Claim7.holds Tryz.pinned (.plain (OpenSpec.upto rowsKeepsSpec)) rowsKeepsUptoCard
end Rows
end Go.Proofs.YthpjkhmkjhgbkaaGreatDoor
