/-
  NARROWER THAN 'FOR EVERY INPUT', by the rows' own cells (each row's printed sentence says how): DserverStarts: laid · DserverFenced: laid · DserverSure: laid · DserverOnce: laid · DserverAlone: laid · DserverDeaf: laid.
  DERIVED. THE GIVEN ROWS OF THIS SEAT. 6 by the template 'for every input the law returns true; each argument reads behind the call as it read before'; 0 by the template 'total and deterministic' (their statements: YtmelaiefbpdifaaGreatDoorTotals.lean).
  GIVEN WITH THE SEED: the statements are not yours to turn. If you find one false, say at which input.
  Laid BY PROGRAM, IN A SANDBOX (cutbox-rows.mjs): the forced cells as the released guide's own fill.sh prints them over the translation f455dd3b4ef861a5… (all of the seat's roots in one cut). By AI agents, Wed Nov 11 2026. No macro, syntax, notation, axiom, sorry.
-/
import Derived.Test.YtmelaiefbpdifaaGreatDoorChecked
import GoSem.PinnedTables
import GoSem.Claim
import GoSem.ClaimJoined
import GoSem.ClaimMapViews
import Derived.JoinedTies
import Derived.KernelRfl
namespace Go.Proofs.YtmelaiefbpdifaaGreatDoor
/- THE CELL 'sum', in the pinned program and in every row, IS THE sha256 OF THE DUMP (.gsa) THAT YtmelaiefbpdifaaGreatDoorProg.lean LOADS. Nothing in Lean hashes anything: it is a label: what it is worth is what the hold of that sum in a sandbox is worth. -/
noncomputable def Tryz.pinned : Pinned := { name := "ytmelaiefbpdifaagreatdoor", sum := "f455dd3b4ef861a55995fc24ad9b2e6f1727489e4cc1f31f00df09a3dcd82997", checked := Tryz.checked }
namespace Rows
def none {H : Type} : Left H := { results := [], args := [] }

/- WHAT THE LISTED PACKAGE-LEVEL VARIABLES READ AS WHEN THE CALL BEGINS. Each datum BY PROGRAM (the guide's laid-datum.mjs) off the statement by which the dump's own 'gosem.cut.vars' lays the variable. In a bare row this is a premise. The card (YtmelaiefbpdifaaGreatDoorCards.lean) ties it to the program's text. -/
def laid_unicode_utf8_acceptRanges {H : Type} : DataW H := .agg [.agg [.lit (.int .u8 128), .lit (.int .u8 191)], .agg [.lit (.int .u8 160), .lit (.int .u8 191)], .agg [.lit (.int .u8 128), .lit (.int .u8 159)], .agg [.lit (.int .u8 144), .lit (.int .u8 191)], .agg [.lit (.int .u8 128), .lit (.int .u8 143)], .agg [.lit (.int .u8 0), .lit (.int .u8 0)], .agg [.lit (.int .u8 0), .lit (.int .u8 0)], .agg [.lit (.int .u8 0), .lit (.int .u8 0)], .agg [.lit (.int .u8 0), .lit (.int .u8 0)], .agg [.lit (.int .u8 0), .lit (.int .u8 0)], .agg [.lit (.int .u8 0), .lit (.int .u8 0)], .agg [.lit (.int .u8 0), .lit (.int .u8 0)], .agg [.lit (.int .u8 0), .lit (.int .u8 0)], .agg [.lit (.int .u8 0), .lit (.int .u8 0)], .agg [.lit (.int .u8 0), .lit (.int .u8 0)], .agg [.lit (.int .u8 0), .lit (.int .u8 0)]]
/-- One of Go's own tables, pinned by name: the form's constant. -/
def laid_unicode_utf8_first : DataW Unit := Go.Pinned.utf8First

/-- 'lamellalaw13.DserverStarts': WHATEVER THE INPUT: true; the input reads as it did. -/
def dserverStartsSpec : ChangeSpec := { name := "dserverStarts", fn := fun _ => fun
  | [d1, d2] => { results := [.lit (.bool true)], args := [d1, d2] }
  | _ => none }
def dserverStartsRow : OpenClaim := { program := "ytmelaiefbpdifaagreatdoor", sum := "f455dd3b4ef861a55995fc24ad9b2e6f1727489e4cc1f31f00df09a3dcd82997", func := "lamella/lamellalaw13.DserverStarts", spec := "dserverStarts", inPlace := ["internal/bytealg.IndexByteString", "internal/bytealg.IndexString", "internal/bytealg.abigen_runtime_cmpstring", "internal/abi.NoEscape", "internal/bytealg.MakeNoZero"], unfollowed := true, recurses := true, named := ["unicode/utf8.first", "unicode/utf8.acceptRanges", "internal/bytealg.MaxLen"], apart := false, laid := [("unicode/utf8.acceptRanges", laid_unicode_utf8_acceptRanges), ("unicode/utf8.first", laid_unicode_utf8_first)] }
def DserverStartsSaid : Prop := dserverStartsRow.holds Tryz.pinned (OpenSpec.ofChange dserverStartsSpec)

/-- ITS FALSE NEIGHBOUR: 'it returns false'. Refute it at one input. -/
def dserverStartsWrong : ChangeSpec := { name := "dserverStarts", fn := fun _ => fun
  | [d1, d2] => { results := [.lit (.bool false)], args := [d1, d2] }
  | _ => none }
def DserverStartsWrongFalsely : Prop := dserverStartsRow.holds Tryz.pinned (OpenSpec.ofChange dserverStartsWrong)

/-- 'lamellalaw13.DserverFenced': WHATEVER THE INPUT: true; the input reads as it did. -/
def dserverFencedSpec : ChangeSpec := { name := "dserverFenced", fn := fun _ => fun
  | [d] => { results := [.lit (.bool true)], args := [d] }
  | _ => none }
def dserverFencedRow : OpenClaim := { program := "ytmelaiefbpdifaagreatdoor", sum := "f455dd3b4ef861a55995fc24ad9b2e6f1727489e4cc1f31f00df09a3dcd82997", func := "lamella/lamellalaw13.DserverFenced", spec := "dserverFenced", inPlace := ["internal/bytealg.IndexByteString", "internal/bytealg.IndexString", "internal/bytealg.abigen_runtime_cmpstring", "internal/abi.NoEscape", "internal/bytealg.MakeNoZero"], unfollowed := true, recurses := true, named := ["unicode/utf8.first", "unicode/utf8.acceptRanges", "internal/bytealg.MaxLen"], apart := false, laid := [("unicode/utf8.acceptRanges", laid_unicode_utf8_acceptRanges), ("unicode/utf8.first", laid_unicode_utf8_first)] }
def DserverFencedSaid : Prop := dserverFencedRow.holds Tryz.pinned (OpenSpec.ofChange dserverFencedSpec)

/-- ITS FALSE NEIGHBOUR: 'it returns false'. Refute it at one input. -/
def dserverFencedWrong : ChangeSpec := { name := "dserverFenced", fn := fun _ => fun
  | [d] => { results := [.lit (.bool false)], args := [d] }
  | _ => none }
def DserverFencedWrongFalsely : Prop := dserverFencedRow.holds Tryz.pinned (OpenSpec.ofChange dserverFencedWrong)

/-- 'lamellalaw13.DserverSure': WHATEVER THE INPUT: true; the input reads as it did. -/
def dserverSureSpec : ChangeSpec := { name := "dserverSure", fn := fun _ => fun
  | [d1, d2, d3, d4] => { results := [.lit (.bool true)], args := [d1, d2, d3, d4] }
  | _ => none }
def dserverSureRow : OpenClaim := { program := "ytmelaiefbpdifaagreatdoor", sum := "f455dd3b4ef861a55995fc24ad9b2e6f1727489e4cc1f31f00df09a3dcd82997", func := "lamella/lamellalaw13.DserverSure", spec := "dserverSure", inPlace := ["internal/bytealg.IndexByteString", "internal/bytealg.IndexString", "internal/bytealg.abigen_runtime_cmpstring", "internal/abi.NoEscape", "internal/bytealg.MakeNoZero"], unfollowed := true, recurses := true, named := ["unicode/utf8.first", "unicode/utf8.acceptRanges", "internal/bytealg.MaxLen"], apart := false, laid := [("unicode/utf8.acceptRanges", laid_unicode_utf8_acceptRanges), ("unicode/utf8.first", laid_unicode_utf8_first)] }
def DserverSureSaid : Prop := dserverSureRow.holds Tryz.pinned (OpenSpec.ofChange dserverSureSpec)

/-- ITS FALSE NEIGHBOUR: 'it returns false'. Refute it at one input. -/
def dserverSureWrong : ChangeSpec := { name := "dserverSure", fn := fun _ => fun
  | [d1, d2, d3, d4] => { results := [.lit (.bool false)], args := [d1, d2, d3, d4] }
  | _ => none }
def DserverSureWrongFalsely : Prop := dserverSureRow.holds Tryz.pinned (OpenSpec.ofChange dserverSureWrong)

/-- 'lamellalaw13.DserverOnce': WHATEVER THE INPUT: true; the input reads as it did. -/
def dserverOnceSpec : ChangeSpec := { name := "dserverOnce", fn := fun _ => fun
  | [d1, d2] => { results := [.lit (.bool true)], args := [d1, d2] }
  | _ => none }
def dserverOnceRow : OpenClaim := { program := "ytmelaiefbpdifaagreatdoor", sum := "f455dd3b4ef861a55995fc24ad9b2e6f1727489e4cc1f31f00df09a3dcd82997", func := "lamella/lamellalaw13.DserverOnce", spec := "dserverOnce", inPlace := ["internal/bytealg.IndexByteString", "internal/bytealg.IndexString", "internal/bytealg.abigen_runtime_cmpstring", "internal/abi.NoEscape", "internal/bytealg.MakeNoZero"], unfollowed := true, recurses := true, named := ["unicode/utf8.first", "unicode/utf8.acceptRanges", "internal/bytealg.MaxLen"], apart := false, laid := [("unicode/utf8.acceptRanges", laid_unicode_utf8_acceptRanges), ("unicode/utf8.first", laid_unicode_utf8_first)] }
def DserverOnceSaid : Prop := dserverOnceRow.holds Tryz.pinned (OpenSpec.ofChange dserverOnceSpec)

/-- ITS FALSE NEIGHBOUR: 'it returns false'. Refute it at one input. -/
def dserverOnceWrong : ChangeSpec := { name := "dserverOnce", fn := fun _ => fun
  | [d1, d2] => { results := [.lit (.bool false)], args := [d1, d2] }
  | _ => none }
def DserverOnceWrongFalsely : Prop := dserverOnceRow.holds Tryz.pinned (OpenSpec.ofChange dserverOnceWrong)

/-- 'lamellalaw13.DserverAlone': WHATEVER THE INPUT: true; the input reads as it did. -/
def dserverAloneSpec : ChangeSpec := { name := "dserverAlone", fn := fun _ => fun
  | [d1, d2] => { results := [.lit (.bool true)], args := [d1, d2] }
  | _ => none }
def dserverAloneRow : OpenClaim := { program := "ytmelaiefbpdifaagreatdoor", sum := "f455dd3b4ef861a55995fc24ad9b2e6f1727489e4cc1f31f00df09a3dcd82997", func := "lamella/lamellalaw13.DserverAlone", spec := "dserverAlone", inPlace := ["internal/bytealg.IndexByteString", "internal/bytealg.IndexString", "internal/bytealg.abigen_runtime_cmpstring", "internal/abi.NoEscape", "internal/bytealg.MakeNoZero"], unfollowed := true, recurses := true, named := ["unicode/utf8.first", "unicode/utf8.acceptRanges", "internal/bytealg.MaxLen"], apart := false, laid := [("unicode/utf8.acceptRanges", laid_unicode_utf8_acceptRanges), ("unicode/utf8.first", laid_unicode_utf8_first)] }
def DserverAloneSaid : Prop := dserverAloneRow.holds Tryz.pinned (OpenSpec.ofChange dserverAloneSpec)

/-- ITS FALSE NEIGHBOUR: 'it returns false'. Refute it at one input. -/
def dserverAloneWrong : ChangeSpec := { name := "dserverAlone", fn := fun _ => fun
  | [d1, d2] => { results := [.lit (.bool false)], args := [d1, d2] }
  | _ => none }
def DserverAloneWrongFalsely : Prop := dserverAloneRow.holds Tryz.pinned (OpenSpec.ofChange dserverAloneWrong)

/-- 'lamellalaw13.DserverDeaf': WHATEVER THE INPUT: true; the input reads as it did. -/
def dserverDeafSpec : ChangeSpec := { name := "dserverDeaf", fn := fun _ => fun
  | [d1, d2] => { results := [.lit (.bool true)], args := [d1, d2] }
  | _ => none }
def dserverDeafRow : OpenClaim := { program := "ytmelaiefbpdifaagreatdoor", sum := "f455dd3b4ef861a55995fc24ad9b2e6f1727489e4cc1f31f00df09a3dcd82997", func := "lamella/lamellalaw13.DserverDeaf", spec := "dserverDeaf", inPlace := ["internal/bytealg.IndexByteString", "internal/bytealg.IndexString", "internal/bytealg.abigen_runtime_cmpstring", "internal/abi.NoEscape", "internal/bytealg.MakeNoZero"], unfollowed := true, recurses := true, named := ["unicode/utf8.first", "unicode/utf8.acceptRanges", "internal/bytealg.MaxLen"], apart := false, laid := [("unicode/utf8.acceptRanges", laid_unicode_utf8_acceptRanges), ("unicode/utf8.first", laid_unicode_utf8_first)] }
def DserverDeafSaid : Prop := dserverDeafRow.holds Tryz.pinned (OpenSpec.ofChange dserverDeafSpec)

/-- ITS FALSE NEIGHBOUR: 'it returns false'. Refute it at one input. -/
def dserverDeafWrong : ChangeSpec := { name := "dserverDeaf", fn := fun _ => fun
  | [d1, d2] => { results := [.lit (.bool false)], args := [d1, d2] }
  | _ => none }
def DserverDeafWrongFalsely : Prop := dserverDeafRow.holds Tryz.pinned (OpenSpec.ofChange dserverDeafWrong)

/- THE SECOND FORM. 'bulk': how many values and letters a reading holds, each counted each time it is reached (what is shared counts as often as it is met; a slice's spare places count too). A statement '..UptoSaid' is the law's where the arguments, and the package variables that the reading takes, are together of bulk at most 1048576: NARROWER than '..Said'. Prove '..Said' where nothing that the law and all that it calls make is longer than what came in: it says more and counts as full. Else prove '..UptoSaid'. A law counts once. -/
mutual
def uptoBulk {H : Type} : DataW H → Nat
  | .lit (.string bytes) => bytes.length + 1
  | .lit _ => 1
  | .nil => 1
  | .ptr d => uptoBulk d + 1
  | .slice elems spare => uptoBulkAll elems + uptoBulkAll spare + 1
  | .agg parts => uptoBulkAll parts + 1
  | .iface _ d => uptoBulk d + 1
  | .map entries => uptoBulkEntries entries + 1
  | .held _ => 1
def uptoBulkAll {H : Type} : List (DataW H) → Nat
  | [] => 0
  | d :: r => uptoBulk d + uptoBulkAll r
def uptoBulkEntries {H : Type} : List (Lit × DataW H) → Nat
  | [] => 0
  | x :: r => uptoBulkEntry x + uptoBulkEntries r
def uptoBulkEntry {H : Type} : Lit × DataW H → Nat
  | (.string bytes, d) => bytes.length + uptoBulk d + 1
  | (_, d) => uptoBulk d + 1
 end
def uptoSmall : (H : Type) → List (DataW H) → Bool := fun _ ds => decide (uptoBulkAll ds ≤ 1048576)
def OpenSpec.upto (s : _root_.Go.ChangeSpec) : _root_.Go.OpenSpec := { _root_.Go.OpenSpec.ofChange s with cond := some uptoSmall }

/-- 'lamellalaw13.DserverStarts', WHERE WHAT IT READS IS OF BULK AT MOST 1048576: true; the input reads as it did. -/
def dserverStartsUptoRow : OpenClaim := { program := "ytmelaiefbpdifaagreatdoor", sum := "f455dd3b4ef861a55995fc24ad9b2e6f1727489e4cc1f31f00df09a3dcd82997", func := "lamella/lamellalaw13.DserverStarts", spec := "dserverStarts", inPlace := ["internal/bytealg.IndexByteString", "internal/bytealg.IndexString", "internal/bytealg.abigen_runtime_cmpstring", "internal/abi.NoEscape", "internal/bytealg.MakeNoZero"], unfollowed := true, recurses := true, named := ["unicode/utf8.first", "unicode/utf8.acceptRanges", "internal/bytealg.MaxLen"], apart := false, laid := [("unicode/utf8.acceptRanges", laid_unicode_utf8_acceptRanges), ("unicode/utf8.first", laid_unicode_utf8_first)], narrowed := true }
def DserverStartsUptoSaid : Prop := dserverStartsUptoRow.holds Tryz.pinned (OpenSpec.upto dserverStartsSpec)

/-- 'lamellalaw13.DserverFenced', WHERE WHAT IT READS IS OF BULK AT MOST 1048576: true; the input reads as it did. -/
def dserverFencedUptoRow : OpenClaim := { program := "ytmelaiefbpdifaagreatdoor", sum := "f455dd3b4ef861a55995fc24ad9b2e6f1727489e4cc1f31f00df09a3dcd82997", func := "lamella/lamellalaw13.DserverFenced", spec := "dserverFenced", inPlace := ["internal/bytealg.IndexByteString", "internal/bytealg.IndexString", "internal/bytealg.abigen_runtime_cmpstring", "internal/abi.NoEscape", "internal/bytealg.MakeNoZero"], unfollowed := true, recurses := true, named := ["unicode/utf8.first", "unicode/utf8.acceptRanges", "internal/bytealg.MaxLen"], apart := false, laid := [("unicode/utf8.acceptRanges", laid_unicode_utf8_acceptRanges), ("unicode/utf8.first", laid_unicode_utf8_first)], narrowed := true }
def DserverFencedUptoSaid : Prop := dserverFencedUptoRow.holds Tryz.pinned (OpenSpec.upto dserverFencedSpec)

/-- 'lamellalaw13.DserverSure', WHERE WHAT IT READS IS OF BULK AT MOST 1048576: true; the input reads as it did. -/
def dserverSureUptoRow : OpenClaim := { program := "ytmelaiefbpdifaagreatdoor", sum := "f455dd3b4ef861a55995fc24ad9b2e6f1727489e4cc1f31f00df09a3dcd82997", func := "lamella/lamellalaw13.DserverSure", spec := "dserverSure", inPlace := ["internal/bytealg.IndexByteString", "internal/bytealg.IndexString", "internal/bytealg.abigen_runtime_cmpstring", "internal/abi.NoEscape", "internal/bytealg.MakeNoZero"], unfollowed := true, recurses := true, named := ["unicode/utf8.first", "unicode/utf8.acceptRanges", "internal/bytealg.MaxLen"], apart := false, laid := [("unicode/utf8.acceptRanges", laid_unicode_utf8_acceptRanges), ("unicode/utf8.first", laid_unicode_utf8_first)], narrowed := true }
def DserverSureUptoSaid : Prop := dserverSureUptoRow.holds Tryz.pinned (OpenSpec.upto dserverSureSpec)

/-- 'lamellalaw13.DserverOnce', WHERE WHAT IT READS IS OF BULK AT MOST 1048576: true; the input reads as it did. -/
def dserverOnceUptoRow : OpenClaim := { program := "ytmelaiefbpdifaagreatdoor", sum := "f455dd3b4ef861a55995fc24ad9b2e6f1727489e4cc1f31f00df09a3dcd82997", func := "lamella/lamellalaw13.DserverOnce", spec := "dserverOnce", inPlace := ["internal/bytealg.IndexByteString", "internal/bytealg.IndexString", "internal/bytealg.abigen_runtime_cmpstring", "internal/abi.NoEscape", "internal/bytealg.MakeNoZero"], unfollowed := true, recurses := true, named := ["unicode/utf8.first", "unicode/utf8.acceptRanges", "internal/bytealg.MaxLen"], apart := false, laid := [("unicode/utf8.acceptRanges", laid_unicode_utf8_acceptRanges), ("unicode/utf8.first", laid_unicode_utf8_first)], narrowed := true }
def DserverOnceUptoSaid : Prop := dserverOnceUptoRow.holds Tryz.pinned (OpenSpec.upto dserverOnceSpec)

/-- 'lamellalaw13.DserverAlone', WHERE WHAT IT READS IS OF BULK AT MOST 1048576: true; the input reads as it did. -/
def dserverAloneUptoRow : OpenClaim := { program := "ytmelaiefbpdifaagreatdoor", sum := "f455dd3b4ef861a55995fc24ad9b2e6f1727489e4cc1f31f00df09a3dcd82997", func := "lamella/lamellalaw13.DserverAlone", spec := "dserverAlone", inPlace := ["internal/bytealg.IndexByteString", "internal/bytealg.IndexString", "internal/bytealg.abigen_runtime_cmpstring", "internal/abi.NoEscape", "internal/bytealg.MakeNoZero"], unfollowed := true, recurses := true, named := ["unicode/utf8.first", "unicode/utf8.acceptRanges", "internal/bytealg.MaxLen"], apart := false, laid := [("unicode/utf8.acceptRanges", laid_unicode_utf8_acceptRanges), ("unicode/utf8.first", laid_unicode_utf8_first)], narrowed := true }
def DserverAloneUptoSaid : Prop := dserverAloneUptoRow.holds Tryz.pinned (OpenSpec.upto dserverAloneSpec)

/-- 'lamellalaw13.DserverDeaf', WHERE WHAT IT READS IS OF BULK AT MOST 1048576: true; the input reads as it did. -/
def dserverDeafUptoRow : OpenClaim := { program := "ytmelaiefbpdifaagreatdoor", sum := "f455dd3b4ef861a55995fc24ad9b2e6f1727489e4cc1f31f00df09a3dcd82997", func := "lamella/lamellalaw13.DserverDeaf", spec := "dserverDeaf", inPlace := ["internal/bytealg.IndexByteString", "internal/bytealg.IndexString", "internal/bytealg.abigen_runtime_cmpstring", "internal/abi.NoEscape", "internal/bytealg.MakeNoZero"], unfollowed := true, recurses := true, named := ["unicode/utf8.first", "unicode/utf8.acceptRanges", "internal/bytealg.MaxLen"], apart := false, laid := [("unicode/utf8.acceptRanges", laid_unicode_utf8_acceptRanges), ("unicode/utf8.first", laid_unicode_utf8_first)], narrowed := true }
def DserverDeafUptoSaid : Prop := dserverDeafUptoRow.holds Tryz.pinned (OpenSpec.upto dserverDeafSpec)

end Rows
end Go.Proofs.YtmelaiefbpdifaaGreatDoor
