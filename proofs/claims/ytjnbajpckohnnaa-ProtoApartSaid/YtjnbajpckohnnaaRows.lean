/-
  No cell of these rows narrows 'for every input' (looked for: loops, veiled, ifaces, maps, wideKeys, modest, calm, conditions, laid).
  DERIVED. THE GIVEN ROWS OF THIS SEAT. 4 by the template 'for every input the law returns true; each argument reads behind the call as it read before'; 0 by the template 'total and deterministic' (their statements: YtjnbajpckohnnaaTotals.lean).
  GIVEN WITH THE SEED: the statements are not yours to turn. If you find one false, say at which input.
  Laid BY PROGRAM, IN A SANDBOX (cutbox-rows.mjs): the forced cells as the released guide's own fill.sh prints them over the translation 63789788334c3245… (all of the seat's roots in one cut). By AI agents, Wed Nov 11 2026. No macro, syntax, notation, axiom, sorry.
-/
import Derived.Test.YtjnbajpckohnnaaChecked
import GoSem.Claim
import GoSem.ClaimJoined
import GoSem.ClaimMapViews
import Derived.JoinedTies
import Derived.KernelRfl
namespace Go.Proofs.Ytjnbajpckohnnaa
/- THE CELL 'sum', in the pinned program and in every row, IS THE sha256 OF THE DUMP (.gsa) THAT YtjnbajpckohnnaaProg.lean LOADS. Nothing in Lean hashes anything: it is a label: what it is worth is what the hold of that sum in a sandbox is worth. -/
noncomputable def Try.pinned : Pinned := { name := "ytjnbajpckohnnaa", sum := "63789788334c3245b299b21adc627de19c96c3b5e7e7733ff1baf5b3c01c4159", checked := Try.checked }
namespace Rows
def none {H : Type} : Left H := { results := [], args := [] }

/-- 'lamellalaw09.ProtoWrites': WHATEVER THE INPUT: true; the input reads as it did. -/
def protoWritesSpec : ChangeSpec := { name := "protoWrites", fn := fun _ => fun
  | [d] => { results := [.lit (.bool true)], args := [d] }
  | _ => none }
def protoWritesRow : OpenClaim := { program := "ytjnbajpckohnnaa", sum := "63789788334c3245b299b21adc627de19c96c3b5e7e7733ff1baf5b3c01c4159", func := "lamella/lamellalaw09.ProtoWrites", spec := "protoWrites", apart := false }
def ProtoWritesSaid : Prop := protoWritesRow.holds Try.pinned (OpenSpec.ofChange protoWritesSpec)

/-- ITS FALSE NEIGHBOUR: 'it returns false'. Refute it at one input. -/
def protoWritesWrong : ChangeSpec := { name := "protoWrites", fn := fun _ => fun
  | [d] => { results := [.lit (.bool false)], args := [d] }
  | _ => none }
def ProtoWritesWrongFalsely : Prop := protoWritesRow.holds Try.pinned (OpenSpec.ofChange protoWritesWrong)

/-- 'lamellalaw09.ProtoReads': WHATEVER THE INPUT: true; the input reads as it did. -/
def protoReadsSpec : ChangeSpec := { name := "protoReads", fn := fun _ => fun
  | [d] => { results := [.lit (.bool true)], args := [d] }
  | _ => none }
def protoReadsRow : OpenClaim := { program := "ytjnbajpckohnnaa", sum := "63789788334c3245b299b21adc627de19c96c3b5e7e7733ff1baf5b3c01c4159", func := "lamella/lamellalaw09.ProtoReads", spec := "protoReads", apart := false }
def ProtoReadsSaid : Prop := protoReadsRow.holds Try.pinned (OpenSpec.ofChange protoReadsSpec)

/-- ITS FALSE NEIGHBOUR: 'it returns false'. Refute it at one input. -/
def protoReadsWrong : ChangeSpec := { name := "protoReads", fn := fun _ => fun
  | [d] => { results := [.lit (.bool false)], args := [d] }
  | _ => none }
def ProtoReadsWrongFalsely : Prop := protoReadsRow.holds Try.pinned (OpenSpec.ofChange protoReadsWrong)

/-- 'lamellalaw09.ProtoBack': WHATEVER THE INPUT: true; the input reads as it did. -/
def protoBackSpec : ChangeSpec := { name := "protoBack", fn := fun _ => fun
  | [d1, d2] => { results := [.lit (.bool true)], args := [d1, d2] }
  | _ => none }
def protoBackRow : OpenClaim := { program := "ytjnbajpckohnnaa", sum := "63789788334c3245b299b21adc627de19c96c3b5e7e7733ff1baf5b3c01c4159", func := "lamella/lamellalaw09.ProtoBack", spec := "protoBack", apart := false }
def ProtoBackSaid : Prop := protoBackRow.holds Try.pinned (OpenSpec.ofChange protoBackSpec)

/-- ITS FALSE NEIGHBOUR: 'it returns false'. Refute it at one input. -/
def protoBackWrong : ChangeSpec := { name := "protoBack", fn := fun _ => fun
  | [d1, d2] => { results := [.lit (.bool false)], args := [d1, d2] }
  | _ => none }
def ProtoBackWrongFalsely : Prop := protoBackRow.holds Try.pinned (OpenSpec.ofChange protoBackWrong)

/-- 'lamellalaw09.ProtoApart': WHATEVER THE INPUT: true; the input reads as it did. -/
def protoApartSpec : ChangeSpec := { name := "protoApart", fn := fun _ => fun
  | [d1, d2] => { results := [.lit (.bool true)], args := [d1, d2] }
  | _ => none }
def protoApartRow : OpenClaim := { program := "ytjnbajpckohnnaa", sum := "63789788334c3245b299b21adc627de19c96c3b5e7e7733ff1baf5b3c01c4159", func := "lamella/lamellalaw09.ProtoApart", spec := "protoApart", apart := false }
def ProtoApartSaid : Prop := protoApartRow.holds Try.pinned (OpenSpec.ofChange protoApartSpec)

/-- ITS FALSE NEIGHBOUR: 'it returns false'. Refute it at one input. -/
def protoApartWrong : ChangeSpec := { name := "protoApart", fn := fun _ => fun
  | [d1, d2] => { results := [.lit (.bool false)], args := [d1, d2] }
  | _ => none }
def ProtoApartWrongFalsely : Prop := protoApartRow.holds Try.pinned (OpenSpec.ofChange protoApartWrong)

/- THE SECOND FORM. 'bulk': how many values and letters a reading holds, each counted each time it is reached (what is shared counts as often as it is met; a slice's spare places count too). A statement '..UptoSaid' is the law's where the arguments, and the package variables that the reading takes, are together of bulk at most 1048576: NARROWER than '..Said'. Prove '..Said' where nothing that the law and all that it calls make is longer than what came in: it says more and counts as full. Else prove '..UptoSaid'. A law counts once. -/
mutual
def uptoBulk {H : Type} : DataW H → Nat
  | .lit (.string bytes) => bytes.length + 1
  | .lit _ => 1
  | .nil => 1
  | .ptr d => uptoBulk d + 1
  | .slice elems spare => uptoBulkAll elems + uptoBulkAll spare + 1
  | .agg parts => uptoBulkAll parts + 1
  | .iface _ d => uptoBulk d + 1
  | .map entries => uptoBulkEntries entries + 1
  | .held _ => 1
def uptoBulkAll {H : Type} : List (DataW H) → Nat
  | [] => 0
  | d :: r => uptoBulk d + uptoBulkAll r
def uptoBulkEntries {H : Type} : List (Lit × DataW H) → Nat
  | [] => 0
  | x :: r => uptoBulkEntry x + uptoBulkEntries r
def uptoBulkEntry {H : Type} : Lit × DataW H → Nat
  | (.string bytes, d) => bytes.length + uptoBulk d + 1
  | (_, d) => uptoBulk d + 1
 end
def uptoSmall : (H : Type) → List (DataW H) → Bool := fun _ ds => decide (uptoBulkAll ds ≤ 1048576)
def OpenSpec.upto (s : _root_.Go.ChangeSpec) : _root_.Go.OpenSpec := { _root_.Go.OpenSpec.ofChange s with cond := some uptoSmall }

/-- 'lamellalaw09.ProtoWrites', WHERE WHAT IT READS IS OF BULK AT MOST 1048576: true; the input reads as it did. -/
def protoWritesUptoRow : OpenClaim := { program := "ytjnbajpckohnnaa", sum := "63789788334c3245b299b21adc627de19c96c3b5e7e7733ff1baf5b3c01c4159", func := "lamella/lamellalaw09.ProtoWrites", spec := "protoWrites", apart := false, narrowed := true }
def ProtoWritesUptoSaid : Prop := protoWritesUptoRow.holds Try.pinned (OpenSpec.upto protoWritesSpec)

/-- 'lamellalaw09.ProtoReads', WHERE WHAT IT READS IS OF BULK AT MOST 1048576: true; the input reads as it did. -/
def protoReadsUptoRow : OpenClaim := { program := "ytjnbajpckohnnaa", sum := "63789788334c3245b299b21adc627de19c96c3b5e7e7733ff1baf5b3c01c4159", func := "lamella/lamellalaw09.ProtoReads", spec := "protoReads", apart := false, narrowed := true }
def ProtoReadsUptoSaid : Prop := protoReadsUptoRow.holds Try.pinned (OpenSpec.upto protoReadsSpec)

/-- 'lamellalaw09.ProtoBack', WHERE WHAT IT READS IS OF BULK AT MOST 1048576: true; the input reads as it did. -/
def protoBackUptoRow : OpenClaim := { program := "ytjnbajpckohnnaa", sum := "63789788334c3245b299b21adc627de19c96c3b5e7e7733ff1baf5b3c01c4159", func := "lamella/lamellalaw09.ProtoBack", spec := "protoBack", apart := false, narrowed := true }
def ProtoBackUptoSaid : Prop := protoBackUptoRow.holds Try.pinned (OpenSpec.upto protoBackSpec)

/-- 'lamellalaw09.ProtoApart', WHERE WHAT IT READS IS OF BULK AT MOST 1048576: true; the input reads as it did. -/
def protoApartUptoRow : OpenClaim := { program := "ytjnbajpckohnnaa", sum := "63789788334c3245b299b21adc627de19c96c3b5e7e7733ff1baf5b3c01c4159", func := "lamella/lamellalaw09.ProtoApart", spec := "protoApart", apart := false, narrowed := true }
def ProtoApartUptoSaid : Prop := protoApartUptoRow.holds Try.pinned (OpenSpec.upto protoApartSpec)

end Rows
end Go.Proofs.Ytjnbajpckohnnaa
