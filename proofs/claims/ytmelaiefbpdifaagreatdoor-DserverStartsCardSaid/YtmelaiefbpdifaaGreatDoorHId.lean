/- Joined: Rr1, Rr2, Rr3, Rr9, Open9. -/
import Derived.Test.YtmelaiefbpdifaaGreatDoorHIc
import Derived.Test.YtmelaiefbpdifaaGreatDoorChecked
import Derived.Tactics
import Derived.Tactics2
import Derived.StillTactics
import Derived.StillTailTactics
import Derived.RegionTactic
import Derived.WalkKit
import Derived.WalkLawsBesides
import Derived.WalkSpells
import Derived.Outline
import Derived.Laws.Pointers
import Derived.Laws.Small
import Derived.Laws.Build
import Derived.Laws.Cover3
import Derived.Laws.StructEq
import Derived.KernelRfl
import Derived.Lib.Hide
import Derived.BigQuiet
import Derived.BigRegion
import Derived.OwnWalk
import Derived.LoopTactic
import Derived.Laws.ResultCell
import Derived.Deep.Slices
import Derived.Deep.Fields
import Derived.ProofKit
import Derived.OpenShut
/- The walk of the document's Right: codes 1 to 5. -/
namespace Go.Proofs.YtmelaiefbpdifaaGreatDoor
set_option maxRecDepth 100000
open Go.RowKit
end Go.Proofs.YtmelaiefbpdifaaGreatDoor
/- The walk of the document's Right: codes 11 to 24. -/
namespace Go.Proofs.YtmelaiefbpdifaaGreatDoor
set_option maxRecDepth 100000
open Go.RowKit
end Go.Proofs.YtmelaiefbpdifaaGreatDoor
/- The walk of the document's Right: code 30. -/
namespace Go.Proofs.YtmelaiefbpdifaaGreatDoor
set_option maxRecDepth 100000
open Go.RowKit
end Go.Proofs.YtmelaiefbpdifaaGreatDoor
/- The walk of the document's Right. -/
namespace Go.Proofs.YtmelaiefbpdifaaGreatDoor
set_option maxRecDepth 100000
open Go.RowKit
end Go.Proofs.YtmelaiefbpdifaaGreatDoor
/- A packet that comes in, opened. -/
namespace Go.Proofs.YtmelaiefbpdifaaGreatDoor
set_option maxRecDepth 100000
open Go.RowKit Go.WideShapes Go.ChangeShapes Go.Deep
section
variable {H:Type}{enc:TypeId × Value→H}{w:World}
end
end Go.Proofs.YtmelaiefbpdifaaGreatDoor
