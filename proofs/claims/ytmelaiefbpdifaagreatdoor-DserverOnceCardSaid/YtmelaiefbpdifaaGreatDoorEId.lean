/- Joined: Rr1, Rr2, Rr3, Rr9, Open9. -/
import Derived.Test.YtmelaiefbpdifaaGreatDoorEIc
import Derived.Test.YtmelaiefbpdifaaGreatDoorChecked
import Derived.Tactics
import Derived.Tactics2
import Derived.StillTactics
import Derived.StillTailTactics
import Derived.RegionTactic
import Derived.WalkKit
import Derived.WalkLawsBesides
import Derived.WalkSpells
import Derived.Outline
import Derived.Laws.Pointers
import Derived.Laws.Small
import Derived.Laws.Build
import Derived.Laws.Cover3
import Derived.Laws.StructEq
import Derived.KernelRfl
import Derived.Lib.Hide
import Derived.BigQuiet
import Derived.BigRegion
import Derived.OwnWalk
import Derived.LoopTactic
import Derived.Laws.ResultCell
import Derived.Deep.Slices
import Derived.Deep.Fields
import Derived.ProofKit
import Derived.OpenShut
/- The walk of the document's Right: codes 1 to 5. -/
namespace Go.Proofs.YtmelaiefbpdifaaGreatDoor
set_option maxRecDepth 100000
open Go.RowKit
end Go.Proofs.YtmelaiefbpdifaaGreatDoor
/- The walk of the document's Right: codes 11 to 24. -/
namespace Go.Proofs.YtmelaiefbpdifaaGreatDoor
set_option maxRecDepth 100000
open Go.RowKit
end Go.Proofs.YtmelaiefbpdifaaGreatDoor
/- The walk of the document's Right: code 30. -/
namespace Go.Proofs.YtmelaiefbpdifaaGreatDoor
set_option maxRecDepth 100000
open Go.RowKit
end Go.Proofs.YtmelaiefbpdifaaGreatDoor
/- The walk of the document's Right. -/
namespace Go.Proofs.YtmelaiefbpdifaaGreatDoor
set_option maxRecDepth 100000
open Go.RowKit
end Go.Proofs.YtmelaiefbpdifaaGreatDoor
/- A packet that comes in, opened. -/
namespace Go.Proofs.YtmelaiefbpdifaaGreatDoor
set_option maxRecDepth 100000
open Go.RowKit Go.WideShapes Go.ChangeShapes Go.Deep
theorem i_range {n : Int} (h : (Lit.int .i64 n).wf = true) : I n := by
  have e1 : IntKind.i64.min = -9223372036854775808 := by decide +kernel
  have e2 : IntKind.i64.max = 9223372036854775807 := by decide +kernel
  simp only [Lit.wf, Bool.and_eq_true, decide_eq_true_eq] at h
  unfold I
  omega
theorem u_range {n : Int} (h : (Lit.int .u32 n).wf = true) : U n := by
  have e1 : IntKind.u32.min = 0 := by decide +kernel
  have e2 : IntKind.u32.max = 4294967295 := by decide +kernel
  simp only [Lit.wf, Bool.and_eq_true, decide_eq_true_eq] at h
  unfold U
  omega
theorem open_field {H : Type} {enc : TypeId × Value → H} {P : Program} {w : World} {base : Nat} {spare : Nat → Bool} {held : Bool} {t : TypeId} {fs : Array Field} {fuel : Nat} {cs : List Value} {x : DataW H × List MemPlace}
    (he : P.underlying t = some (.struct fs)) (h : DataW.trod enc P w base spare held fuel t cs = some x) (j : Nat) (f : Field) (hj : fs[j]? = some f) (o k : Nat) (ty : TypeId) (hty : f.type = ty) (ho : f.offset = o) (hk : P.cellsOf ty = k) :
    ∃ (n : Nat) (y : DataW H × List MemPlace), DataW.trod enc P w base spare held n ty ((cs.drop o).take k) = some y := by
  subst hty
  obtain ⟨ys, n', _, _, hlen', hyl, hf⟩ := DataW.trod_struct he h
  have h1 := hf j f hj
  rw [ho, hk] at h1
  have hjl : j < ys.length := by
    rw [hyl]
    exact (Array.getElem?_eq_some_iff.1 hj).1
  rw [List.getElem?_eq_getElem hjl] at h1
  exact ⟨n', ys[j], h1⟩
section
variable {H : Type} {enc : TypeId × Value → H} {w : World}
end
end Go.Proofs.YtmelaiefbpdifaaGreatDoor
