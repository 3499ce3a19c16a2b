/- LaneOnce: the loop's body, taken out of the translation. -/
import Derived.Test.YtjogdilkdnnhnaaOnce8
namespace Go.Proofs.Ytjogdilkdnnhnaa
open Go.RowKit
set_option linter.unusedVariables false

/-- What the first loop of a text goes round. -/
def loopIn : Code → Option Code
  | .loop b => some b
  | .scope b => loopIn b
  | .block _ b => loopIn b
  | .cond _ x y => (loopIn x).or (loopIn y)
  | .seq x y => (loopIn x).or (loopIn y)
  | _ => none
noncomputable def onceBody : Code := ((Try.f6.body.bind loopIn).getD .skip)

end Go.Proofs.Ytjogdilkdnnhnaa
