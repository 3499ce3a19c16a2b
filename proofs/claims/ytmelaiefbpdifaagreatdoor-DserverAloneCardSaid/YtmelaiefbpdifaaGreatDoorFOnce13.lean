/- DserverOnce: the walk. -/
import Derived.Test.YtmelaiefbpdifaaGreatDoorFLike13
import Derived.Test.YtmelaiefbpdifaaGreatDoorFDeaf13
namespace Go.Proofs.YtmelaiefbpdifaaGreatDoor.Srv
open Go.RowKit Go.Maps
open Pgs (Pg pgE)
theorem like_new {N : Nat} {M M' : List Rw} (h : Good N M) (h' : Good N M') (g : ∀ k, getR M k = afterK (boCh 1) [] k) (g' : ∀ k, getR M' k = afterK (boCh 1) [] k) : Like (srv0 N 1 1 M) (srv0 N 1 1 M') :=
 ⟨rfl, rfl, rfl, rfl, chs_ext h.sorted h'.sorted fun k => (g k).trans (g' k).symm, rfl, rfl, h, h'⟩
end Go.Proofs.YtmelaiefbpdifaaGreatDoor.Srv
