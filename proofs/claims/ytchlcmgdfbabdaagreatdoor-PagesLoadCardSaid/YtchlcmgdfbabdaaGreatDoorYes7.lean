/- Two lists that are the same. -/
import Derived.Test.YtchlcmgdfbabdaaGreatDoorSame7
namespace Go.Proofs.YtchlcmgdfbabdaaGreatDoor.Pgs
open Go.RowKit
theorem same_yes (w : World) (A B : Option Addr) (c d n m : Nat) (L : List Pg) (hn : n = L.length) (hm : m = L.length) (hA : Els pgE 2 w A L) (hB : Els pgE 2 w B L) (hl : n ≤ 1048576) :
    Calls Tryz.prog 12 #[.slice A n c, .slice B m d] w fun e w' => e = .returned (.bool true) ∧ Only [] w w' := by
  refine (same_any w A B c d n m L L hn hm hA hB hl).mono ?_
  rintro e w1 ⟨⟨r, rfl, hr⟩, k, rfl⟩
  exact ⟨by rw [hr.2 rfl], (Only.refl [] w).drewN k⟩
end Go.Proofs.YtchlcmgdfbabdaaGreatDoor.Pgs
