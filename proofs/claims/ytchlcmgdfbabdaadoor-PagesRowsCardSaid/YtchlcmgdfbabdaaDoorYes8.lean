/- Two lists of changes that are the same. -/
import Derived.Test.YtchlcmgdfbabdaaDoorRchg7
namespace Go.Proofs.YtchlcmgdfbabdaaDoor.Pgs
open Go.RowKit
theorem sameCh_yes (w : World) (A B : Option Addr) (c d : Nat) (L : List Ch) (hA : Els chE 3 w A L) (hB : Els chE 3 w B L) (hl : L.length ≤ 1048576) :
    Calls Tryd.prog 26 #[.slice A L.length c, .slice B L.length d] w fun e w' => e = .returned (.bool true) ∧ Only [] w w' := by
  refine (sameCh_any w A B c d L L hA hB hl).mono ?_
  rintro e w1 ⟨⟨r, rfl, hr⟩, k, rfl⟩
  exact ⟨by rw [hr.2 rfl], (Only.refl [] w).drewN k⟩
theorem ch_shape {w w1 : World} {v : Value} {l : List Ch} (h : Mine chE 3 69 w w1 v l) : ∃ A c, v = .slice A l.length c ∧ Els chE 3 w1 A l ∧ l.length ≤ c ∧ (∀ a, A = some a → w.heap.size ≤ a.block) := by
  obtain ⟨A, c, e, h1, h2, h3, _⟩ := h.shape chE_length
  exact ⟨A, c, e, h1, h2, h3⟩
end Go.Proofs.YtchlcmgdfbabdaaDoor.Pgs
