/- What stage05's chain lacks of stage 7's ground. -/
import Derived.Test.YtchlcmgdfbabdaaGreatDoorGh
import Derived.Deep.Slices
import Derived.Deep.Fields
import Derived.ProofKit
import Derived.Deep.WholeRow
import Derived.Deep.MidRow
import Derived.Laws.BitsAllLaws
import Derived.Lib.BufferWrite
import Derived.Lib.Hide
import Derived.Deep.RegionHeld3
import Derived.Deep.AppendLies
import Derived.Laws.CopyRow
import Derived.StillTailTactics
import Derived.Test.YtchlcmgdfbabdaaGreatDoorChecked
namespace Go.Proofs.YtchlcmgdfbabdaaGreatDoor
open Go.RowKit

theorem str_ne {a b : List UInt8} (h : ¬ strOf a = strOf b) : ((strOf a).toList == (strOf b).toList) = false := by
  rw [beq_toList, beq_eq_false_iff_ne]
  exact fun e => h (by rw [e])
theorem Mine.from {α : Type} {enc : α → List Value} {k : Nat} {e : TypeId} {w w0 w1 : World} {v : Value} {l : List α} (kk : Only [] w w0) (h : Mine enc k e w0 w1 v l) : Mine enc k e w w1 v l :=
  ⟨h.own, fun g hg => Nat.le_trans kk.size (h.new g hg), kk.trans h.only⟩

theorem Mine.shape {α : Type} {enc : α → List Value} {k : Nat} {e : TypeId} {w w1 : World} {v : Value} {l : List α} (hk : ∀ x, (enc x).length = k) (h : Mine enc k e w w1 v l) :
    ∃ A c, v = .slice A l.length c ∧ Els enc k w1 A l ∧ l.length ≤ c ∧ (∀ a, A = some a → w.heap.size ≤ a.block) ∧ (v = .slice none 0 0 ∨ ∃ g c, v = .slice (some ⟨g, 0, none⟩) l.length c) := by
  rcases id h.own.2 with ⟨rfl, h0⟩ | ⟨g, cap, cur, rfl, hb, hg, hn, r⟩
  · have hl : l = [] := List.eq_nil_of_length_eq_zero h0
    subst hl
    exact ⟨none, 0, rfl, .inl rfl, Nat.le_refl _, by simp, .inl rfl⟩
  · refine ⟨_, _, rfl, ?_, hn, fun a ha => ?_, .inr ⟨g, cap, rfl⟩⟩
    · by_cases h0 : l = []
      · exact .inl h0
      · refine .inr ⟨g, 0, rfl, (h.own.lt g rfl).2, fun i hi j u hu => ?_⟩
        have q := h.own.cells rfl _ _ (encs_at hk l i hi j u hu)
        rw [addr_add, Nat.zero_add] at q
        rw [Nat.zero_add]
        exact q
    · injection ha with ha
      subst ha
      exact h.new g rfl

end Go.Proofs.YtchlcmgdfbabdaaGreatDoor
