/- The walk of the document's Right. -/
import Derived.Test.YtjnbajpckohnnaaRr1
import Derived.Test.YtjnbajpckohnnaaRr2
import Derived.Test.YtjnbajpckohnnaaRr3
import Derived.Test.YtjnbajpckohnnaaChecked
import Derived.Tactics
import Derived.Tactics2
import Derived.StillTactics
import Derived.StillTailTactics
import Derived.RegionTactic
import Derived.WalkKit
import Derived.WalkLawsBesides
import Derived.WalkSpells
import Derived.Outline
import Derived.Laws.Pointers
import Derived.Laws.Small
import Derived.Laws.Build
import Derived.Laws.Cover3
import Derived.Laws.StructEq
import Derived.KernelRfl
import Derived.Lib.Hide
import Derived.BigQuiet
import Derived.BigRegion
import Derived.OwnWalk
import Derived.LoopTactic
import Derived.Laws.ResultCell
namespace Go.Proofs.Ytjnbajpckohnnaa
open Go.RowKit

theorem rright_any (w : World) (p : Pk) : Calls Try.prog 9 #[pkV p] w fun e w' => e = .returned (.bool (decide p.Right)) ∧ Only [] w w' := by
  by_cases h1 : 1 ≤ p.code ∧ p.code ≤ 5
  · exact rright_1 p w h1
  by_cases h2 : 11 ≤ p.code ∧ p.code ≤ 24
  · exact rright_2 p w h2
  by_cases h3 : p.code = 30
  · exact rright_3 p w h3
  have hk : ¬ knownP p.code := by unfold knownP; omega
  obtain ⟨x0, x1, x2, x3, x4, x5, x6, x7, x8, x9, x10, x11, x12, x13, x14, x15, x16, x17, x18, x19⟩ := p
  simp only at h1 h2 h3 hk
  have f5 : (x7 == 30) = false := by simpa using h3
  clear h3
  by_cases t1 : x7 < 1
  · have fc1 : decide (1 ≤ x7) = false := by simp; omega
    have fc3 : decide (11 ≤ x7) = false := by simp; omega
    have hR := Lib.hid (decide_eq_false (show ¬ Pk.Right ⟨x0, x1, x2, x3, x4, x5, x6, x7, x8, x9, x10, x11, x12, x13, x14, x15, x16, x17, x18, x19⟩ from by unfold Pk.Right; simp only; exact fun h => hk h.2.2.2.2.1))
    try clear e1
    try clear e2
    try clear e3
    go_enter Try.func9, Try.ntmps9
    go_wp2
    go_ret
    exact ⟨by rw [hR.out]; rfl, (Only.refl [] w).alloc _⟩
  by_cases t2 : x7 ≤ 5
  · exact absurd ⟨by omega, t2⟩ h1
  by_cases t3 : x7 < 11
  · have fc1 : decide (1 ≤ x7) = true := by simp; omega
    have fc2 : decide (x7 ≤ 5) = false := by simp; omega
    have fc3 : decide (11 ≤ x7) = false := by simp; omega
    have hR := Lib.hid (decide_eq_false (show ¬ Pk.Right ⟨x0, x1, x2, x3, x4, x5, x6, x7, x8, x9, x10, x11, x12, x13, x14, x15, x16, x17, x18, x19⟩ from by unfold Pk.Right; simp only; exact fun h => hk h.2.2.2.2.1))
    try clear e1
    try clear e2
    try clear e3
    go_enter Try.func9, Try.ntmps9
    go_wp2
    go_ret
    exact ⟨by rw [hR.out]; rfl, (Only.refl [] w).alloc _⟩
  by_cases t4 : x7 ≤ 24
  · exact absurd ⟨by omega, t4⟩ h2
  · have fc1 : decide (1 ≤ x7) = true := by simp; omega
    have fc2 : decide (x7 ≤ 5) = false := by simp; omega
    have fc3 : decide (11 ≤ x7) = true := by simp; omega
    have fc4 : decide (x7 ≤ 24) = false := by simp; omega
    have hR := Lib.hid (decide_eq_false (show ¬ Pk.Right ⟨x0, x1, x2, x3, x4, x5, x6, x7, x8, x9, x10, x11, x12, x13, x14, x15, x16, x17, x18, x19⟩ from by unfold Pk.Right; simp only; exact fun h => hk h.2.2.2.2.1))
    try clear e1
    try clear e2
    try clear e3
    go_enter Try.func9, Try.ntmps9
    go_wp2
    go_ret
    exact ⟨by rw [hR.out]; rfl, (Only.refl [] w).alloc _⟩

end Go.Proofs.Ytjnbajpckohnnaa
