/- The walk of Same, at lists that are the same. -/
import Derived.Test.YtfnpbekfgofhfaaCut
import Derived.Deep.QuietTactic
import Derived.BigQuiet
namespace Go.Proofs.Ytfnpbekfgofhfaa
open Go.RowKit

set_option maxHeartbeats 400000 in
theorem same_yes (w : World) (A B : Option Addr) (c d : Nat) (l : List Nat) (ha : Nums w [] A l) (hb : Nums w [] B l) (hL : l.length ≤ 1048576) :
    Calls Try.prog 24 #[.slice A l.length c, .slice B l.length d] w fun e w' => e = .returned (.bool true) ∧ Only [] w w' := by
  have HA := Lib.hid ha
  have HB := Lib.hid hb
  clear ha hb
  go_enter Try.func24, Try.ntmps24
  go_wp2
  go_loopw [5] (fun i wr => ∃ k : Nat, k ≤ l.length ∧ i = .int .i64 k ∧ Only [] w wr) (fun i _ => l.length - (intOf i).toNat)
  case atStart => exact ⟨0, Nat.zero_le _, rfl, Only.refl _ _⟩
  case round =>
    obtain ⟨k, hk, rfl, hwr⟩ := hrel
    by_cases hlt : k < l.length
    · obtain ⟨g, o, rfl, _, hg⟩ : ∃ g o, A = some ⟨g, o, none⟩ ∧ g ∉ [] ∧ NumsAt w g o l := by
        rcases HA.out with h0 | h0
        · rw [h0] at hlt; simp at hlt
        · exact h0
      obtain ⟨g2, o2, rfl, _, hg2⟩ : ∃ g o, B = some ⟨g, o, none⟩ ∧ g ∉ [] ∧ NumsAt w g o l := by
        rcases HB.out with h0 | h0
        · rw [h0] at hlt; simp at hlt
        · exact h0
      have hc1 := (hg.kept hwr (by simp)) k hlt
      have hc2 := (hg2.kept hwr (by simp)) k hlt
      have hlt' : (k : Int) < (l.length : Int) := by omega
      clear hg hg2
      go_wp2_with fail
      go_quiet (fail)
      go_wp2
      go_roundw
      case rel => exact ⟨k + 1, by omega, by go_num, hwr.drewN _⟩
      case measure => simp [intOf]; omega
    · obtain rfl : k = l.length := by omega
      go_wp2
      go_ret
      exact ⟨rfl, hwr⟩

end Go.Proofs.Ytfnpbekfgofhfaa
