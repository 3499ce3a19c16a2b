/- The walk of the document's Judge, by cases. -/
import Derived.Test.YtjogdilkdnnhnaaPure8
import Derived.Test.YtjogdilkdnnhnaaChecked
import Derived.Tactics
import Derived.Tactics2
import Derived.StillTactics
import Derived.RegionTactic
import Derived.WalkKit
import Derived.WalkLawsBesides
import Derived.WalkSpells
import Derived.Outline
import Derived.Laws.Pointers
import Derived.Laws.Small
import Derived.Laws.Build
import Derived.Laws.Cover3
import Derived.Laws.StructEq
import Derived.KernelRfl
import Derived.Lib.Hide
import Derived.BigQuiet
import Derived.OwnWalk
import Derived.Laws.ResultCell
namespace Go.Proofs.Ytjogdilkdnnhnaa
open Go.RowKit

theorem rjudge_any (s : Sat) (li sq : Int) (w : World) (hs : s.Ok) (h3 : U li) (h4 : U sq) :
    Calls Try.prog 11 #[satV s, .int .u32 li, .int .u32 sq] w fun e w' => e = .returned (.int .i64 (judgeL s li sq)) ∧ Only [] w w' := by
  have ways := judge_ways s li sq
  obtain ⟨⟨a0, a1⟩, ⟨b0, b1⟩⟩ := hs
  obtain ⟨c0, c1⟩ := h3
  obtain ⟨e0, e1⟩ := h4
  obtain ⟨sl, ss, r⟩ := s
  simp only at a0 a1 b0 b1 ways
  rcases ways with ⟨h1, hj⟩ | ⟨h1, h2, hj⟩ | ⟨h1, h2, h3, hj⟩ | ⟨h1, h2, h3, h4, h5, hj⟩ | ⟨h1, h2, h3, h4, h5, hj⟩ | ⟨h1, h2, h3, h4, h5, hj⟩ | ⟨h1, h2, h3, h4, h5, h6, hj⟩ | ⟨h1, h2, h3, h4, h5, h6, h7, hj⟩ | ⟨h1, h2, h3, h4, h5, h6, h7, hj⟩
  all_goals rw [hj]; clear hj
  · by_cases q0 : li = 0
    · subst q0
      go_enter Try.func11, Try.ntmps11
      go_wp2
      go_ret; exact ⟨rfl, (Only.refl [] w).alloc _⟩
    by_cases q1 : sq = 0
    · subst q1
      have f0 : (li == 0) = false := by simp; omega
      have g0 : decide (li = 0) = false := by simp; omega
      go_enter Try.func11, Try.ntmps11
      go_wp2
      go_ret; exact ⟨rfl, (Only.refl [] w).alloc _⟩
    have f0 : (li == 0) = false := by simp; omega
    have g0 : decide (li = 0) = false := by simp; omega
    have f1 : (sq == 0) = false := by simp; omega
    have g1 : decide (sq = 0) = false := by simp; omega
    go_enter Try.func11, Try.ntmps11
    go_wp2
    go_ret; exact ⟨rfl, (Only.refl [] w).alloc _⟩
  · subst h2
    go_enter Try.func11, Try.ntmps11
    go_wp2
    go_ret; exact ⟨rfl, (Only.refl [] w).alloc _⟩
  · subst h3
    have f0 : (li == 0) = false := by simp; omega
    have g0 : decide (li = 0) = false := by simp; omega
    go_enter Try.func11, Try.ntmps11
    go_wp2
    go_ret; exact ⟨rfl, (Only.refl [] w).alloc _⟩
  · subst h5
    have f0 : decide (li < sl) = false := by simp; omega
    have f1 : (li == 0) = false := by simp; omega
    have g1 : decide (li = 0) = false := by simp; omega
    have f2 : decide (sl < li) = true := by simp; omega
    go_enter Try.func11, Try.ntmps11
    go_wp2
    go_ret; exact ⟨rfl, (Only.refl [] w).alloc _⟩
  · have f0 : decide (li < sl) = false := by simp; omega
    have f1 : (li == 0) = false := by simp; omega
    have g1 : decide (li = 0) = false := by simp; omega
    have f2 : (sq == 0) = false := by simp; omega
    have g2 : decide (sq = 0) = false := by simp; omega
    have f3 : decide (sl < li) = true := by simp; omega
    have f4 : (sq == 1) = false := by simp; omega
    have g4 : decide (sq = 1) = false := by simp; omega
    go_enter Try.func11, Try.ntmps11
    go_wp2
    go_ret; exact ⟨rfl, (Only.refl [] w).alloc _⟩
  · subst h5
    have f9 : (sq == 0) = false := by simp; omega
    have g9 : decide (sq = 0) = false := by simp; omega
    have f0 : decide (li < sl) = false := by simp; omega
    have f1 : (li == 0) = false := by simp; omega
    have g1 : decide (li = 0) = false := by simp; omega
    have f2 : decide (sl < li) = false := by simp; omega
    go_enter Try.func11, Try.ntmps11
    go_wp2
    go_region
    go_wp2
    go_ret; exact ⟨rfl, ((Only.refl [] w).alloc _).drew⟩
  · have h8 : ¬ sq = ss := by omega
    have f0 : decide (li < sl) = false := by simp; omega
    have f1 : (li == 0) = false := by simp; omega
    have g1 : decide (li = 0) = false := by simp; omega
    have f2 : (sq == 0) = false := by simp; omega
    have g2 : decide (sq = 0) = false := by simp; omega
    have f3 : decide (sl < li) = false := by simp; omega
    have f4 : (sq == ss) = false := by simp; omega
    have g4 : decide (sq = ss) = false := by simp; omega
    have f5 : decide (sq < ss) = false := by simp; omega
    have f6 : (sq == ss + 1) = true := by simp; omega
    have g6 : decide (sq = ss + 1) = true := by simp; omega
    clear h6
    go_enter Try.func11, Try.ntmps11
    go_wp2
    go_region
    go_wp2
    go_ret; exact ⟨rfl, ((Only.refl [] w).alloc _).drew⟩
  · have f0 : decide (li < sl) = false := by simp; omega
    have f1 : (li == 0) = false := by simp; omega
    have g1 : decide (li = 0) = false := by simp; omega
    have f2 : (sq == 0) = false := by simp; omega
    have g2 : decide (sq = 0) = false := by simp; omega
    have f3 : decide (sl < li) = false := by simp; omega
    have f4 : (sq == ss) = false := by simp; omega
    have g4 : decide (sq = ss) = false := by simp; omega
    have f5 : decide (sq < ss) = true := by simp; omega
    go_enter Try.func11, Try.ntmps11
    go_wp2
    go_region
    go_wp2
    go_ret; exact ⟨rfl, ((Only.refl [] w).alloc _).drew⟩
  · have f0 : decide (li < sl) = false := by simp; omega
    have f1 : (li == 0) = false := by simp; omega
    have g1 : decide (li = 0) = false := by simp; omega
    have f2 : (sq == 0) = false := by simp; omega
    have g2 : decide (sq = 0) = false := by simp; omega
    have f3 : decide (sl < li) = false := by simp; omega
    have f4 : (sq == ss) = false := by simp; omega
    have g4 : decide (sq = ss) = false := by simp; omega
    have f5 : decide (sq < ss) = false := by simp; omega
    have f6 : (sq == ss + 1) = false := by simp; omega
    have g6 : decide (sq = ss + 1) = false := by simp; omega
    go_enter Try.func11, Try.ntmps11
    go_wp2
    go_region
    go_wp2
    go_ret; exact ⟨rfl, ((Only.refl [] w).alloc _).drew⟩

end Go.Proofs.Ytjogdilkdnnhnaa
