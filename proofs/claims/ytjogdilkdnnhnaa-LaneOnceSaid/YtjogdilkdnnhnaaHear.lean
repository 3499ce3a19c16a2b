/- The walks of Hear: the program's, the document's. -/
import Derived.Test.YtjogdilkdnnhnaaAsk
import Derived.Test.YtjogdilkdnnhnaaChecked
import Derived.Tactics
import Derived.Tactics2
import Derived.StillTactics
import Derived.RegionTactic
import Derived.WalkKit
import Derived.WalkLawsBesides
import Derived.WalkSpells
import Derived.Outline
import Derived.Laws.Pointers
import Derived.Laws.Small
import Derived.Laws.Build
import Derived.Laws.Cover3
import Derived.Laws.StructEq
import Derived.KernelRfl
import Derived.Lib.Hide
import Derived.BigQuiet
import Derived.OwnWalk
import Derived.Laws.ResultCell
namespace Go.Proofs.Ytjogdilkdnnhnaa
open Go.RowKit

theorem hear_any (l : Ln) (li bo ak sq : Int) (w : World)  :
    Calls Try.prog 18 #[lnV l, .int .u32 li, .int .u32 bo, .int .u32 ak, .int .u32 sq] w fun e w' => e = .returned (.tuple #[lnV (hearL l li bo ak sq), .int .i64 (hearK l li bo ak sq)]) ∧ Only [] w w' := by
  obtain ⟨x0, x1, x2, x3, x4, x5, x6⟩ := l
  rcases x3 with _ | _
  · have E : hearL ⟨x0, x1, x2, false, x4, x5, x6⟩ li bo ak sq = ⟨x0, x1, x2, false, x4, x5, x6⟩ := by rw [hearL, if_neg (by simp [hears])]
    have E' : hearK ⟨x0, x1, x2, false, x4, x5, x6⟩ li bo ak sq = 0 := by rw [hearK, if_neg (by simp [hears])]
    rw [E, E']
    clear E E'
    go_enter Try.func18, Try.ntmps18
    go_wp2
    refine bodyPost_ret (v := .tuple #[lnV ⟨x0, x1, x2, false, x4, x5, x6⟩, .int .i64 0]) (by rw [results_cell_tmp rfl]; go_simp) rfl ?_
    refine ⟨rfl, ?_⟩
    repeat (first | exact Only.refl _ _ | exact kw | refine Only.alloc ?_ _ | refine Only.setCell ?_ (.inr (by first | exact Nat.le_refl _ | exact Nat.le_add_right _ _ | exact gw)) _)
  by_cases h1 : li = x0
  rotate_left
  · have f0 : (li == x0) = false := by simp; omega
    have g0 : decide (li = x0) = false := by simp; omega
    have E : hearL ⟨x0, x1, x2, true, x4, x5, x6⟩ li bo ak sq = ⟨x0, x1, x2, true, x4, x5, x6⟩ := by rw [hearL, if_neg (by simp [hears, h1])]
    have E' : hearK ⟨x0, x1, x2, true, x4, x5, x6⟩ li bo ak sq = 0 := by rw [hearK, if_neg (by simp [hears, h1])]
    rw [E, E']
    clear E E'
    have m0 : (li != x0) = true := by simp; omega
    go_enter Try.func18, Try.ntmps18
    go_wp2
    refine bodyPost_ret (v := .tuple #[lnV ⟨x0, x1, x2, true, x4, x5, x6⟩, .int .i64 0]) (by rw [results_cell_tmp rfl]; go_simp) rfl ?_
    refine ⟨rfl, ?_⟩
    repeat (first | exact Only.refl _ _ | exact kw | refine Only.alloc ?_ _ | refine Only.setCell ?_ (.inr (by first | exact Nat.le_refl _ | exact Nat.le_add_right _ _ | exact gw)) _)
  subst h1
  by_cases h2 : ak = x1
  rotate_left
  · have f0 : (ak == x1) = false := by simp; omega
    have g0 : decide (ak = x1) = false := by simp; omega
    have E : hearL ⟨li, x1, x2, true, x4, x5, x6⟩ li bo ak sq = ⟨li, x1, x2, true, x4, x5, x6⟩ := by rw [hearL, if_neg (by simp [hears, h2])]
    have E' : hearK ⟨li, x1, x2, true, x4, x5, x6⟩ li bo ak sq = 0 := by rw [hearK, if_neg (by simp [hears, h2])]
    rw [E, E']
    clear E E'
    have m0 : (ak != x1) = true := by simp; omega
    go_enter Try.func18, Try.ntmps18
    go_wp2
    refine bodyPost_ret (v := .tuple #[lnV ⟨li, x1, x2, true, x4, x5, x6⟩, .int .i64 0]) (by rw [results_cell_tmp rfl]; go_simp) rfl ?_
    refine ⟨rfl, ?_⟩
    repeat (first | exact Only.refl _ _ | exact kw | refine Only.alloc ?_ _ | refine Only.setCell ?_ (.inr (by first | exact Nat.le_refl _ | exact Nat.le_add_right _ _ | exact gw)) _)
  subst h2
  by_cases h3 : sq = x2
  rotate_left
  · have f0 : (sq == x2) = false := by simp; omega
    have g0 : decide (sq = x2) = false := by simp; omega
    have E : hearL ⟨li, ak, x2, true, x4, x5, x6⟩ li bo ak sq = ⟨li, ak, x2, true, x4, x5, x6⟩ := by rw [hearL, if_neg (by simp [hears, h3])]
    have E' : hearK ⟨li, ak, x2, true, x4, x5, x6⟩ li bo ak sq = 0 := by rw [hearK, if_neg (by simp [hears, h3])]
    rw [E, E']
    clear E E'
    have m0 : (sq != x2) = true := by simp; omega
    go_enter Try.func18, Try.ntmps18
    go_wp2
    refine bodyPost_ret (v := .tuple #[lnV ⟨li, ak, x2, true, x4, x5, x6⟩, .int .i64 0]) (by rw [results_cell_tmp rfl]; go_simp) rfl ?_
    refine ⟨rfl, ?_⟩
    repeat (first | exact Only.refl _ _ | exact kw | refine Only.alloc ?_ _ | refine Only.setCell ?_ (.inr (by first | exact Nat.le_refl _ | exact Nat.le_add_right _ _ | exact gw)) _)
  subst h3
  by_cases h4 : bo = ak
  · have E : hearL ⟨li, ak, sq, true, x4, x5, x6⟩ li bo ak sq = ⟨li, ak, sq, false, ⟨#[]⟩, 0, 0⟩ := by rw [hearL, if_pos (by simp [hears]), if_pos h4]
    have E' : hearK ⟨li, ak, sq, true, x4, x5, x6⟩ li bo ak sq = 1 := by rw [hearK, if_pos (by simp [hears]), if_pos h4]
    rw [E, E']
    clear E E'
    subst h4
    go_enter Try.func18, Try.ntmps18
    go_wp2
    refine bodyPost_ret (v := .tuple #[lnV ⟨li, bo, sq, false, ⟨#[]⟩, 0, 0⟩, .int .i64 1]) (by rw [results_cell_tmp rfl]; go_simp) rfl ?_
    refine ⟨rfl, ?_⟩
    repeat (first | exact Only.refl _ _ | exact kw | refine Only.alloc ?_ _ | refine Only.setCell ?_ (.inr (by first | exact Nat.le_refl _ | exact Nat.le_add_right _ _ | exact gw)) _)
  · have f0 : (bo == ak) = false := by simp; omega
    have g0 : decide (bo = ak) = false := by simp; omega
    have E : hearL ⟨li, ak, sq, true, x4, x5, x6⟩ li bo ak sq = ⟨li, bo, 0, false, ⟨#[]⟩, 0, 0⟩ := by rw [hearL, if_pos (by simp [hears]), if_neg h4]
    have E' : hearK ⟨li, ak, sq, true, x4, x5, x6⟩ li bo ak sq = 2 := by rw [hearK, if_pos (by simp [hears]), if_neg h4]
    rw [E, E']
    clear E E'
    go_enter Try.func18, Try.ntmps18
    go_wp2
    refine bodyPost_ret (v := .tuple #[lnV ⟨li, bo, 0, false, ⟨#[]⟩, 0, 0⟩, .int .i64 2]) (by rw [results_cell_tmp rfl]; go_simp) rfl ?_
    refine ⟨rfl, ?_⟩
    repeat (first | exact Only.refl _ _ | exact kw | refine Only.alloc ?_ _ | refine Only.setCell ?_ (.inr (by first | exact Nat.le_refl _ | exact Nat.le_add_right _ _ | exact gw)) _)

theorem rhear_any (l : Ln) (li bo ak sq : Int) (w : World)  :
    Calls Try.prog 19 #[lnV l, .int .u32 li, .int .u32 bo, .int .u32 ak, .int .u32 sq] w fun e w' => e = .returned (.tuple #[lnV (hearL l li bo ak sq), .int .i64 (hearK l li bo ak sq)]) ∧ Only [] w w' := by
  obtain ⟨x0, x1, x2, x3, x4, x5, x6⟩ := l
  rcases x3 with _ | _
  · have E : hearL ⟨x0, x1, x2, false, x4, x5, x6⟩ li bo ak sq = ⟨x0, x1, x2, false, x4, x5, x6⟩ := by rw [hearL, if_neg (by simp [hears])]
    have E' : hearK ⟨x0, x1, x2, false, x4, x5, x6⟩ li bo ak sq = 0 := by rw [hearK, if_neg (by simp [hears])]
    rw [E, E']
    clear E E'
    go_enter Try.func19, Try.ntmps19
    go_wp2
    refine bodyPost_ret (v := .tuple #[lnV ⟨x0, x1, x2, false, x4, x5, x6⟩, .int .i64 0]) (by rw [results_cell_tmp rfl]; go_simp) rfl ?_
    refine ⟨rfl, ?_⟩
    repeat (first | exact Only.refl _ _ | exact kw | refine Only.alloc ?_ _ | refine Only.setCell ?_ (.inr (by first | exact Nat.le_refl _ | exact Nat.le_add_right _ _ | exact gw)) _)
  by_cases h1 : li = x0
  rotate_left
  · have f0 : (li == x0) = false := by simp; omega
    have g0 : decide (li = x0) = false := by simp; omega
    have E : hearL ⟨x0, x1, x2, true, x4, x5, x6⟩ li bo ak sq = ⟨x0, x1, x2, true, x4, x5, x6⟩ := by rw [hearL, if_neg (by simp [hears, h1])]
    have E' : hearK ⟨x0, x1, x2, true, x4, x5, x6⟩ li bo ak sq = 0 := by rw [hearK, if_neg (by simp [hears, h1])]
    rw [E, E']
    clear E E'
    have m0 : (li != x0) = true := by simp; omega
    go_enter Try.func19, Try.ntmps19
    go_wp2
    refine bodyPost_ret (v := .tuple #[lnV ⟨x0, x1, x2, true, x4, x5, x6⟩, .int .i64 0]) (by rw [results_cell_tmp rfl]; go_simp) rfl ?_
    refine ⟨rfl, ?_⟩
    repeat (first | exact Only.refl _ _ | exact kw | refine Only.alloc ?_ _ | refine Only.setCell ?_ (.inr (by first | exact Nat.le_refl _ | exact Nat.le_add_right _ _ | exact gw)) _)
  subst h1
  by_cases h2 : ak = x1
  rotate_left
  · have f0 : (ak == x1) = false := by simp; omega
    have g0 : decide (ak = x1) = false := by simp; omega
    have E : hearL ⟨li, x1, x2, true, x4, x5, x6⟩ li bo ak sq = ⟨li, x1, x2, true, x4, x5, x6⟩ := by rw [hearL, if_neg (by simp [hears, h2])]
    have E' : hearK ⟨li, x1, x2, true, x4, x5, x6⟩ li bo ak sq = 0 := by rw [hearK, if_neg (by simp [hears, h2])]
    rw [E, E']
    clear E E'
    have m0 : (ak != x1) = true := by simp; omega
    go_enter Try.func19, Try.ntmps19
    go_wp2
    refine bodyPost_ret (v := .tuple #[lnV ⟨li, x1, x2, true, x4, x5, x6⟩, .int .i64 0]) (by rw [results_cell_tmp rfl]; go_simp) rfl ?_
    refine ⟨rfl, ?_⟩
    repeat (first | exact Only.refl _ _ | exact kw | refine Only.alloc ?_ _ | refine Only.setCell ?_ (.inr (by first | exact Nat.le_refl _ | exact Nat.le_add_right _ _ | exact gw)) _)
  subst h2
  by_cases h3 : sq = x2
  rotate_left
  · have f0 : (sq == x2) = false := by simp; omega
    have g0 : decide (sq = x2) = false := by simp; omega
    have E : hearL ⟨li, ak, x2, true, x4, x5, x6⟩ li bo ak sq = ⟨li, ak, x2, true, x4, x5, x6⟩ := by rw [hearL, if_neg (by simp [hears, h3])]
    have E' : hearK ⟨li, ak, x2, true, x4, x5, x6⟩ li bo ak sq = 0 := by rw [hearK, if_neg (by simp [hears, h3])]
    rw [E, E']
    clear E E'
    have m0 : (sq != x2) = true := by simp; omega
    go_enter Try.func19, Try.ntmps19
    go_wp2
    refine bodyPost_ret (v := .tuple #[lnV ⟨li, ak, x2, true, x4, x5, x6⟩, .int .i64 0]) (by rw [results_cell_tmp rfl]; go_simp) rfl ?_
    refine ⟨rfl, ?_⟩
    repeat (first | exact Only.refl _ _ | exact kw | refine Only.alloc ?_ _ | refine Only.setCell ?_ (.inr (by first | exact Nat.le_refl _ | exact Nat.le_add_right _ _ | exact gw)) _)
  subst h3
  by_cases h4 : bo = ak
  · have E : hearL ⟨li, ak, sq, true, x4, x5, x6⟩ li bo ak sq = ⟨li, ak, sq, false, ⟨#[]⟩, 0, 0⟩ := by rw [hearL, if_pos (by simp [hears]), if_pos h4]
    have E' : hearK ⟨li, ak, sq, true, x4, x5, x6⟩ li bo ak sq = 1 := by rw [hearK, if_pos (by simp [hears]), if_pos h4]
    rw [E, E']
    clear E E'
    subst h4
    go_enter Try.func19, Try.ntmps19
    go_wp2
    refine bodyPost_ret (v := .tuple #[lnV ⟨li, bo, sq, false, ⟨#[]⟩, 0, 0⟩, .int .i64 1]) (by rw [results_cell_tmp rfl]; go_simp) rfl ?_
    refine ⟨rfl, ?_⟩
    repeat (first | exact Only.refl _ _ | exact kw | refine Only.alloc ?_ _ | refine Only.setCell ?_ (.inr (by first | exact Nat.le_refl _ | exact Nat.le_add_right _ _ | exact gw)) _)
  · have f0 : (bo == ak) = false := by simp; omega
    have g0 : decide (bo = ak) = false := by simp; omega
    have E : hearL ⟨li, ak, sq, true, x4, x5, x6⟩ li bo ak sq = ⟨li, bo, 0, false, ⟨#[]⟩, 0, 0⟩ := by rw [hearL, if_pos (by simp [hears]), if_neg h4]
    have E' : hearK ⟨li, ak, sq, true, x4, x5, x6⟩ li bo ak sq = 2 := by rw [hearK, if_pos (by simp [hears]), if_neg h4]
    rw [E, E']
    clear E E'
    go_enter Try.func19, Try.ntmps19
    go_wp2
    refine bodyPost_ret (v := .tuple #[lnV ⟨li, bo, 0, false, ⟨#[]⟩, 0, 0⟩, .int .i64 2]) (by rw [results_cell_tmp rfl]; go_simp) rfl ?_
    refine ⟨rfl, ?_⟩
    repeat (first | exact Only.refl _ _ | exact kw | refine Only.alloc ?_ _ | refine Only.setCell ?_ (.inr (by first | exact Nat.le_refl _ | exact Nat.le_add_right _ _ | exact gw)) _)


end Go.Proofs.Ytjogdilkdnnhnaa
