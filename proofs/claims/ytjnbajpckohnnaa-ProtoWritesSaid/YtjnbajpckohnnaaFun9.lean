/- The small functions of package proto. -/
import Derived.Test.YtjnbajpckohnnaaTab9
import Derived.Test.YtjnbajpckohnnaaChecked
import Derived.Tactics
import Derived.Tactics2
import Derived.StillTactics
import Derived.StillTailTactics
import Derived.RegionTactic
import Derived.WalkKit
import Derived.WalkLawsBesides
import Derived.WalkSpells
import Derived.Outline
import Derived.Laws.Pointers
import Derived.Laws.Small
import Derived.Laws.Build
import Derived.Laws.Cover3
import Derived.Laws.StructEq
import Derived.KernelRfl
import Derived.Lib.Hide
import Derived.BigQuiet
import Derived.BigRegion
import Derived.OwnWalk
import Derived.LoopTactic
import Derived.Laws.ResultCell
namespace Go.Proofs.Ytjnbajpckohnnaa
open Go.RowKit

theorem node_any (w : World) (n : Int) : Calls Try.prog 20 #[.int .i64 n] w fun e w' => e = .returned (.bool (decide (0 ≤ n ∧ n ≤ 255))) ∧ w = w' := by
  by_cases h0 : 0 ≤ n
  · by_cases h1 : n ≤ 255
    · rw [show decide (0 ≤ n ∧ n ≤ 255) = true by simp; omega]
      have f0 : decide (0 ≤ n) = true := by simp; omega
      have f1 : decide (n ≤ 255) = true := by simp; omega
      go_enter Try.func20, Try.ntmps20
      go_wp2
      go_ret
      exact ⟨rfl, rfl⟩
    · rw [show decide (0 ≤ n ∧ n ≤ 255) = false by simp; omega]
      have f0 : decide (0 ≤ n) = true := by simp; omega
      have f1 : decide (n ≤ 255) = false := by simp; omega
      go_enter Try.func20, Try.ntmps20
      go_wp2
      go_ret
      exact ⟨rfl, rfl⟩
  · rw [show decide (0 ≤ n ∧ n ≤ 255) = false by simp; omega]
    have f0 : decide (0 ≤ n) = false := by simp; omega
    go_enter Try.func20, Try.ntmps20
    go_wp2
    go_ret
    exact ⟨rfl, rfl⟩

theorem known_no (c : Int) (h : ¬ knownP c) : ¬ c = 1 ∧ ¬ c = 2 ∧ ¬ c = 3 ∧ ¬ c = 4 ∧ ¬ c = 5 ∧ ¬ c = 11 ∧ ¬ c = 12 ∧ ¬ c = 13 ∧ ¬ c = 14 ∧ ¬ c = 15 ∧ ¬ c = 16 ∧ ¬ c = 17 ∧ ¬ c = 18 ∧ ¬ c = 19 ∧ ¬ c = 20 ∧ ¬ c = 21 ∧ ¬ c = 22 ∧ ¬ c = 23 ∧ ¬ c = 24 ∧ ¬ c = 30 := by
  unfold knownP at h
  omega
theorem known_yes (c : Int) (h : knownP c) : c = 1 ∨ c = 2 ∨ c = 3 ∨ c = 4 ∨ c = 5 ∨ c = 11 ∨ c = 12 ∨ c = 13 ∨ c = 14 ∨ c = 15 ∨ c = 16 ∨ c = 17 ∨ c = 18 ∨ c = 19 ∨ c = 20 ∨ c = 21 ∨ c = 22 ∨ c = 23 ∨ c = 24 ∨ c = 30 := by
  unfold knownP at h
  omega
theorem known_any (w : World) (c : Int) : Calls Try.prog 21 #[.int .i64 c] w fun e w' => e = .returned (.bool (decide (knownP c))) ∧ w = w' := by
  by_cases h : knownP c
  · rw [show decide (knownP c) = true by simpa using h]
    have hy := known_yes c h
    clear h
    rcases hy with h | h | h | h | h | h | h | h | h | h | h | h | h | h | h | h | h | h | h | h
    all_goals
      subst h
      go_enter Try.func21, Try.ntmps21
      go_wp2
      go_ret
      exact ⟨rfl, rfl⟩
  · rw [show decide (knownP c) = false by simpa using h]
    obtain ⟨h1, h2, h3, h4, h5, h11, h12, h13, h14, h15, h16, h17, h18, h19, h20, h21, h22, h23, h24, h30⟩ := known_no c h
    clear h
    have f1 : (c == 1) = false := by simpa using h1
    have f2 : (c == 2) = false := by simpa using h2
    have f3 : (c == 3) = false := by simpa using h3
    have f4 : (c == 4) = false := by simpa using h4
    have f5 : (c == 5) = false := by simpa using h5
    have f11 : (c == 11) = false := by simpa using h11
    have f12 : (c == 12) = false := by simpa using h12
    have f13 : (c == 13) = false := by simpa using h13
    have f14 : (c == 14) = false := by simpa using h14
    have f15 : (c == 15) = false := by simpa using h15
    have f16 : (c == 16) = false := by simpa using h16
    have f17 : (c == 17) = false := by simpa using h17
    have f18 : (c == 18) = false := by simpa using h18
    have f19 : (c == 19) = false := by simpa using h19
    have f20 : (c == 20) = false := by simpa using h20
    have f21 : (c == 21) = false := by simpa using h21
    have f22 : (c == 22) = false := by simpa using h22
    have f23 : (c == 23) = false := by simpa using h23
    have f24 : (c == 24) = false := by simpa using h24
    have f30 : (c == 30) = false := by simpa using h30
    go_enter Try.func21, Try.ntmps21
    go_wp2
    go_ret
    exact ⟨rfl, rfl⟩

/-- Numbers that fit into 32 bits are the same there. -/
theorem wrap_u {x : Int} (h : U x) : IntKind.u32.wrap x = x := by
  obtain ⟨a, b⟩ := h
  rw [IntKind.wrap_u32]
  omega
theorem wrap_i {x : Int} (h : U x) : IntKind.i64.wrap x = x := by
  obtain ⟨a, b⟩ := h
  rw [IntKind.wrap_i64]
  omega

theorem counted_any (w : World) (p : Pk) (h0 : U p.kind) (h1 : U p.frm) (h2 : U p.to) (h3 : U p.code) (h4 : U p.err) :
    Calls Try.prog 14 #[pkV p] w fun e w' => e = .returned (cV p) ∧ Only [] w w' := by
  replace h0 := wrap_u h0
  replace h1 := wrap_u h1
  replace h2 := wrap_u h2
  replace h3 := wrap_u h3
  replace h4 := wrap_u h4
  obtain ⟨x0, x1, x2, x3, x4, x5, x6, x7, x8, x9, x10, x11, x12, x13, x14, x15, x16, x17, x18, x19⟩ := p
  simp only at h0 h1 h2 h3 h4
  go_enter Try.func14, Try.ntmps14
  go_wp2
  refine bodyPost_ret (v := .agg #[.int .u32 x0, .int .u32 x1, .int .u32 x2, .int .u32 x7, .int .u32 x8]) (by rw [results_cell rfl]; go_simp) rfl ?_
  refine ⟨rfl, ?_⟩
  have gw : w.heap.size ≤ w.heap.size + 1 := Nat.le_add_right _ _
  repeat (first | exact Only.refl _ _ | refine Only.alloc ?_ _ | refine Only.setCell ?_ (.inr (by first | exact Nat.le_refl _ | exact Nat.le_add_right _ _ | exact gw)) _)

end Go.Proofs.Ytjnbajpckohnnaa
