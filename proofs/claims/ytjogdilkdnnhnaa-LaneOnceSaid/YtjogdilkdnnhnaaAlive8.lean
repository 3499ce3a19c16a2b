/- What every right program answers. -/
import Derived.Test.YtjogdilkdnnhnaaHear
namespace Go.Proofs.Ytjogdilkdnnhnaa
open Go.RowKit

theorem u_lit {n : Nat} (h : n ≤ 4294967295) : U (n : Int) := ⟨by omega, by omega⟩
theorem i_lit {n : Nat} (h : n ≤ 4294967295) : I (n : Int) := ⟨by omega, by omega⟩

def ln0 : Ln := ⟨1, 2, 4, false, ⟨#[]⟩, 0, 0⟩
def ln1 : Ln := ⟨1, 2, 5, true, ⟨#[120]⟩, 1, 1⟩
def ln2 : Ln := ⟨1, 2, 5, true, ⟨#[120]⟩, 2, 2⟩
def ln3 : Ln := ⟨1, 2, 5, false, ⟨#[]⟩, 0, 0⟩
theorem ln0_ok : ln0.Ok := ⟨u_lit (n := 1) (by decide), u_lit (n := 2) (by decide), u_lit (n := 4) (by decide), i_lit (n := 0) (by decide), i_lit (n := 0) (by decide)⟩
theorem ln1_ok : ln1.Ok := ⟨u_lit (n := 1) (by decide), u_lit (n := 2) (by decide), u_lit (n := 5) (by decide), i_lit (n := 1) (by decide), i_lit (n := 1) (by decide)⟩
theorem ask_0 : askL ln0 ⟨#[120]⟩ = ln1 := by simp [askL, ln0, ln1]
theorem ask_e : askE ln0 = 0 := by simp [askE, ln0]
theorem tick_1 : tickL ln1 = ln2 := by simp [tickL, ln1, ln2, gapL]
theorem tick_b : tickB ln1 = true := by simp [tickB, ln1]
theorem hear_2 : hearL ln2 1 2 2 5 = ln3 := by simp [hearL, hears, ln2, ln3]
theorem hear_k : hearK ln2 1 2 2 5 = 1 := by simp [hearK, hears, ln2]
theorem judge_6 : judgeL ⟨1, 5, ⟨#[]⟩⟩ 1 6 = 1 := by simp [judgeL]
theorem done_1 : doneL ⟨0, 0, ⟨#[]⟩⟩ 1 1 ⟨#[114]⟩ = ⟨1, 1, ⟨#[114]⟩⟩ := by simp [doneL, judgeL]

theorem alive_any (w : World) : Calls Try.prog 9 #[] w fun e w' => e = .returned (.bool true) ∧ Only [] w w' := by
  go_enter Try.func9, Try.ntmps9
  go_wp2_with fail
  refine (ask_any ln0 ⟨#[120]⟩ _ ln0_ok).mono ?_; rintro e w1 ⟨rfl, k1⟩
  rw [ask_0, ask_e]
  simp only [ln1]
  go_wp2_with fail
  refine (tick_any ln1 _ ln1_ok).mono ?_; rintro e w2 ⟨rfl, k2⟩
  rw [tick_1, tick_b]
  simp only [ln2]
  obtain ⟨_, _, a2, a3, _, _, _⟩ := (Blk.new w1 30 _).seven k2 (by simp)
  have j2 := k1.trans k2.boxed
  go_wp2_with fail
  refine (hear_any ln2 1 2 2 5 _).mono ?_; rintro e w3 ⟨rfl, k3⟩
  rw [hear_2, hear_k]
  simp only [ln3]
  obtain ⟨_, _, _, _, _, b5, _⟩ := (Blk.new w2 30 _).seven k3 (by simp)
  replace a2 := k3.boxed.cell a2 (by simp)
  replace a3 := k3.boxed.cell a3 (by simp)
  have j3 := j2.trans k3.boxed
  go_wp2_with fail
  refine (judge_any ⟨1, 5, ⟨#[]⟩⟩ 1 6 _ ⟨u_lit (n := 1) (by decide), u_lit (n := 5) (by decide)⟩ (u_lit (n := 1) (by decide)) (u_lit (n := 6) (by decide))).mono ?_; rintro e w4 ⟨rfl, k4⟩
  rw [judge_6]
  obtain ⟨_, _, _, c3, _, _, _⟩ := (Blk.new w3 30 _).seven k4 (by simp)
  replace a2 := k4.boxed.cell a2 (by simp)
  replace a3 := k4.boxed.cell a3 (by simp)
  replace b5 := k4.boxed.cell b5 (by simp)
  have j4 := j3.trans k4.boxed
  go_wp2_with fail
  refine (done_any ⟨0, 0, ⟨#[]⟩⟩ 1 1 ⟨#[114]⟩ _ ⟨u_lit (n := 0) (by decide), u_lit (n := 0) (by decide)⟩ (u_lit (n := 1) (by decide)) (u_lit (n := 1) (by decide))).mono ?_; rintro e w5 ⟨rfl, k5⟩
  rw [done_1]
  go_wp2
  go_ret
  exact ⟨rfl, j4.trans k5⟩

end Go.Proofs.Ytjogdilkdnnhnaa
