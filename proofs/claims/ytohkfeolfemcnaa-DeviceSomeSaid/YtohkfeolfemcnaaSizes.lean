/- The walk of DeviceSizes. -/
import Derived.Test.YtohkfeolfemcnaaAlive
namespace Go.Proofs.Ytohkfeolfemcnaa
open Go.RowKit

theorem fresh_in (n : Nat) (k : Int) (h : 0 ≤ k ∧ k < (n : Int)) : readB (fresh n) k = rep 256 0 ∧ readErr (fresh n) k = 0 ∧ firmB (fresh n) k = rep 256 0 := by
  have h1 : hasBlock (fresh n).firm.length k = true := by rw [fresh_firm]; simp [hasBlock, h]
  have h2 : (fresh n).dead = false := rfl
  have h3 : (fresh n).firm[k.toNat]?.getD [] = rep 256 0 := by
    simp only [fresh, List.getElem?_replicate]
    rw [if_pos (by omega)]
    rfl
  have h4 : (fresh n).late = [] := rfl
  refine ⟨?_, ?_, ?_⟩
  · simp [readB, h1, h2, h4, nowOf_nil, h3]
  · simp [readErr, h1, h2]
  · simp [firmB, h1, h3]
theorem fresh_out (n : Nat) (k : Int) (h : ¬ (0 ≤ k ∧ k < (n : Int))) : readB (fresh n) k = [] ∧ readErr (fresh n) k = 1 ∧ firmB (fresh n) k = [] := by
  have h1 : hasBlock (fresh n).firm.length k = false := by rw [fresh_firm]; simp only [hasBlock, decide_eq_false_iff_not]; exact h
  refine ⟨?_, ?_, ?_⟩
  · simp [readB, h1]
  · simp [readErr, h1]
  · simp [firmB, h1]

set_option maxRecDepth 100000 in
set_option maxHeartbeats 4000000 in
theorem deviceSizes_walk (w : World) (k a : Int) (k0 : -9223372036854775808 ≤ k) (k1 : k ≤ 9223372036854775807) (a0 : -9223372036854775808 ≤ a) (a1 : a ≤ 9223372036854775807) :
    Calls Try.prog 4 #[.int .i64 k, .int .i64 a] w fun e w' => e = .returned (.bool true) ∧ Only [] w w' := by
  obtain ⟨n, hn⟩ : ∃ n, n = clamp k := ⟨_, rfl⟩
  have hcl : (k < 1 → n = 1) ∧ (1024 < k → n = 1024) ∧ (1 ≤ k → k ≤ 1024 → (n : Int) = k) := by
    rw [hn]
    unfold clamp
    refine ⟨fun h => ?_, fun h => ?_, fun h h' => ?_⟩ <;> omega
  have hE : strOf [] = ⟨#[]⟩ := rfl
  have h00 : ((0 : UInt8).toNat : Int) = 0 := rfl
  obtain ⟨x, hx⟩ : ∃ x, x = strOf (rep 256 0) := ⟨_, rfl⟩
  have hxne : ¬ x = ⟨#[]⟩ := by
    intro h
    have h2 := strOf_size (rep 256 0)
    rw [← hx, h, rep_length] at h2
    exact absurd h2 (by decide)
  replace hn := Lib.hid hn
  go_enter Try.func4, Try.ntmps4
  go_wp2_with fail
  refine (alive_any w).mono ?_
  rintro e w1 ⟨rfl, g1⟩
  go_wp2_with fail
  refine (Run.new w w1 k k0 k1 g1).mono ?_
  rintro e w2 ⟨p, rfl, h2⟩
  rw [← hn.out] at h2
  have hread := h2.read a
  have hset := h2.settled a
  have hcl1 : ∀ L : Int, (L = 1 ∧ k < 1) ∨ (L = 1024 ∧ 1024 < k) ∨ (L = k ∧ 1 ≤ k ∧ k ≤ 1024) → L = (n : Int) := by omega
  replace hcl1 := Lib.hid hcl1
  replace hcl := Lib.hid hcl
  by_cases hin : 0 ≤ a ∧ a < (n : Int)
  · obtain ⟨f1, f2, f3⟩ := fresh_in n a hin
    rw [f1, f2, ← hx] at hread
    rw [f3, ← hx] at hset
    replace hx := Lib.hid hx
    go_wp2_with fail
    all_goals
      refine hread.mono ?_
      rintro e w3 ⟨rfl, rfl⟩
      go_wp2_with fail
    all_goals try (exfalso; have := hcl.out; omega)
    all_goals
      refine (block_any _ 0 256 (by decide)).mono ?_
      rintro e w4 ⟨rfl, k4⟩
      have h4 := h2.only k4
      clear h2 hread hset k4
      rw [← hx.out]
      go_wp2_with fail
      refine (h4.settled a).mono ?_
      rintro e w5 ⟨rfl, rfl⟩
      rw [f3, ← hx.out]
      go_wp2_with fail
      refine (fuse_nil _ a).mono ?_
      rintro e w5 ⟨rfl, rfl⟩
      go_wp2_with fail
      refine (crash_nil _ 1).mono ?_
      rintro e w6 ⟨rfl, rfl⟩
      go_wp2_with fail
      refine (read_nil _ a).mono ?_
      rintro e w7 ⟨rfl, rfl⟩
      rw [hE]
      go_wp2_with fail
      refine (alive_any _).mono ?_
      rintro e w8 ⟨rfl, g8⟩
      have h8 := h4.only g8
      clear h4 g8
      go_wp2_with fail
      refine (h8.blocks).mono ?_
      rintro e w9 ⟨rfl, rfl⟩
      rw [fresh_firm]
      have hL := hcl.out
      go_wp2_with fail
      refine (h8.dead).mono ?_
      rintro e w10 ⟨rfl, rfl⟩
      rw [show (fresh n).dead = false from rfl]
      clear hL
      go_wp2_with fail
      refine (blocks_nil _).mono ?_
      rintro e w11 ⟨rfl, rfl⟩
      go_wp2_with fail
      refine (dead_nil _).mono ?_
      rintro e w12 ⟨rfl, rfl⟩
      go_wp2_with fail
      refine (write_nil _ a _).mono ?_
      rintro e w13 ⟨rfl, rfl⟩
      go_wp2_with fail
      refine (barrier_nil _).mono ?_
      rintro e w14 ⟨rfl, rfl⟩
      go_wp2_with fail
      refine (unsettled_nil _).mono ?_
      rintro e w15 ⟨rfl, rfl⟩
      go_wp2_with fail
      refine (settled_nil _ a).mono ?_
      rintro e w16 ⟨rfl, rfl⟩
      rw [hE]
      go_wp2
      go_ret
      obtain ⟨F, _, k, _⟩ := h8
      exact ⟨rfl, k⟩
  · obtain ⟨f1, f2, f3⟩ := fresh_out n a hin
    rw [f1, f2, hE] at hread
    rw [f3, hE] at hset
    go_wp2_with fail
    all_goals
      refine hread.mono ?_
      rintro e w3 ⟨rfl, rfl⟩
      go_wp2_with fail
    all_goals try (exfalso; have := hcl.out; omega)
    all_goals
      have h4 := h2.only (Only.refl [] _)
      clear h2 hread
      refine hset.mono ?_
      rintro e w5 ⟨rfl, rfl⟩
      clear hset
      go_wp2_with fail
      refine (fuse_nil _ a).mono ?_
      rintro e w5 ⟨rfl, rfl⟩
      go_wp2_with fail
      refine (crash_nil _ 1).mono ?_
      rintro e w6 ⟨rfl, rfl⟩
      go_wp2_with fail
      refine (read_nil _ a).mono ?_
      rintro e w7 ⟨rfl, rfl⟩
      rw [hE]
      go_wp2_with fail
      refine (alive_any _).mono ?_
      rintro e w8 ⟨rfl, g8⟩
      have h8 := h4.only g8
      clear h4 g8
      go_wp2_with fail
      refine (h8.blocks).mono ?_
      rintro e w9 ⟨rfl, rfl⟩
      rw [fresh_firm]
      have hL := hcl.out
      go_wp2_with fail
      refine (h8.dead).mono ?_
      rintro e w10 ⟨rfl, rfl⟩
      rw [show (fresh n).dead = false from rfl]
      clear hL
      go_wp2_with fail
      refine (blocks_nil _).mono ?_
      rintro e w11 ⟨rfl, rfl⟩
      go_wp2_with fail
      refine (dead_nil _).mono ?_
      rintro e w12 ⟨rfl, rfl⟩
      go_wp2_with fail
      refine (write_nil _ a _).mono ?_
      rintro e w13 ⟨rfl, rfl⟩
      go_wp2_with fail
      refine (barrier_nil _).mono ?_
      rintro e w14 ⟨rfl, rfl⟩
      go_wp2_with fail
      refine (unsettled_nil _).mono ?_
      rintro e w15 ⟨rfl, rfl⟩
      go_wp2_with fail
      refine (settled_nil _ a).mono ?_
      rintro e w16 ⟨rfl, rfl⟩
      rw [hE]
      go_wp2
      go_ret
      obtain ⟨F, _, k, _⟩ := h8
      exact ⟨rfl, k⟩

end Go.Proofs.Ytohkfeolfemcnaa
