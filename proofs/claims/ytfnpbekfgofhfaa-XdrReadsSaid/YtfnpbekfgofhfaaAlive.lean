/- What every law asks first: 'alive'. -/
import Derived.Test.YtfnpbekfgofhfaaRd4
namespace Go.Proofs.Ytfnpbekfgofhfaa
open Go.RowKit

theorem i64_range {n : Int} (h : (Lit.int .i64 n).wf = true) : -9223372036854775808 ≤ n ∧ n ≤ 9223372036854775807 := by
  have e1 : IntKind.i64.min = -9223372036854775808 := by decide +kernel
  have e2 : IntKind.i64.max = 9223372036854775807 := by decide +kernel
  simp only [Lit.wf, Bool.and_eq_true, decide_eq_true_eq] at h
  omega
theorem u64_range {n : Int} (h : (Lit.int .u64 n).wf = true) : 0 ≤ n ∧ n < 18446744073709551616 := by
  have e1 : IntKind.u64.min = 0 := by decide +kernel
  have e2 : IntKind.u64.max = 18446744073709551615 := by decide +kernel
  simp only [Lit.wf, Bool.and_eq_true, decide_eq_true_eq] at h
  omega
theorem u32_range {n : Int} (h : (Lit.int .u32 n).wf = true) : 0 ≤ n ∧ n < 4294967296 := by
  have e1 : IntKind.u32.min = 0 := by decide +kernel
  have e2 : IntKind.u32.max = 4294967295 := by decide +kernel
  simp only [Lit.wf, Bool.and_eq_true, decide_eq_true_eq] at h
  omega

theorem Wr.new (w : World) : Wr (w.alloc (.cells #[.slice none 0 0] 27)) w.heap.size [] [] :=
  ⟨.slice none 0 0, Blk.new w _ _, World.ownsRow_nil _ 0 _ 1, by simp [Value.ownBlock], by simp [Value.ownBlock]⟩

theorem Wrote.parts {w w' : World} {p : Nat} {F : List Nat} {bs : List UInt8} (h : Wrote w w' p F bs) :
    ∃ F', Wr w' p F' bs ∧ Only (p :: F) w w' ∧ Hid (∀ k ∈ F', k ∈ F ∨ w.heap.size ≤ k) ∧ Hid (∀ k ∈ F', k < w'.heap.size) := by
  obtain ⟨F', ⟨v, h1, h2, h3, h4⟩, k, hF⟩ := h
  refine ⟨v.ownBlock.toList, ⟨v, h1, h2, h3, fun k hk => by simp [hk]⟩, k, fun i hi => ?_, fun i hi => ?_⟩
  · exact hF i (h4 i (by simpa using hi))
  · exact (h2.lt i (by simpa using hi)).2

def aliveBytes : List UInt8 := [0, 0, 0, 5, 97, 98, 99, 100, 101, 0, 0, 0, 0, 0, 0, 2, 0, 0, 0, 1, 0, 0, 0, 2]
theorem alive_w1 : [] ++ encT [97, 98, 99, 100, 101] ++ encL [1, 2] = aliveBytes := by decide
theorem alive_r1 : rText 9 aliveBytes 0 = ([97, 98, 99, 100, 101], [0, 0, 0, 2, 0, 0, 0, 1, 0, 0, 0, 2], 0) := by decide
theorem alive_r2 : rList 9 [0, 0, 0, 2, 0, 0, 0, 1, 0, 0, 0, 2] 0 = ([1, 2], [], 0) := by decide
theorem alive_r3 : rEnd [] 0 = 0 := by decide
theorem alive_str : strOf aliveBytes = ⟨#[0, 0, 0, 5, 97, 98, 99, 100, 101, 0, 0, 0, 0, 0, 0, 2, 0, 0, 0, 1, 0, 0, 0, 2]⟩ := rfl
theorem alive_str5 : strOf (rText 9 aliveBytes 0).1 = ⟨#[97, 98, 99, 100, 101]⟩ := by rw [alive_r1]; rfl

/-- Two numbers laid as a slice's literal. -/
theorem nums_lit (w : World) (S : List Nat) (a b : Nat) (hS : w.heap.size ∉ S) : Nums (w.alloc (.cells #[.int .u32 (a : Int), .int .u32 (b : Int)] 44)) S (some ⟨w.heap.size, 0, none⟩) [a, b] := by
  refine .inr ⟨_, _, rfl, hS, fun j hj => ?_⟩
  rw [Nat.zero_add, (Blk.new w _ _).cell j]
  match j, hj with
  | 0, _ => rfl
  | 1, _ => rfl

theorem alive_any (w : World) : Calls Try.prog 10 #[] w fun e w' => e = .returned (.bool true) ∧ Only [] w w' := by
  have h0 := Wr.new w
  have k0 : Only [] w (w.alloc (.cells #[.slice none 0 0] 27)) := (Only.refl [] w).alloc _
  go_enter Try.func10, Try.ntmps10
  go_wp2_with fail
  refine (wtext_any _ w.heap.size [] [] _ h0 (by decide)).mono ?_
  rintro e w1 ⟨rfl, hw1⟩
  obtain ⟨F1, h1, k1, f1, z1⟩ := hw1.parts
  have g1 : Only [] w w1 := k0.then k1 (by simp)
  have p1 := h1.lt
  have n1 := nums_lit w1 (w.heap.size :: F1) 1 2 (by
    intro hm
    rcases List.mem_cons.1 hm with h | h
    · omega
    · have := z1.out _ h; omega)
  have k2 : Only [] w1 (w1.alloc (.cells #[.int .u32 1, .int .u32 2] 44)) := (Only.refl [] w1).alloc _
  clear hw1 k1 h0 k0
  go_wp2_with fail
  refine (wlist_any _ w.heap.size F1 _ _ 2 [1, 2] (h1.kept k2 (by simp) (by simp)) n1 (by decide) (by decide)).mono ?_
  rintro e w2 ⟨rfl, hw2⟩
  rw [alive_w1] at hw2
  obtain ⟨F2, h2, k3, f2, z2⟩ := hw2.parts
  have g2 : Only [] w w2 := (g1.trans k2).then k3 (fun i hi => by
    rcases List.mem_cons.1 hi with rfl | hi
    · exact .inr (Nat.le_refl _)
    · rcases f1.out i hi with h | h
      · simp at h
      · simp at h; exact .inr (by omega))
  clear hw2 h1 n1 f1 z1 k2 k3 g1
  go_wp2_with fail
  refine (bytes_any _ w.heap.size F2 _ h2).mono ?_
  rintro e w3 ⟨rfl, rfl⟩
  rw [alive_str]
  go_wp2_with fail
  refine (newReader_any _ _ (by decide)).mono ?_
  rintro e w3 ⟨p, g, rfl, hr, hp, hg, k4⟩
  change Rd w3 p g aliveBytes 0 at hr
  have g3 : Only [] w w3 := g2.trans k4
  have h3 := h2.kept k4 (by simp) (by simp)
  have hpw : w.heap.size ≠ p := by have := h2.lt; omega
  have hpF : p ∉ F2 := fun h => by have := z2.out _ h; omega
  have hwp : w.heap.size ≤ p := by have := g2.size; omega
  clear h2 g2 k4 f2
  go_wp2_with fail
  refine (rtext_any _ p g _ 0 9 (by decide) hr).mono ?_
  rintro e w4 ⟨rfl, hr4, k5⟩
  rw [alive_str5]
  rw [alive_r1] at hr4
  have g4 : Only [] w w4 := g3.then k5 (by simpa using hwp)
  have h4 := h3.kept k5 (by simpa using hpw) (by simpa using fun i hi (e : i = p) => hpF (e ▸ hi))
  clear hr k5 h3 g3
  go_wp2_with fail
  refine (rlist_any _ p g _ 0 9 (by decide) (by decide) hr4).mono ?_
  rintro e w5 ⟨A, c, rfl, hl, hr5, k6⟩
  rw [alive_r2] at hr5 ⊢
  have g5 : Only [] w w5 := g4.then k6 (by simpa using hwp)
  have h5 := h4.kept k6 (by simpa using hpw) (by simpa using fun i hi (e : i = p) => hpF (e ▸ hi))
  clear hr4 k6 h4 g4 hl
  go_wp2_with fail
  refine (bytes_any _ w.heap.size F2 _ h5).mono ?_
  rintro e w6 ⟨rfl, rfl⟩
  rw [alive_str]
  go_wp2_with fail
  refine (rend_any _ p g [] 0 hr5).mono ?_
  rintro e w6 ⟨rfl, hr6, k6⟩
  rw [alive_r3]
  have g6 : Only [] w w6 := g5.then k6 (by simpa using hwp)
  go_wp2
  go_ret
  exact ⟨rfl, g6⟩

end Go.Proofs.Ytfnpbekfgofhfaa
