/- Joined: Fun9, Fun9b, Right9. -/
import Derived.Test.YtalkhhjfplahkaaGreatKB
import Derived.Test.YtalkhhjfplahkaaGreatChecked
import Derived.Tactics
import Derived.Tactics2
import Derived.StillTactics
import Derived.StillTailTactics
import Derived.RegionTactic
import Derived.WalkKit
import Derived.WalkLawsBesides
import Derived.WalkSpells
import Derived.Outline
import Derived.Laws.Pointers
import Derived.Laws.Small
import Derived.Laws.Build
import Derived.Laws.Cover3
import Derived.Laws.StructEq
import Derived.KernelRfl
import Derived.Lib.Hide
import Derived.BigQuiet
import Derived.BigRegion
import Derived.OwnWalk
import Derived.LoopTactic
import Derived.Laws.ResultCell
namespace Go.Proofs.YtalkhhjfplahkaaGreat
set_option maxRecDepth 100000
open Go.RowKit

theorem node_any (w : World) (n : Int) : Calls Tryz.prog 84 #[.int .i64 n] w fun e w' => e = .returned (.bool (decide (0 ≤ n ∧ n ≤ 255))) ∧ w = w' := by
  by_cases h0 : 0 ≤ n
  · by_cases h1 : n ≤ 255
    · rw [show decide (0 ≤ n ∧ n ≤ 255) = true by simp; omega]
      have f0 : decide (0 ≤ n) = true := by simp; omega
      have f1 : decide (n ≤ 255) = true := by simp; omega
      go_enter Tryz.func84, Tryz.ntmps84
      go_wp2
      go_ret
      exact ⟨rfl, rfl⟩
    · rw [show decide (0 ≤ n ∧ n ≤ 255) = false by simp; omega]
      have f0 : decide (0 ≤ n) = true := by simp; omega
      have f1 : decide (n ≤ 255) = false := by simp; omega
      go_enter Tryz.func84, Tryz.ntmps84
      go_wp2
      go_ret
      exact ⟨rfl, rfl⟩
  · rw [show decide (0 ≤ n ∧ n ≤ 255) = false by simp; omega]
    have f0 : decide (0 ≤ n) = false := by simp; omega
    go_enter Tryz.func84, Tryz.ntmps84
    go_wp2
    go_ret
    exact ⟨rfl, rfl⟩

theorem known_no (c : Int) (h : ¬ knownP c) : ¬ c = 1 ∧ ¬ c = 2 ∧ ¬ c = 3 ∧ ¬ c = 4 ∧ ¬ c = 5 ∧ ¬ c = 11 ∧ ¬ c = 12 ∧ ¬ c = 13 ∧ ¬ c = 14 ∧ ¬ c = 15 ∧ ¬ c = 16 ∧ ¬ c = 17 ∧ ¬ c = 18 ∧ ¬ c = 19 ∧ ¬ c = 20 ∧ ¬ c = 21 ∧ ¬ c = 22 ∧ ¬ c = 23 ∧ ¬ c = 24 ∧ ¬ c = 30 := by
  unfold knownP at h
  omega
theorem known_yes (c : Int) (h : knownP c) : c = 1 ∨ c = 2 ∨ c = 3 ∨ c = 4 ∨ c = 5 ∨ c = 11 ∨ c = 12 ∨ c = 13 ∨ c = 14 ∨ c = 15 ∨ c = 16 ∨ c = 17 ∨ c = 18 ∨ c = 19 ∨ c = 20 ∨ c = 21 ∨ c = 22 ∨ c = 23 ∨ c = 24 ∨ c = 30 := by
  unfold knownP at h
  omega
theorem known_any (w : World) (c : Int) : Calls Tryz.prog 85 #[.int .i64 c] w fun e w' => e = .returned (.bool (decide (knownP c))) ∧ w = w' := by
  by_cases h : knownP c
  · rw [show decide (knownP c) = true by simpa using h]
    have hy := known_yes c h
    clear h
    rcases hy with h | h | h | h | h | h | h | h | h | h | h | h | h | h | h | h | h | h | h | h
    all_goals
      subst h
      go_enter Tryz.func85, Tryz.ntmps85
      go_wp2
      go_ret
      exact ⟨rfl, rfl⟩
  · rw [show decide (knownP c) = false by simpa using h]
    obtain ⟨h1, h2, h3, h4, h5, h11, h12, h13, h14, h15, h16, h17, h18, h19, h20, h21, h22, h23, h24, h30⟩ := known_no c h
    clear h
    have f1 : (c == 1) = false := by simpa using h1
    have f2 : (c == 2) = false := by simpa using h2
    have f3 : (c == 3) = false := by simpa using h3
    have f4 : (c == 4) = false := by simpa using h4
    have f5 : (c == 5) = false := by simpa using h5
    have f11 : (c == 11) = false := by simpa using h11
    have f12 : (c == 12) = false := by simpa using h12
    have f13 : (c == 13) = false := by simpa using h13
    have f14 : (c == 14) = false := by simpa using h14
    have f15 : (c == 15) = false := by simpa using h15
    have f16 : (c == 16) = false := by simpa using h16
    have f17 : (c == 17) = false := by simpa using h17
    have f18 : (c == 18) = false := by simpa using h18
    have f19 : (c == 19) = false := by simpa using h19
    have f20 : (c == 20) = false := by simpa using h20
    have f21 : (c == 21) = false := by simpa using h21
    have f22 : (c == 22) = false := by simpa using h22
    have f23 : (c == 23) = false := by simpa using h23
    have f24 : (c == 24) = false := by simpa using h24
    have f30 : (c == 30) = false := by simpa using h30
    go_enter Tryz.func85, Tryz.ntmps85
    go_wp2
    go_ret
    exact ⟨rfl, rfl⟩

/-- Numbers that fit into 32 bits are the same there. -/
theorem wrap_u {x : Int} (h : U x) : IntKind.u32.wrap x = x := by
  obtain ⟨a, b⟩ := h
  rw [IntKind.wrap_u32]
  omega
theorem wrap_i {x : Int} (h : U x) : IntKind.i64.wrap x = x := by
  obtain ⟨a, b⟩ := h
  rw [IntKind.wrap_i64]
  omega

theorem counted_any (w : World) (p : Pk) (h0 : U p.kind) (h1 : U p.frm) (h2 : U p.to) (h3 : U p.code) (h4 : U p.err) :
    Calls Tryz.prog 62 #[pkV p] w fun e w' => e = .returned (cV p) ∧ Only [] w w' := by
  replace h0 := wrap_u h0
  replace h1 := wrap_u h1
  replace h2 := wrap_u h2
  replace h3 := wrap_u h3
  replace h4 := wrap_u h4
  obtain ⟨x0, x1, x2, x3, x4, x5, x6, x7, x8, x9, x10, x11, x12, x13, x14, x15, x16, x17, x18, x19⟩ := p
  simp only at h0 h1 h2 h3 h4
  go_enter Tryz.func62, Tryz.ntmps62
  go_wp2
  refine bodyPost_ret (v := .agg #[.int .u32 x0, .int .u32 x1, .int .u32 x2, .int .u32 x7, .int .u32 x8]) (by rw [results_cell rfl]; go_simp) rfl ?_
  refine ⟨rfl, ?_⟩
  have gw : w.heap.size ≤ w.heap.size + 1 := Nat.le_add_right _ _
  repeat (first | exact Only.refl _ _ | refine Only.alloc ?_ _ | refine Only.setCell ?_ (.inr (by first | exact Nat.le_refl _ | exact Nat.le_add_right _ _ | exact gw)) _)

end Go.Proofs.YtalkhhjfplahkaaGreat
namespace Go.Proofs.YtalkhhjfplahkaaGreat
set_option maxRecDepth 100000
open Go.RowKit

set_option maxHeartbeats 1000000 in
theorem texts_any (w : World) (g : Nat) : Calls Tryz.prog 64 #[.pointer (some ⟨g, 0, none⟩)] w fun e w' => e = .returned (textsV g) ∧ Only [] w w' := by
  unfold textsV
  go_enter Tryz.func64, Tryz.ntmps64
  go_wp2
  go_still_tail 13, (by kernel_rfl)
  have hb := Blk.new w 125 #[.pointer none, .int .i64 0, .pointer none, .int .i64 0, .pointer none, .int .i64 0]
  have kd : Only [] w (w.alloc (.cells #[.pointer none, .int .i64 0, .pointer none, .int .i64 0, .pointer none, .int .i64 0] 125)).drew := ((Only.refl [] w).alloc _).drew
  change wpList _ _ _ _ _ (World.drew _)
  replace hb := hb.kept ((Only.refl [] _).drew) (by simp)
  generalize (w.alloc (.cells #[.pointer none, .int .i64 0, .pointer none, .int .i64 0, .pointer none, .int .i64 0] 125)).drew = wd at *
  have c0 := hb.cell 0
  have c1 := hb.cell 1
  have c2 := hb.cell 2
  have c3 := hb.cell 3
  have c4 := hb.cell 4
  have c5 := hb.cell 5
  have f0 := hb.free 0
  have f1 := hb.free 1
  have f2 := hb.free 2
  have f3 := hb.free 3
  have f4 := hb.free 4
  have f5 := hb.free 5
  simp only [List.getElem?_toArray, List.getElem?_cons_zero, List.getElem?_cons_succ] at c0 c1 c2 c3 c4 c5
  clear hb
  go_wp2
  refine bodyPost_ret (v := .agg #[.pointer (some ⟨g, 17, none⟩), .int .i64 64, .pointer (some ⟨g, 18, none⟩), .int .i64 64, .pointer (some ⟨g, 19, none⟩), .int .i64 128]) (by rw [results_cell rfl]; go_simp) rfl ?_
  refine ⟨rfl, ?_⟩
  iterate 6 refine Only.setCell ?_ (.inr (Nat.le_refl _)) _
  exact kd

set_option maxHeartbeats 1000000 in
theorem numbers_any (w : World) (g h : Nat) : Calls Tryz.prog 63 #[.pointer (some ⟨g, 0, none⟩), .pointer (some ⟨h, 0, none⟩)] w fun e w' => e = .returned (numsV g h) ∧ Only [] w w' := by
  unfold numsV
  go_enter Tryz.func63, Tryz.ntmps63
  go_wp2
  go_still_tail 52, (by kernel_rfl)
  have hb := Blk.new w 118 #[.pointer none, .pointer none, .pointer none, .pointer none, .pointer none, .pointer none, .pointer none, .pointer none, .pointer none, .pointer none, .pointer none, .pointer none, .pointer none, .pointer none, .pointer none, .pointer none, .pointer none]
  have kd : Only [] w (w.alloc (.cells #[.pointer none, .pointer none, .pointer none, .pointer none, .pointer none, .pointer none, .pointer none, .pointer none, .pointer none, .pointer none, .pointer none, .pointer none, .pointer none, .pointer none, .pointer none, .pointer none, .pointer none] 118)).drew := ((Only.refl [] w).alloc _).drew
  change wpList _ _ _ _ _ (World.drew _)
  replace hb := hb.kept ((Only.refl [] _).drew) (by simp)
  generalize (w.alloc (.cells #[.pointer none, .pointer none, .pointer none, .pointer none, .pointer none, .pointer none, .pointer none, .pointer none, .pointer none, .pointer none, .pointer none, .pointer none, .pointer none, .pointer none, .pointer none, .pointer none, .pointer none] 118)).drew = wd at *
  have c0 := hb.cell 0
  have f0 := hb.free 0
  have c1 := hb.cell 1
  have f1 := hb.free 1
  have c2 := hb.cell 2
  have f2 := hb.free 2
  have c3 := hb.cell 3
  have f3 := hb.free 3
  have c4 := hb.cell 4
  have f4 := hb.free 4
  have c5 := hb.cell 5
  have f5 := hb.free 5
  have c6 := hb.cell 6
  have f6 := hb.free 6
  have c7 := hb.cell 7
  have f7 := hb.free 7
  have c8 := hb.cell 8
  have f8 := hb.free 8
  have c9 := hb.cell 9
  have f9 := hb.free 9
  have c10 := hb.cell 10
  have f10 := hb.free 10
  have c11 := hb.cell 11
  have f11 := hb.free 11
  have c12 := hb.cell 12
  have f12 := hb.free 12
  have c13 := hb.cell 13
  have f13 := hb.free 13
  have c14 := hb.cell 14
  have f14 := hb.free 14
  have c15 := hb.cell 15
  have f15 := hb.free 15
  have c16 := hb.cell 16
  have f16 := hb.free 16
  simp only [List.getElem?_toArray, List.getElem?_cons_zero, List.getElem?_cons_succ] at c0 c1 c2 c3 c4 c5 c6 c7 c8 c9 c10 c11 c12 c13 c14 c15 c16
  clear hb
  go_wp2
  refine bodyPost_ret (v := numsV g h) (by rw [results_cell rfl]; unfold numsV; go_simp) rfl ?_
  unfold numsV
  refine ⟨rfl, ?_⟩
  iterate 17 refine Only.setCell ?_ (.inr (Nat.le_refl _)) _
  exact kd


end Go.Proofs.YtalkhhjfplahkaaGreat
namespace Go.Proofs.YtalkhhjfplahkaaGreat
set_option maxRecDepth 100000
open Go.RowKit

set_option maxHeartbeats 4000000 in
theorem right_pk (w : World) (p : Pk) : Calls Tryz.prog 61 #[pkV p] w fun e w' => e = .returned (.bool (decide p.Right)) ∧ Only [] w w' := by
  go_enter Tryz.func61, Tryz.ntmps61
  go_wp2_with fail
  refine (texts_any _ _).mono ?_; rintro e w1 ⟨rfl, k1⟩
  have b1 := (Blk.new w 54 (pkA p)).kept k1 (by simp)
  replace k1 := k1.boxed
  go_wp2_with fail
  go_loopw [4, 6] (fun _ i wr => ∃ k : Nat, k ≤ 3 ∧ i = .int .i64 k ∧ Hid (∀ j, j < k → (sOf p j).size ≤ mostK j) ∧ Only [] w1 wr) (fun _ i _ => 3 - (intOf i).toNat)
  case atStart => exact ⟨0, by omega, rfl, Lib.hid (fun j hj => by omega), Only.refl [] _⟩
  case round =>
    obtain ⟨k, hk, rfl, hall, kr⟩ := hrel
    by_cases hlt : k < 3
    · have hb := b1.kept kr (by simp)
      have hix := index_texts w.heap.size k hlt
      have hlt' : (k : Int) < 3 := by omega
      have q0 := pk_text (hb.alloc (.cells #[.pointer (some ⟨w.heap.size, 17 + k, none⟩), .int .i64 (mostK k : Nat)] 124)) k hlt
      have t0 := (Blk.new wr 124 #[.pointer (some ⟨w.heap.size, 17 + k, none⟩), .int .i64 (mostK k : Nat)]).cell 0
      have t1 := (Blk.new wr 124 #[.pointer (some ⟨w.heap.size, 17 + k, none⟩), .int .i64 (mostK k : Nat)]).cell 1
      simp only [List.getElem?_toArray, List.getElem?_cons_zero, List.getElem?_cons_succ] at t0 t1
      clear hb b1
      by_cases hm : mostK k < (sOf p k).size
      · have hR := Lib.hid (show decide p.Right = false by
          simp only [decide_eq_false_iff_not]
          exact fun h => by
            obtain ⟨⟨⟨s0, s1⟩, s2⟩, _⟩ := h
            match k, hlt, hm with
            | 0, _, hm => simp only [mostK, sOf] at hm; omega
            | 1, _, hm => simp only [mostK, sOf] at hm; omega
            | 2, _, hm => simp only [mostK, sOf] at hm; omega)
        have f0 : decide (((mostK k : Nat) : Int) < ((sOf p k).size : Int)) = true := by simp; omega
        have f1 : decide (mostK k < (sOf p k).size) = true := decide_eq_true hm
        clear hm hall
        go_wp2
        go_quiet (fail)
        go_wp2
        go_ret
        exact ⟨by rw [hR.out]; rfl, k1.trans ((kr.alloc _).drewN _)⟩
      · have hall' : Hid (∀ j, j < k + 1 → (sOf p j).size ≤ mostK j) := Lib.hid (fun j hj => by
          by_cases hjk : j < k
          · exact hall.out j hjk
          · obtain rfl : j = k := by omega
            omega)
        have f0 : decide (((mostK k : Nat) : Int) < ((sOf p k).size : Int)) = false := by simp; omega
        have f1 : decide (mostK k < (sOf p k).size) = false := decide_eq_false hm
        clear hm hall
        go_wp2
        go_quiet (fail)
        go_wp2
        go_roundw
        case rel => exact ⟨k + 1, by omega, by go_num, hall', (kr.alloc _).drewN _⟩
        case measure => simp [intOf]; omega
    · obtain rfl : k = 3 := by omega
      have hs0 := hall.out 0 (by omega)
      have hs1 := hall.out 1 (by omega)
      have hs2 := hall.out 2 (by omega)
      simp only [mostK, sOf] at hs0 hs1 hs2
      have hs : (p.path.size ≤ 64 ∧ p.other.size ≤ 64) ∧ p.data.size ≤ 128 := ⟨⟨hs0, hs1⟩, hs2⟩
      clear hs0 hs1 hs2 hall
      replace hs := Lib.hid hs
      have hb := b1.kept kr (by simp)
      obtain ⟨c0, c1, c2, _, _, _, _, c7, c8, _, _, _, _, _, _, _, _, _, _, _⟩ := pk_cells hb
      have kall := k1.trans kr
      clear hb b1 hlt hk
      by_cases h1 : 1 ≤ p.kind
      rotate_left
      · have f1 : decide (1 ≤ p.kind) = false := by simp; omega
        have hR := Lib.hid (show decide p.Right = false by simp only [decide_eq_false_iff_not]; exact fun h => by obtain ⟨_, ⟨a1, a2⟩, a3, a4, a5, a6, ⟨a7, a8⟩, a9⟩ := h; omega)
        try clear h6
        try clear h6b
        try clear h9
        try clear h10
        go_wp2
        go_ret
        exact ⟨by rw [hR.out]; rfl, kall⟩
      have f1 : decide (1 ≤ p.kind) = true := by simp; omega
      by_cases h2 : p.kind ≤ 3
      rotate_left
      · have f2 : decide (p.kind ≤ 3) = false := by simp; omega
        have hR := Lib.hid (show decide p.Right = false by simp only [decide_eq_false_iff_not]; exact fun h => by obtain ⟨_, ⟨a1, a2⟩, a3, a4, a5, a6, ⟨a7, a8⟩, a9⟩ := h; omega)
        try clear h6
        try clear h6b
        try clear h9
        try clear h10
        go_wp2
        go_ret
        exact ⟨by rw [hR.out]; rfl, kall⟩
      have f2 : decide (p.kind ≤ 3) = true := by simp; omega
      by_cases h3 : 0 ≤ p.frm ∧ p.frm ≤ 255
      rotate_left
      · have nf1 : decide (0 ≤ p.frm ∧ p.frm ≤ 255) = false := decide_eq_false h3
        have hR := Lib.hid (show decide p.Right = false by simp only [decide_eq_false_iff_not]; exact fun h => by obtain ⟨_, ⟨a1, a2⟩, a3, a4, a5, a6, ⟨a7, a8⟩, a9⟩ := h; exact h3 a3)
        try clear h6
        try clear h6b
        try clear h9
        try clear h10
        go_wp2_with fail
        refine (node_any _ _).mono ?_; rintro e w2 ⟨rfl, rfl⟩
        rw [nf1]
        go_wp2
        go_ret
        exact ⟨by rw [hR.out]; rfl, kall⟩
      have nf1 : decide (0 ≤ p.frm ∧ p.frm ≤ 255) = true := decide_eq_true h3
      by_cases h4 : 0 ≤ p.to ∧ p.to ≤ 255
      rotate_left
      · have nf2 : decide (0 ≤ p.to ∧ p.to ≤ 255) = false := decide_eq_false h4
        have hR := Lib.hid (show decide p.Right = false by simp only [decide_eq_false_iff_not]; exact fun h => by obtain ⟨_, ⟨a1, a2⟩, a3, a4, a5, a6, ⟨a7, a8⟩, a9⟩ := h; exact h4 a4)
        try clear h6
        try clear h6b
        try clear h9
        try clear h10
        go_wp2_with fail
        refine (node_any _ _).mono ?_; rintro e w2 ⟨rfl, rfl⟩
        rw [nf1]
        go_wp2_with fail
        refine (node_any _ _).mono ?_; rintro e w2 ⟨rfl, rfl⟩
        rw [nf2]
        go_wp2
        go_ret
        exact ⟨by rw [hR.out]; rfl, kall⟩
      have nf2 : decide (0 ≤ p.to ∧ p.to ≤ 255) = true := decide_eq_true h4
      by_cases h5 : knownP p.code
      rotate_left
      · have kf : decide (knownP p.code) = false := decide_eq_false h5
        have hR := Lib.hid (show decide p.Right = false by simp only [decide_eq_false_iff_not]; exact fun h => by obtain ⟨_, ⟨a1, a2⟩, a3, a4, a5, a6, ⟨a7, a8⟩, a9⟩ := h; exact h5 a5)
        try clear h6
        try clear h6b
        try clear h9
        try clear h10
        go_wp2_with fail
        refine (node_any _ _).mono ?_; rintro e w2 ⟨rfl, rfl⟩
        rw [nf1]
        go_wp2_with fail
        refine (node_any _ _).mono ?_; rintro e w2 ⟨rfl, rfl⟩
        rw [nf2]
        go_wp2_with fail
        refine (known_any _ _).mono ?_; rintro e w2 ⟨rfl, rfl⟩
        rw [kf]
        go_wp2
        go_ret
        exact ⟨by rw [hR.out]; rfl, kall⟩
      have kf : decide (knownP p.code) = true := decide_eq_true h5
      by_cases h6 : p.code = 30
      · have f6 : (p.code == 30) = true := by simp; omega
        have g6 : (p.code != 30) = false := by simp; omega
        by_cases h6b : p.kind = 3
        rotate_left
        · have f6b : (p.kind == 3) = false := by simp; omega
          have g6b : (p.kind != 3) = true := by simp; omega
          have hR := Lib.hid (show decide p.Right = false by simp only [decide_eq_false_iff_not]; exact fun h => by obtain ⟨_, ⟨a1, a2⟩, a3, a4, a5, a6, ⟨a7, a8⟩, a9⟩ := h; omega)
          try clear h6
          try clear h6b
          try clear h9
          try clear h10
          go_wp2_with fail
          refine (node_any _ _).mono ?_; rintro e w2 ⟨rfl, rfl⟩
          rw [nf1]
          go_wp2_with fail
          refine (node_any _ _).mono ?_; rintro e w2 ⟨rfl, rfl⟩
          rw [nf2]
          go_wp2_with fail
          refine (known_any _ _).mono ?_; rintro e w2 ⟨rfl, rfl⟩
          rw [kf]
          go_wp2
          go_ret
          exact ⟨by rw [hR.out]; rfl, kall⟩
        have f6b : (p.kind == 3) = true := by simp; omega
        have g6b : (p.kind != 3) = false := by simp; omega
        by_cases h7 : 0 ≤ p.err
        rotate_left
        · have f7 : decide (0 ≤ p.err) = false := by simp; omega
          have hR := Lib.hid (show decide p.Right = false by simp only [decide_eq_false_iff_not]; exact fun h => by obtain ⟨_, ⟨a1, a2⟩, a3, a4, a5, a6, ⟨a7, a8⟩, a9⟩ := h; omega)
          try clear h6
          try clear h6b
          try clear h9
          try clear h10
          go_wp2_with fail
          refine (node_any _ _).mono ?_; rintro e w2 ⟨rfl, rfl⟩
          rw [nf1]
          go_wp2_with fail
          refine (node_any _ _).mono ?_; rintro e w2 ⟨rfl, rfl⟩
          rw [nf2]
          go_wp2_with fail
          refine (known_any _ _).mono ?_; rintro e w2 ⟨rfl, rfl⟩
          rw [kf]
          go_wp2
          go_ret
          exact ⟨by rw [hR.out]; rfl, kall⟩
        have f7 : decide (0 ≤ p.err) = true := by simp; omega
        by_cases h8 : p.err ≤ 25
        rotate_left
        · have f8 : decide (p.err ≤ 25) = false := by simp; omega
          have hR := Lib.hid (show decide p.Right = false by simp only [decide_eq_false_iff_not]; exact fun h => by obtain ⟨_, ⟨a1, a2⟩, a3, a4, a5, a6, ⟨a7, a8⟩, a9⟩ := h; omega)
          try clear h6
          try clear h6b
          try clear h9
          try clear h10
          go_wp2_with fail
          refine (node_any _ _).mono ?_; rintro e w2 ⟨rfl, rfl⟩
          rw [nf1]
          go_wp2_with fail
          refine (node_any _ _).mono ?_; rintro e w2 ⟨rfl, rfl⟩
          rw [nf2]
          go_wp2_with fail
          refine (known_any _ _).mono ?_; rintro e w2 ⟨rfl, rfl⟩
          rw [kf]
          go_wp2
          go_ret
          exact ⟨by rw [hR.out]; rfl, kall⟩
        have f8 : decide (p.err ≤ 25) = true := by simp; omega
        by_cases h9 : p.err = 0
        · have f9 : (p.err == 0) = true := by simp; omega
          have g9 : (p.err != 0) = false := by simp; omega
          have hR := Lib.hid (show decide p.Right = true by simp only [decide_eq_true_eq]; exact ⟨hs.out, ⟨h1, h2⟩, h3, h4, h5, by omega, ⟨h7, h8⟩, by omega⟩)
          try clear h6
          try clear h6b
          try clear h9
          try clear h10
          go_wp2_with fail
          refine (node_any _ _).mono ?_; rintro e w2 ⟨rfl, rfl⟩
          rw [nf1]
          go_wp2_with fail
          refine (node_any _ _).mono ?_; rintro e w2 ⟨rfl, rfl⟩
          rw [nf2]
          go_wp2_with fail
          refine (known_any _ _).mono ?_; rintro e w2 ⟨rfl, rfl⟩
          rw [kf]
          go_wp2
          go_ret
          exact ⟨by rw [hR.out]; rfl, kall⟩
        have f9 : (p.err == 0) = false := by simp; omega
        have g9 : (p.err != 0) = true := by simp; omega
        by_cases h10 : p.kind = 2
        · have f10 : (p.kind == 2) = true := by simp; omega
          have g10 : (p.kind != 2) = false := by simp; omega
          have hR := Lib.hid (show decide p.Right = true by simp only [decide_eq_true_eq]; exact ⟨hs.out, ⟨h1, h2⟩, h3, h4, h5, by omega, ⟨h7, h8⟩, by omega⟩)
          try clear h6
          try clear h6b
          try clear h9
          try clear h10
          go_wp2_with fail
          refine (node_any _ _).mono ?_; rintro e w2 ⟨rfl, rfl⟩
          rw [nf1]
          go_wp2_with fail
          refine (node_any _ _).mono ?_; rintro e w2 ⟨rfl, rfl⟩
          rw [nf2]
          go_wp2_with fail
          refine (known_any _ _).mono ?_; rintro e w2 ⟨rfl, rfl⟩
          rw [kf]
          go_wp2
          go_ret
          exact ⟨by rw [hR.out]; rfl, kall⟩
        · have f10 : (p.kind == 2) = false := by simp; omega
          have g10 : (p.kind != 2) = true := by simp; omega
          have hR := Lib.hid (show decide p.Right = false by simp only [decide_eq_false_iff_not]; exact fun h => by obtain ⟨_, ⟨a1, a2⟩, a3, a4, a5, a6, ⟨a7, a8⟩, a9⟩ := h; omega)
          try clear h6
          try clear h6b
          try clear h9
          try clear h10
          go_wp2_with fail
          refine (node_any _ _).mono ?_; rintro e w2 ⟨rfl, rfl⟩
          rw [nf1]
          go_wp2_with fail
          refine (node_any _ _).mono ?_; rintro e w2 ⟨rfl, rfl⟩
          rw [nf2]
          go_wp2_with fail
          refine (known_any _ _).mono ?_; rintro e w2 ⟨rfl, rfl⟩
          rw [kf]
          go_wp2
          go_ret
          exact ⟨by rw [hR.out]; rfl, kall⟩
      · have f6 : (p.code == 30) = false := by simp; omega
        have g6 : (p.code != 30) = true := by simp; omega
        by_cases h6b : p.kind = 3
        · have f6b : (p.kind == 3) = true := by simp; omega
          have g6b : (p.kind != 3) = false := by simp; omega
          have hR := Lib.hid (show decide p.Right = false by simp only [decide_eq_false_iff_not]; exact fun h => by obtain ⟨_, ⟨a1, a2⟩, a3, a4, a5, a6, ⟨a7, a8⟩, a9⟩ := h; omega)
          try clear h6
          try clear h6b
          try clear h9
          try clear h10
          go_wp2_with fail
          refine (node_any _ _).mono ?_; rintro e w2 ⟨rfl, rfl⟩
          rw [nf1]
          go_wp2_with fail
          refine (node_any _ _).mono ?_; rintro e w2 ⟨rfl, rfl⟩
          rw [nf2]
          go_wp2_with fail
          refine (known_any _ _).mono ?_; rintro e w2 ⟨rfl, rfl⟩
          rw [kf]
          go_wp2
          go_ret
          exact ⟨by rw [hR.out]; rfl, kall⟩
        have f6b : (p.kind == 3) = false := by simp; omega
        have g6b : (p.kind != 3) = true := by simp; omega
        by_cases h7 : 0 ≤ p.err
        rotate_left
        · have f7 : decide (0 ≤ p.err) = false := by simp; omega
          have hR := Lib.hid (show decide p.Right = false by simp only [decide_eq_false_iff_not]; exact fun h => by obtain ⟨_, ⟨a1, a2⟩, a3, a4, a5, a6, ⟨a7, a8⟩, a9⟩ := h; omega)
          try clear h6
          try clear h6b
          try clear h9
          try clear h10
          go_wp2_with fail
          refine (node_any _ _).mono ?_; rintro e w2 ⟨rfl, rfl⟩
          rw [nf1]
          go_wp2_with fail
          refine (node_any _ _).mono ?_; rintro e w2 ⟨rfl, rfl⟩
          rw [nf2]
          go_wp2_with fail
          refine (known_any _ _).mono ?_; rintro e w2 ⟨rfl, rfl⟩
          rw [kf]
          go_wp2
          go_ret
          exact ⟨by rw [hR.out]; rfl, kall⟩
        have f7 : decide (0 ≤ p.err) = true := by simp; omega
        by_cases h8 : p.err ≤ 25
        rotate_left
        · have f8 : decide (p.err ≤ 25) = false := by simp; omega
          have hR := Lib.hid (show decide p.Right = false by simp only [decide_eq_false_iff_not]; exact fun h => by obtain ⟨_, ⟨a1, a2⟩, a3, a4, a5, a6, ⟨a7, a8⟩, a9⟩ := h; omega)
          try clear h6
          try clear h6b
          try clear h9
          try clear h10
          go_wp2_with fail
          refine (node_any _ _).mono ?_; rintro e w2 ⟨rfl, rfl⟩
          rw [nf1]
          go_wp2_with fail
          refine (node_any _ _).mono ?_; rintro e w2 ⟨rfl, rfl⟩
          rw [nf2]
          go_wp2_with fail
          refine (known_any _ _).mono ?_; rintro e w2 ⟨rfl, rfl⟩
          rw [kf]
          go_wp2
          go_ret
          exact ⟨by rw [hR.out]; rfl, kall⟩
        have f8 : decide (p.err ≤ 25) = true := by simp; omega
        by_cases h9 : p.err = 0
        · have f9 : (p.err == 0) = true := by simp; omega
          have g9 : (p.err != 0) = false := by simp; omega
          have hR := Lib.hid (show decide p.Right = true by simp only [decide_eq_true_eq]; exact ⟨hs.out, ⟨h1, h2⟩, h3, h4, h5, by omega, ⟨h7, h8⟩, by omega⟩)
          try clear h6
          try clear h6b
          try clear h9
          try clear h10
          go_wp2_with fail
          refine (node_any _ _).mono ?_; rintro e w2 ⟨rfl, rfl⟩
          rw [nf1]
          go_wp2_with fail
          refine (node_any _ _).mono ?_; rintro e w2 ⟨rfl, rfl⟩
          rw [nf2]
          go_wp2_with fail
          refine (known_any _ _).mono ?_; rintro e w2 ⟨rfl, rfl⟩
          rw [kf]
          go_wp2
          go_ret
          exact ⟨by rw [hR.out]; rfl, kall⟩
        have f9 : (p.err == 0) = false := by simp; omega
        have g9 : (p.err != 0) = true := by simp; omega
        by_cases h10 : p.kind = 2
        · have f10 : (p.kind == 2) = true := by simp; omega
          have g10 : (p.kind != 2) = false := by simp; omega
          have hR := Lib.hid (show decide p.Right = true by simp only [decide_eq_true_eq]; exact ⟨hs.out, ⟨h1, h2⟩, h3, h4, h5, by omega, ⟨h7, h8⟩, by omega⟩)
          try clear h6
          try clear h6b
          try clear h9
          try clear h10
          go_wp2_with fail
          refine (node_any _ _).mono ?_; rintro e w2 ⟨rfl, rfl⟩
          rw [nf1]
          go_wp2_with fail
          refine (node_any _ _).mono ?_; rintro e w2 ⟨rfl, rfl⟩
          rw [nf2]
          go_wp2_with fail
          refine (known_any _ _).mono ?_; rintro e w2 ⟨rfl, rfl⟩
          rw [kf]
          go_wp2
          go_ret
          exact ⟨by rw [hR.out]; rfl, kall⟩
        · have f10 : (p.kind == 2) = false := by simp; omega
          have g10 : (p.kind != 2) = true := by simp; omega
          have hR := Lib.hid (show decide p.Right = false by simp only [decide_eq_false_iff_not]; exact fun h => by obtain ⟨_, ⟨a1, a2⟩, a3, a4, a5, a6, ⟨a7, a8⟩, a9⟩ := h; omega)
          try clear h6
          try clear h6b
          try clear h9
          try clear h10
          go_wp2_with fail
          refine (node_any _ _).mono ?_; rintro e w2 ⟨rfl, rfl⟩
          rw [nf1]
          go_wp2_with fail
          refine (node_any _ _).mono ?_; rintro e w2 ⟨rfl, rfl⟩
          rw [nf2]
          go_wp2_with fail
          refine (known_any _ _).mono ?_; rintro e w2 ⟨rfl, rfl⟩
          rw [kf]
          go_wp2
          go_ret
          exact ⟨by rw [hR.out]; rfl, kall⟩

end Go.Proofs.YtalkhhjfplahkaaGreat
