/- The walk of Right. -/
import Derived.Test.YtjnbajpckohnnaaFun9
import Derived.Test.YtjnbajpckohnnaaFun9b
import Derived.Test.YtjnbajpckohnnaaMem9
import Derived.Test.YtjnbajpckohnnaaChecked
import Derived.Tactics
import Derived.Tactics2
import Derived.StillTactics
import Derived.StillTailTactics
import Derived.RegionTactic
import Derived.WalkKit
import Derived.WalkLawsBesides
import Derived.WalkSpells
import Derived.Outline
import Derived.Laws.Pointers
import Derived.Laws.Small
import Derived.Laws.Build
import Derived.Laws.Cover3
import Derived.Laws.StructEq
import Derived.KernelRfl
import Derived.Lib.Hide
import Derived.BigQuiet
import Derived.BigRegion
import Derived.OwnWalk
import Derived.LoopTactic
import Derived.Laws.ResultCell
namespace Go.Proofs.Ytjnbajpckohnnaa
open Go.RowKit

set_option maxHeartbeats 4000000 in
theorem right_any (w : World) (p : Pk) : Calls Try.prog 10 #[pkV p] w fun e w' => e = .returned (.bool (decide p.Right)) ∧ Only [] w w' := by
  go_enter Try.func10, Try.ntmps10
  go_wp2_with fail
  refine (texts_any _ _).mono ?_; rintro e w1 ⟨rfl, k1⟩
  have b1 := (Blk.new w 27 (pkA p)).kept k1 (by simp)
  replace k1 := k1.boxed
  go_wp2_with fail
  go_loopw [4, 6] (fun _ i wr => ∃ k : Nat, k ≤ 3 ∧ i = .int .i64 k ∧ Hid (∀ j, j < k → (sOf p j).size ≤ mostK j) ∧ Only [] w1 wr) (fun _ i _ => 3 - (intOf i).toNat)
  case atStart => exact ⟨0, by omega, rfl, Lib.hid (fun j hj => by omega), Only.refl [] _⟩
  case round =>
    obtain ⟨k, hk, rfl, hall, kr⟩ := hrel
    by_cases hlt : k < 3
    · have hb := b1.kept kr (by simp)
      have hix := index_texts w.heap.size k hlt
      have hlt' : (k : Int) < 3 := by omega
      have q0 := pk_text (hb.alloc (.cells #[.pointer (some ⟨w.heap.size, 17 + k, none⟩), .int .i64 (mostK k : Nat)] 54)) k hlt
      have t0 := (Blk.new wr 54 #[.pointer (some ⟨w.heap.size, 17 + k, none⟩), .int .i64 (mostK k : Nat)]).cell 0
      have t1 := (Blk.new wr 54 #[.pointer (some ⟨w.heap.size, 17 + k, none⟩), .int .i64 (mostK k : Nat)]).cell 1
      simp only [List.getElem?_toArray, List.getElem?_cons_zero, List.getElem?_cons_succ] at t0 t1
      clear hb b1
      by_cases hm : mostK k < (sOf p k).size
      · have hR := Lib.hid (show decide p.Right = false by
          simp only [decide_eq_false_iff_not]
          exact fun h => by
            obtain ⟨⟨⟨s0, s1⟩, s2⟩, _⟩ := h
            match k, hlt, hm with
            | 0, _, hm => simp only [mostK, sOf] at hm; omega
            | 1, _, hm => simp only [mostK, sOf] at hm; omega
            | 2, _, hm => simp only [mostK, sOf] at hm; omega)
        have f0 : decide (((mostK k : Nat) : Int) < ((sOf p k).size : Int)) = true := by simp; omega
        have f1 : decide (mostK k < (sOf p k).size) = true := decide_eq_true hm
        clear hm hall
        go_wp2
        go_quiet (fail)
        go_wp2
        go_ret
        exact ⟨by rw [hR.out]; rfl, k1.trans ((kr.alloc _).drewN _)⟩
      · have hall' : Hid (∀ j, j < k + 1 → (sOf p j).size ≤ mostK j) := Lib.hid (fun j hj => by
          by_cases hjk : j < k
          · exact hall.out j hjk
          · obtain rfl : j = k := by omega
            omega)
        have f0 : decide (((mostK k : Nat) : Int) < ((sOf p k).size : Int)) = false := by simp; omega
        have f1 : decide (mostK k < (sOf p k).size) = false := decide_eq_false hm
        clear hm hall
        go_wp2
        go_quiet (fail)
        go_wp2
        go_roundw
        case rel => exact ⟨k + 1, by omega, by go_num, hall', (kr.alloc _).drewN _⟩
        case measure => simp [intOf]; omega
    · obtain rfl : k = 3 := by omega
      have hs0 := hall.out 0 (by omega)
      have hs1 := hall.out 1 (by omega)
      have hs2 := hall.out 2 (by omega)
      simp only [mostK, sOf] at hs0 hs1 hs2
      have hs : (p.path.size ≤ 64 ∧ p.other.size ≤ 64) ∧ p.data.size ≤ 128 := ⟨⟨hs0, hs1⟩, hs2⟩
      clear hs0 hs1 hs2 hall
      replace hs := Lib.hid hs
      have hb := b1.kept kr (by simp)
      obtain ⟨c0, c1, c2, _, _, _, _, c7, c8, _, _, _, _, _, _, _, _, _, _, _⟩ := pk_cells hb
      have kall := k1.trans kr
      clear hb b1 hlt hk
      by_cases h1 : 1 ≤ p.kind
      rotate_left
      · have f1 : decide (1 ≤ p.kind) = false := by simp; omega
        have hR := Lib.hid (show decide p.Right = false by simp only [decide_eq_false_iff_not]; exact fun h => by obtain ⟨_, ⟨a1, a2⟩, a3, a4, a5, a6, ⟨a7, a8⟩, a9⟩ := h; omega)
        try clear h6
        try clear h6b
        try clear h9
        try clear h10
        go_wp2
        go_ret
        exact ⟨by rw [hR.out]; rfl, kall⟩
      have f1 : decide (1 ≤ p.kind) = true := by simp; omega
      by_cases h2 : p.kind ≤ 3
      rotate_left
      · have f2 : decide (p.kind ≤ 3) = false := by simp; omega
        have hR := Lib.hid (show decide p.Right = false by simp only [decide_eq_false_iff_not]; exact fun h => by obtain ⟨_, ⟨a1, a2⟩, a3, a4, a5, a6, ⟨a7, a8⟩, a9⟩ := h; omega)
        try clear h6
        try clear h6b
        try clear h9
        try clear h10
        go_wp2
        go_ret
        exact ⟨by rw [hR.out]; rfl, kall⟩
      have f2 : decide (p.kind ≤ 3) = true := by simp; omega
      by_cases h3 : 0 ≤ p.frm ∧ p.frm ≤ 255
      rotate_left
      · have nf1 : decide (0 ≤ p.frm ∧ p.frm ≤ 255) = false := decide_eq_false h3
        have hR := Lib.hid (show decide p.Right = false by simp only [decide_eq_false_iff_not]; exact fun h => by obtain ⟨_, ⟨a1, a2⟩, a3, a4, a5, a6, ⟨a7, a8⟩, a9⟩ := h; exact h3 a3)
        try clear h6
        try clear h6b
        try clear h9
        try clear h10
        go_wp2_with fail
        refine (node_any _ _).mono ?_; rintro e w2 ⟨rfl, rfl⟩
        rw [nf1]
        go_wp2
        go_ret
        exact ⟨by rw [hR.out]; rfl, kall⟩
      have nf1 : decide (0 ≤ p.frm ∧ p.frm ≤ 255) = true := decide_eq_true h3
      by_cases h4 : 0 ≤ p.to ∧ p.to ≤ 255
      rotate_left
      · have nf2 : decide (0 ≤ p.to ∧ p.to ≤ 255) = false := decide_eq_false h4
        have hR := Lib.hid (show decide p.Right = false by simp only [decide_eq_false_iff_not]; exact fun h => by obtain ⟨_, ⟨a1, a2⟩, a3, a4, a5, a6, ⟨a7, a8⟩, a9⟩ := h; exact h4 a4)
        try clear h6
        try clear h6b
        try clear h9
        try clear h10
        go_wp2_with fail
        refine (node_any _ _).mono ?_; rintro e w2 ⟨rfl, rfl⟩
        rw [nf1]
        go_wp2_with fail
        refine (node_any _ _).mono ?_; rintro e w2 ⟨rfl, rfl⟩
        rw [nf2]
        go_wp2
        go_ret
        exact ⟨by rw [hR.out]; rfl, kall⟩
      have nf2 : decide (0 ≤ p.to ∧ p.to ≤ 255) = true := decide_eq_true h4
      by_cases h5 : knownP p.code
      rotate_left
      · have kf : decide (knownP p.code) = false := decide_eq_false h5
        have hR := Lib.hid (show decide p.Right = false by simp only [decide_eq_false_iff_not]; exact fun h => by obtain ⟨_, ⟨a1, a2⟩, a3, a4, a5, a6, ⟨a7, a8⟩, a9⟩ := h; exact h5 a5)
        try clear h6
        try clear h6b
        try clear h9
        try clear h10
        go_wp2_with fail
        refine (node_any _ _).mono ?_; rintro e w2 ⟨rfl, rfl⟩
        rw [nf1]
        go_wp2_with fail
        refine (node_any _ _).mono ?_; rintro e w2 ⟨rfl, rfl⟩
        rw [nf2]
        go_wp2_with fail
        refine (known_any _ _).mono ?_; rintro e w2 ⟨rfl, rfl⟩
        rw [kf]
        go_wp2
        go_ret
        exact ⟨by rw [hR.out]; rfl, kall⟩
      have kf : decide (knownP p.code) = true := decide_eq_true h5
      by_cases h6 : p.code = 30
      · have f6 : (p.code == 30) = true := by simp; omega
        have g6 : (p.code != 30) = false := by simp; omega
        by_cases h6b : p.kind = 3
        rotate_left
        · have f6b : (p.kind == 3) = false := by simp; omega
          have g6b : (p.kind != 3) = true := by simp; omega
          have hR := Lib.hid (show decide p.Right = false by simp only [decide_eq_false_iff_not]; exact fun h => by obtain ⟨_, ⟨a1, a2⟩, a3, a4, a5, a6, ⟨a7, a8⟩, a9⟩ := h; omega)
          try clear h6
          try clear h6b
          try clear h9
          try clear h10
          go_wp2_with fail
          refine (node_any _ _).mono ?_; rintro e w2 ⟨rfl, rfl⟩
          rw [nf1]
          go_wp2_with fail
          refine (node_any _ _).mono ?_; rintro e w2 ⟨rfl, rfl⟩
          rw [nf2]
          go_wp2_with fail
          refine (known_any _ _).mono ?_; rintro e w2 ⟨rfl, rfl⟩
          rw [kf]
          go_wp2
          go_ret
          exact ⟨by rw [hR.out]; rfl, kall⟩
        have f6b : (p.kind == 3) = true := by simp; omega
        have g6b : (p.kind != 3) = false := by simp; omega
        by_cases h7 : 0 ≤ p.err
        rotate_left
        · have f7 : decide (0 ≤ p.err) = false := by simp; omega
          have hR := Lib.hid (show decide p.Right = false by simp only [decide_eq_false_iff_not]; exact fun h => by obtain ⟨_, ⟨a1, a2⟩, a3, a4, a5, a6, ⟨a7, a8⟩, a9⟩ := h; omega)
          try clear h6
          try clear h6b
          try clear h9
          try clear h10
          go_wp2_with fail
          refine (node_any _ _).mono ?_; rintro e w2 ⟨rfl, rfl⟩
          rw [nf1]
          go_wp2_with fail
          refine (node_any _ _).mono ?_; rintro e w2 ⟨rfl, rfl⟩
          rw [nf2]
          go_wp2_with fail
          refine (known_any _ _).mono ?_; rintro e w2 ⟨rfl, rfl⟩
          rw [kf]
          go_wp2
          go_ret
          exact ⟨by rw [hR.out]; rfl, kall⟩
        have f7 : decide (0 ≤ p.err) = true := by simp; omega
        by_cases h8 : p.err ≤ 25
        rotate_left
        · have f8 : decide (p.err ≤ 25) = false := by simp; omega
          have hR := Lib.hid (show decide p.Right = false by simp only [decide_eq_false_iff_not]; exact fun h => by obtain ⟨_, ⟨a1, a2⟩, a3, a4, a5, a6, ⟨a7, a8⟩, a9⟩ := h; omega)
          try clear h6
          try clear h6b
          try clear h9
          try clear h10
          go_wp2_with fail
          refine (node_any _ _).mono ?_; rintro e w2 ⟨rfl, rfl⟩
          rw [nf1]
          go_wp2_with fail
          refine (node_any _ _).mono ?_; rintro e w2 ⟨rfl, rfl⟩
          rw [nf2]
          go_wp2_with fail
          refine (known_any _ _).mono ?_; rintro e w2 ⟨rfl, rfl⟩
          rw [kf]
          go_wp2
          go_ret
          exact ⟨by rw [hR.out]; rfl, kall⟩
        have f8 : decide (p.err ≤ 25) = true := by simp; omega
        by_cases h9 : p.err = 0
        · have f9 : (p.err == 0) = true := by simp; omega
          have g9 : (p.err != 0) = false := by simp; omega
          have hR := Lib.hid (show decide p.Right = true by simp only [decide_eq_true_eq]; exact ⟨hs.out, ⟨h1, h2⟩, h3, h4, h5, by omega, ⟨h7, h8⟩, by omega⟩)
          try clear h6
          try clear h6b
          try clear h9
          try clear h10
          go_wp2_with fail
          refine (node_any _ _).mono ?_; rintro e w2 ⟨rfl, rfl⟩
          rw [nf1]
          go_wp2_with fail
          refine (node_any _ _).mono ?_; rintro e w2 ⟨rfl, rfl⟩
          rw [nf2]
          go_wp2_with fail
          refine (known_any _ _).mono ?_; rintro e w2 ⟨rfl, rfl⟩
          rw [kf]
          go_wp2
          go_ret
          exact ⟨by rw [hR.out]; rfl, kall⟩
        have f9 : (p.err == 0) = false := by simp; omega
        have g9 : (p.err != 0) = true := by simp; omega
        by_cases h10 : p.kind = 2
        · have f10 : (p.kind == 2) = true := by simp; omega
          have g10 : (p.kind != 2) = false := by simp; omega
          have hR := Lib.hid (show decide p.Right = true by simp only [decide_eq_true_eq]; exact ⟨hs.out, ⟨h1, h2⟩, h3, h4, h5, by omega, ⟨h7, h8⟩, by omega⟩)
          try clear h6
          try clear h6b
          try clear h9
          try clear h10
          go_wp2_with fail
          refine (node_any _ _).mono ?_; rintro e w2 ⟨rfl, rfl⟩
          rw [nf1]
          go_wp2_with fail
          refine (node_any _ _).mono ?_; rintro e w2 ⟨rfl, rfl⟩
          rw [nf2]
          go_wp2_with fail
          refine (known_any _ _).mono ?_; rintro e w2 ⟨rfl, rfl⟩
          rw [kf]
          go_wp2
          go_ret
          exact ⟨by rw [hR.out]; rfl, kall⟩
        · have f10 : (p.kind == 2) = false := by simp; omega
          have g10 : (p.kind != 2) = true := by simp; omega
          have hR := Lib.hid (show decide p.Right = false by simp only [decide_eq_false_iff_not]; exact fun h => by obtain ⟨_, ⟨a1, a2⟩, a3, a4, a5, a6, ⟨a7, a8⟩, a9⟩ := h; omega)
          try clear h6
          try clear h6b
          try clear h9
          try clear h10
          go_wp2_with fail
          refine (node_any _ _).mono ?_; rintro e w2 ⟨rfl, rfl⟩
          rw [nf1]
          go_wp2_with fail
          refine (node_any _ _).mono ?_; rintro e w2 ⟨rfl, rfl⟩
          rw [nf2]
          go_wp2_with fail
          refine (known_any _ _).mono ?_; rintro e w2 ⟨rfl, rfl⟩
          rw [kf]
          go_wp2
          go_ret
          exact ⟨by rw [hR.out]; rfl, kall⟩
      · have f6 : (p.code == 30) = false := by simp; omega
        have g6 : (p.code != 30) = true := by simp; omega
        by_cases h6b : p.kind = 3
        · have f6b : (p.kind == 3) = true := by simp; omega
          have g6b : (p.kind != 3) = false := by simp; omega
          have hR := Lib.hid (show decide p.Right = false by simp only [decide_eq_false_iff_not]; exact fun h => by obtain ⟨_, ⟨a1, a2⟩, a3, a4, a5, a6, ⟨a7, a8⟩, a9⟩ := h; omega)
          try clear h6
          try clear h6b
          try clear h9
          try clear h10
          go_wp2_with fail
          refine (node_any _ _).mono ?_; rintro e w2 ⟨rfl, rfl⟩
          rw [nf1]
          go_wp2_with fail
          refine (node_any _ _).mono ?_; rintro e w2 ⟨rfl, rfl⟩
          rw [nf2]
          go_wp2_with fail
          refine (known_any _ _).mono ?_; rintro e w2 ⟨rfl, rfl⟩
          rw [kf]
          go_wp2
          go_ret
          exact ⟨by rw [hR.out]; rfl, kall⟩
        have f6b : (p.kind == 3) = false := by simp; omega
        have g6b : (p.kind != 3) = true := by simp; omega
        by_cases h7 : 0 ≤ p.err
        rotate_left
        · have f7 : decide (0 ≤ p.err) = false := by simp; omega
          have hR := Lib.hid (show decide p.Right = false by simp only [decide_eq_false_iff_not]; exact fun h => by obtain ⟨_, ⟨a1, a2⟩, a3, a4, a5, a6, ⟨a7, a8⟩, a9⟩ := h; omega)
          try clear h6
          try clear h6b
          try clear h9
          try clear h10
          go_wp2_with fail
          refine (node_any _ _).mono ?_; rintro e w2 ⟨rfl, rfl⟩
          rw [nf1]
          go_wp2_with fail
          refine (node_any _ _).mono ?_; rintro e w2 ⟨rfl, rfl⟩
          rw [nf2]
          go_wp2_with fail
          refine (known_any _ _).mono ?_; rintro e w2 ⟨rfl, rfl⟩
          rw [kf]
          go_wp2
          go_ret
          exact ⟨by rw [hR.out]; rfl, kall⟩
        have f7 : decide (0 ≤ p.err) = true := by simp; omega
        by_cases h8 : p.err ≤ 25
        rotate_left
        · have f8 : decide (p.err ≤ 25) = false := by simp; omega
          have hR := Lib.hid (show decide p.Right = false by simp only [decide_eq_false_iff_not]; exact fun h => by obtain ⟨_, ⟨a1, a2⟩, a3, a4, a5, a6, ⟨a7, a8⟩, a9⟩ := h; omega)
          try clear h6
          try clear h6b
          try clear h9
          try clear h10
          go_wp2_with fail
          refine (node_any _ _).mono ?_; rintro e w2 ⟨rfl, rfl⟩
          rw [nf1]
          go_wp2_with fail
          refine (node_any _ _).mono ?_; rintro e w2 ⟨rfl, rfl⟩
          rw [nf2]
          go_wp2_with fail
          refine (known_any _ _).mono ?_; rintro e w2 ⟨rfl, rfl⟩
          rw [kf]
          go_wp2
          go_ret
          exact ⟨by rw [hR.out]; rfl, kall⟩
        have f8 : decide (p.err ≤ 25) = true := by simp; omega
        by_cases h9 : p.err = 0
        · have f9 : (p.err == 0) = true := by simp; omega
          have g9 : (p.err != 0) = false := by simp; omega
          have hR := Lib.hid (show decide p.Right = true by simp only [decide_eq_true_eq]; exact ⟨hs.out, ⟨h1, h2⟩, h3, h4, h5, by omega, ⟨h7, h8⟩, by omega⟩)
          try clear h6
          try clear h6b
          try clear h9
          try clear h10
          go_wp2_with fail
          refine (node_any _ _).mono ?_; rintro e w2 ⟨rfl, rfl⟩
          rw [nf1]
          go_wp2_with fail
          refine (node_any _ _).mono ?_; rintro e w2 ⟨rfl, rfl⟩
          rw [nf2]
          go_wp2_with fail
          refine (known_any _ _).mono ?_; rintro e w2 ⟨rfl, rfl⟩
          rw [kf]
          go_wp2
          go_ret
          exact ⟨by rw [hR.out]; rfl, kall⟩
        have f9 : (p.err == 0) = false := by simp; omega
        have g9 : (p.err != 0) = true := by simp; omega
        by_cases h10 : p.kind = 2
        · have f10 : (p.kind == 2) = true := by simp; omega
          have g10 : (p.kind != 2) = false := by simp; omega
          have hR := Lib.hid (show decide p.Right = true by simp only [decide_eq_true_eq]; exact ⟨hs.out, ⟨h1, h2⟩, h3, h4, h5, by omega, ⟨h7, h8⟩, by omega⟩)
          try clear h6
          try clear h6b
          try clear h9
          try clear h10
          go_wp2_with fail
          refine (node_any _ _).mono ?_; rintro e w2 ⟨rfl, rfl⟩
          rw [nf1]
          go_wp2_with fail
          refine (node_any _ _).mono ?_; rintro e w2 ⟨rfl, rfl⟩
          rw [nf2]
          go_wp2_with fail
          refine (known_any _ _).mono ?_; rintro e w2 ⟨rfl, rfl⟩
          rw [kf]
          go_wp2
          go_ret
          exact ⟨by rw [hR.out]; rfl, kall⟩
        · have f10 : (p.kind == 2) = false := by simp; omega
          have g10 : (p.kind != 2) = true := by simp; omega
          have hR := Lib.hid (show decide p.Right = false by simp only [decide_eq_false_iff_not]; exact fun h => by obtain ⟨_, ⟨a1, a2⟩, a3, a4, a5, a6, ⟨a7, a8⟩, a9⟩ := h; omega)
          try clear h6
          try clear h6b
          try clear h9
          try clear h10
          go_wp2_with fail
          refine (node_any _ _).mono ?_; rintro e w2 ⟨rfl, rfl⟩
          rw [nf1]
          go_wp2_with fail
          refine (node_any _ _).mono ?_; rintro e w2 ⟨rfl, rfl⟩
          rw [nf2]
          go_wp2_with fail
          refine (known_any _ _).mono ?_; rintro e w2 ⟨rfl, rfl⟩
          rw [kf]
          go_wp2
          go_ret
          exact ⟨by rw [hR.out]; rfl, kall⟩

end Go.Proofs.Ytjnbajpckohnnaa
