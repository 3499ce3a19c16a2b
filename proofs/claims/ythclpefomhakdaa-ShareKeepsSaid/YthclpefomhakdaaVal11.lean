/- Whether an open may be, what two are to each other: the program's functions and the document's. -/
import Derived.Test.YthclpefomhakdaaCmp11
namespace Go.Proofs.Ythclpefomhakdaa
open Go.RowKit

set_option linter.unusedVariables false

set_option maxRecDepth 100000 in
theorem valid_any (w : World) (x : Opn) : Calls Try.prog 25 #[opV x] w fun e w' => e = .returned (.bool (decide (validO x))) ∧ Only [] w w' := by
  obtain ⟨r, hr⟩ : ∃ r, r = decide (validO x) := ⟨_, rfl⟩
  rw [← hr]
  obtain ⟨x0, x1, x2, x3, x4⟩ := x
  have hk : Only [] w (w.alloc (.cells #[.int .u32 x0, .int .u32 x1, .int .u32 x2, .int .u32 x3, .int .u32 (x4 : Int)] 27)) := (Only.refl [] w).alloc _
  unfold validO at hr
  unfold opV
  simp only at hr ⊢
  by_cases p1 : ¬ x0 = 0
  · have dp10 : (x0 != 0) = true := by simpa using p1
    have dp11 : ¬ x0 = 0 := p1
    by_cases p2 : ¬ x2 = 0
    · have dp20 : (x2 != 0) = true := by simpa using p2
      have dp21 : ¬ x2 = 0 := p2
      by_cases p3 : 1 ≤ x3
      · have dp30 : decide (1 ≤ x3) = true := decide_eq_true p3
        have dp31 : 1 ≤ x3 := p3
        by_cases p4 : x3 ≤ 3
        · have dp40 : decide (x3 ≤ 3) = true := decide_eq_true p4
          have dp41 : x3 ≤ 3 := p4
          by_cases p5 : (x4 : Int) ≤ 3
          · have dp50 : decide ((x4 : Int) ≤ 3) = true := decide_eq_true p5
            have dp51 : (x4 : Int) ≤ 3 := p5
            obtain rfl : r = true := by rw [hr]; exact decide_eq_true ⟨p1, p2, p3, p4, by omega⟩
            clear hr
            go_enter Try.func25, Try.ntmps25
            go_wp2
            go_ret
            exact ⟨rfl, hk⟩
          · have dp50 : decide ((x4 : Int) ≤ 3) = false := decide_eq_false p5
            have dp51 : ¬ (x4 : Int) ≤ 3 := p5
            obtain rfl : r = false := by rw [hr]; exact decide_eq_false (fun h => p5 (by have := h.2.2.2.2; omega))
            clear p5 hr
            go_enter Try.func25, Try.ntmps25
            go_wp2
            go_ret
            exact ⟨rfl, hk⟩
        · have dp40 : decide (x3 ≤ 3) = false := decide_eq_false p4
          have dp41 : ¬ x3 ≤ 3 := p4
          obtain rfl : r = false := by rw [hr]; exact decide_eq_false (fun h => p4 h.2.2.2.1)
          clear p4 hr
          go_enter Try.func25, Try.ntmps25
          go_wp2
          go_ret
          exact ⟨rfl, hk⟩
      · have dp30 : decide (1 ≤ x3) = false := decide_eq_false p3
        have dp31 : ¬ 1 ≤ x3 := p3
        obtain rfl : r = false := by rw [hr]; exact decide_eq_false (fun h => p3 h.2.2.1)
        clear p3 hr
        go_enter Try.func25, Try.ntmps25
        go_wp2
        go_ret
        exact ⟨rfl, hk⟩
    · have dp20 : (x2 != 0) = false := by simpa using p2
      obtain rfl : r = false := by rw [hr]; exact decide_eq_false (fun h => p2 h.2.1)
      clear p2 hr
      go_enter Try.func25, Try.ntmps25
      go_wp2
      go_ret
      exact ⟨rfl, hk⟩
  · have dp10 : (x0 != 0) = false := by simpa using p1
    obtain rfl : r = false := by rw [hr]; exact decide_eq_false (fun h => p1 h.1)
    clear p1 hr
    go_enter Try.func25, Try.ntmps25
    go_wp2
    go_ret
    exact ⟨rfl, hk⟩

set_option maxRecDepth 100000 in
theorem one_any (w : World) (x : Opn) : Calls Try.prog 29 #[opV x] w fun e w' => e = .returned (.bool (decide (validO x))) ∧ Only [] w w' := by
  obtain ⟨r, hr⟩ : ∃ r, r = decide (validO x) := ⟨_, rfl⟩
  rw [← hr]
  obtain ⟨x0, x1, x2, x3, x4⟩ := x
  have hk : Only [] w (w.alloc (.cells #[.int .u32 x0, .int .u32 x1, .int .u32 x2, .int .u32 x3, .int .u32 (x4 : Int)] 27)) := (Only.refl [] w).alloc _
  unfold validO at hr
  unfold opV
  simp only at hr ⊢
  by_cases p1 : ¬ x0 = 0
  · have dp10 : (x0 != 0) = true := by simpa using p1
    have dp11 : ¬ x0 = 0 := p1
    by_cases p2 : ¬ x2 = 0
    · have dp20 : (x2 != 0) = true := by simpa using p2
      have dp21 : ¬ x2 = 0 := p2
      by_cases p3 : 1 ≤ x3
      · have dp30 : decide (1 ≤ x3) = true := decide_eq_true p3
        have dp31 : 1 ≤ x3 := p3
        by_cases p4 : x3 ≤ 3
        · have dp40 : decide (x3 ≤ 3) = true := decide_eq_true p4
          have dp41 : x3 ≤ 3 := p4
          by_cases p5 : (x4 : Int) ≤ 3
          · have dp50 : decide ((x4 : Int) ≤ 3) = true := decide_eq_true p5
            have dp51 : (x4 : Int) ≤ 3 := p5
            obtain rfl : r = true := by rw [hr]; exact decide_eq_true ⟨p1, p2, p3, p4, by omega⟩
            clear hr
            go_enter Try.func29, Try.ntmps29
            go_wp2
            go_ret
            exact ⟨rfl, hk⟩
          · have dp50 : decide ((x4 : Int) ≤ 3) = false := decide_eq_false p5
            have dp51 : ¬ (x4 : Int) ≤ 3 := p5
            obtain rfl : r = false := by rw [hr]; exact decide_eq_false (fun h => p5 (by have := h.2.2.2.2; omega))
            clear p5 hr
            go_enter Try.func29, Try.ntmps29
            go_wp2
            go_ret
            exact ⟨rfl, hk⟩
        · have dp40 : decide (x3 ≤ 3) = false := decide_eq_false p4
          have dp41 : ¬ x3 ≤ 3 := p4
          obtain rfl : r = false := by rw [hr]; exact decide_eq_false (fun h => p4 h.2.2.2.1)
          clear p4 hr
          go_enter Try.func29, Try.ntmps29
          go_wp2
          go_ret
          exact ⟨rfl, hk⟩
      · have dp30 : decide (1 ≤ x3) = false := decide_eq_false p3
        have dp31 : ¬ 1 ≤ x3 := p3
        obtain rfl : r = false := by rw [hr]; exact decide_eq_false (fun h => p3 h.2.2.1)
        clear p3 hr
        go_enter Try.func29, Try.ntmps29
        go_wp2
        go_ret
        exact ⟨rfl, hk⟩
    · have dp20 : (x2 != 0) = false := by simpa using p2
      obtain rfl : r = false := by rw [hr]; exact decide_eq_false (fun h => p2 h.2.1)
      clear p2 hr
      go_enter Try.func29, Try.ntmps29
      go_wp2
      go_ret
      exact ⟨rfl, hk⟩
  · have dp10 : (x0 != 0) = false := by simpa using p1
    obtain rfl : r = false := by rw [hr]; exact decide_eq_false (fun h => p1 h.1)
    clear p1 hr
    go_enter Try.func29, Try.ntmps29
    go_wp2
    go_ret
    exact ⟨rfl, hk⟩

set_option maxRecDepth 100000 in
theorem less_any (w : World) (x y : Opn) : Calls Try.prog 31 #[opV x, opV y] w fun e w' => e = .returned (.bool (decide (keyLt x y))) ∧ Only [] w w' := by
  obtain ⟨r, hr⟩ : ∃ r, r = decide (keyLt x y) := ⟨_, rfl⟩
  rw [← hr]
  obtain ⟨x0, x1, x2, x3, x4⟩ := x
  obtain ⟨y0, y1, y2, y3, y4⟩ := y
  have hk : Only [] w ((w.alloc (.cells #[.int .u32 x0, .int .u32 x1, .int .u32 x2, .int .u32 x3, .int .u32 (x4 : Int)] 27)).alloc (.cells #[.int .u32 y0, .int .u32 y1, .int .u32 y2, .int .u32 y3, .int .u32 (y4 : Int)] 27)) := ((Only.refl [] w).alloc _).alloc _
  unfold keyLt at hr
  unfold opV
  simp only at hr ⊢
  by_cases p1 : x0 < y0
  · have dp10 : decide (x0 < y0) = true := decide_eq_true p1
    have dp11 : x0 < y0 := p1
    obtain rfl : r = true := by rw [hr]; exact decide_eq_true (.inl p1)
    clear hr p1
    go_enter Try.func31, Try.ntmps31
    go_wp2
    go_ret
    exact ⟨rfl, hk⟩
  · have dp10 : decide (x0 < y0) = false := decide_eq_false p1
    have dp11 : ¬ x0 < y0 := p1
    by_cases p2 : x0 = y0
    · have dp20 : (x0 == y0) = true := by simpa using p2
      by_cases p3 : x1 < y1
      · have dp30 : decide (x1 < y1) = true := decide_eq_true p3
        have dp31 : x1 < y1 := p3
        obtain rfl : r = true := by rw [hr]; exact decide_eq_true (.inr ⟨p2, p3⟩)
        clear hr p1 p2 p3
        go_enter Try.func31, Try.ntmps31
        go_wp2
        go_ret
        exact ⟨rfl, hk⟩
      · have dp30 : decide (x1 < y1) = false := decide_eq_false p3
        have dp31 : ¬ x1 < y1 := p3
        obtain rfl : r = false := by rw [hr]; exact decide_eq_false (by omega)
        clear hr p1 p2 p3
        go_enter Try.func31, Try.ntmps31
        go_wp2
        go_ret
        exact ⟨rfl, hk⟩
    · have dp20 : (x0 == y0) = false := by simpa using p2
      obtain rfl : r = false := by rw [hr]; exact decide_eq_false (by omega)
      clear hr p1 p2
      go_enter Try.func31, Try.ntmps31
      go_wp2
      go_ret
      exact ⟨rfl, hk⟩

theorem small3 {a : Int} (h1 : 0 ≤ a) (h2 : a ≤ 3) : a = 0 ∨ a = 1 ∨ a = 2 ∨ a = 3 := by omega
set_option maxRecDepth 100000 in
theorem bit_any (w : World) (a b : Int) (ha : 0 ≤ a ∧ a ≤ 3) (hb : 0 ≤ b ∧ b ≤ 3) : Calls Try.prog 47 #[.int .u32 a, .int .u32 b] w fun e w' => e = .returned (.bool (decide (bitI a b))) ∧ w' = w := by
  obtain ⟨r, hr⟩ : ∃ r, r = decide (bitI a b) := ⟨_, rfl⟩
  rw [← hr]
  rcases small3 ha.1 ha.2 with rfl | rfl | rfl | rfl <;> rcases small3 hb.1 hb.2 with rfl | rfl | rfl | rfl <;>
  · go_enter Try.func47, Try.ntmps47
    go_wp2
    go_ret
    exact ⟨by rw [hr]; kernel_rfl, rfl⟩
theorem and_small (a : Int) (d : Nat) (ha : 0 ≤ a ∧ a ≤ 3) (hd : d ≤ 3) : (bits .and .u32 a (d : Int) != 0) = decide (bitI a d) := by
  have hd' : (0 : Int) ≤ d ∧ (d : Int) ≤ 3 := by omega
  generalize (d : Int) = b at *
  rcases small3 ha.1 ha.2 with rfl | rfl | rfl | rfl <;> rcases small3 hd'.1 hd'.2 with rfl | rfl | rfl | rfl <;> decide +kernel

set_option maxRecDepth 100000 in
theorem conflict_any (w : World) (x y : Opn) (hx : validO x) (hy : validO y) : Calls Try.prog 44 #[opV x, opV y] w fun e w' => e = .returned (.bool (decide (clashO x y))) ∧ Only [] w w' := by
  obtain ⟨r, hr⟩ : ∃ r, r = decide (clashO x y) := ⟨_, rfl⟩
  rw [← hr]
  have hx3 : 0 ≤ x.access ∧ x.access ≤ 3 := ⟨by have := hx.2.2.1; omega, hx.2.2.2.1⟩
  have hy3 : 0 ≤ y.access ∧ y.access ≤ 3 := ⟨by have := hy.2.2.1; omega, hy.2.2.2.1⟩
  have hx4 : x.deny ≤ 3 := hx.2.2.2.2
  have hy4 : y.deny ≤ 3 := hy.2.2.2.2
  have a1 := and_small x.access y.deny hx3 hy4
  have a2 := and_small y.access x.deny hy3 hx4
  have b1 := fun W => bit_any W x.access y.deny hx3 (by omega)
  have b2 := fun W => bit_any W y.access x.deny hy3 (by omega)
  clear hx hy hx3 hy3 hx4 hy4
  obtain ⟨x0, x1, x2, x3, x4⟩ := x
  obtain ⟨y0, y1, y2, y3, y4⟩ := y
  have hk : Only [] w ((w.alloc (.cells #[.int .u32 x0, .int .u32 x1, .int .u32 x2, .int .u32 x3, .int .u32 (x4 : Int)] 27)).alloc (.cells #[.int .u32 y0, .int .u32 y1, .int .u32 y2, .int .u32 y3, .int .u32 (y4 : Int)] 27)) := ((Only.refl [] w).alloc _).alloc _
  unfold clashO at hr
  unfold opV
  simp only at hr a1 a2 b1 b2 ⊢
  clear b1 b2
  by_cases p1 : x2 = y2
  · have dp10 : (x2 == y2) = true := by simpa using p1
    by_cases p2 : bitI x3 (y4 : Int)
    · obtain rfl : r = true := by rw [hr]; exact decide_eq_true ⟨p1, .inl p2⟩
      rw [decide_eq_true p2] at a1
      clear hr p1 p2
      go_enter Try.func44, Try.ntmps44
      go_wp2
      go_ret
      exact ⟨rfl, hk⟩
    ·
      by_cases p3 : bitI y3 (x4 : Int)
      · obtain rfl : r = true := by rw [hr]; exact decide_eq_true ⟨p1, .inr p3⟩
        rw [decide_eq_false p2] at a1
        rw [decide_eq_true p3] at a2
        clear hr p1 p2 p3
        go_enter Try.func44, Try.ntmps44
        go_wp2
        go_ret
        exact ⟨rfl, hk⟩
      · obtain rfl : r = false := by rw [hr]; exact decide_eq_false (fun h => h.2.elim p2 p3)
        rw [decide_eq_false p2] at a1
        rw [decide_eq_false p3] at a2
        clear hr p1 p2 p3
        go_enter Try.func44, Try.ntmps44
        go_wp2
        go_ret
        exact ⟨rfl, hk⟩
  · have dp10 : (x2 == y2) = false := by simpa using p1
    obtain rfl : r = false := by rw [hr]; exact decide_eq_false (fun h => p1 h.1)
    clear hr p1
    go_enter Try.func44, Try.ntmps44
    go_wp2
    go_ret
    exact ⟨rfl, hk⟩

set_option maxRecDepth 100000 in
theorem clash_any (w : World) (x y : Opn) (hx : validO x) (hy : validO y) : Calls Try.prog 32 #[opV x, opV y] w fun e w' => e = .returned (.bool (decide (clashO x y))) ∧ Only [] w w' := by
  obtain ⟨r, hr⟩ : ∃ r, r = decide (clashO x y) := ⟨_, rfl⟩
  rw [← hr]
  have hx3 : 0 ≤ x.access ∧ x.access ≤ 3 := ⟨by have := hx.2.2.1; omega, hx.2.2.2.1⟩
  have hy3 : 0 ≤ y.access ∧ y.access ≤ 3 := ⟨by have := hy.2.2.1; omega, hy.2.2.2.1⟩
  have hx4 : x.deny ≤ 3 := hx.2.2.2.2
  have hy4 : y.deny ≤ 3 := hy.2.2.2.2
  have a1 := and_small x.access y.deny hx3 hy4
  have a2 := and_small y.access x.deny hy3 hx4
  have b1 := fun W => bit_any W x.access y.deny hx3 (by omega)
  have b2 := fun W => bit_any W y.access x.deny hy3 (by omega)
  clear hx hy hx3 hy3 hx4 hy4
  obtain ⟨x0, x1, x2, x3, x4⟩ := x
  obtain ⟨y0, y1, y2, y3, y4⟩ := y
  have hk : Only [] w ((w.alloc (.cells #[.int .u32 x0, .int .u32 x1, .int .u32 x2, .int .u32 x3, .int .u32 (x4 : Int)] 27)).alloc (.cells #[.int .u32 y0, .int .u32 y1, .int .u32 y2, .int .u32 y3, .int .u32 (y4 : Int)] 27)) := ((Only.refl [] w).alloc _).alloc _
  unfold clashO at hr
  unfold opV
  simp only at hr a1 a2 b1 b2 ⊢
  clear a1 a2
  by_cases p1 : x2 = y2
  · have dp10 : (x2 == y2) = true := by simpa using p1
    by_cases p2 : bitI x3 (y4 : Int)
    · obtain rfl : r = true := by rw [hr]; exact decide_eq_true ⟨p1, .inl p2⟩
      rw [decide_eq_true p2] at b1
      clear hr p1 p2
      replace b1 := Lib.hid b1
      replace b2 := Lib.hid b2
      go_enter Try.func32, Try.ntmps32
      go_wp2_with fail
      refine (b1.out _).mono ?_; rintro e w1 ⟨rfl, rfl⟩
      go_wp2
      go_ret
      exact ⟨rfl, hk⟩
    ·
      by_cases p3 : bitI y3 (x4 : Int)
      · obtain rfl : r = true := by rw [hr]; exact decide_eq_true ⟨p1, .inr p3⟩
        rw [decide_eq_false p2] at b1
        rw [decide_eq_true p3] at b2
        clear hr p1 p2 p3
        replace b1 := Lib.hid b1
        replace b2 := Lib.hid b2
        go_enter Try.func32, Try.ntmps32
        go_wp2_with fail
        refine (b1.out _).mono ?_; rintro e w1 ⟨rfl, rfl⟩
        go_wp2_with fail
        refine (b2.out _).mono ?_; rintro e w2 ⟨rfl, rfl⟩
        go_wp2
        go_ret
        exact ⟨rfl, hk⟩
      · obtain rfl : r = false := by rw [hr]; exact decide_eq_false (fun h => h.2.elim p2 p3)
        rw [decide_eq_false p2] at b1
        rw [decide_eq_false p3] at b2
        clear hr p1 p2 p3
        replace b1 := Lib.hid b1
        replace b2 := Lib.hid b2
        go_enter Try.func32, Try.ntmps32
        go_wp2_with fail
        refine (b1.out _).mono ?_; rintro e w1 ⟨rfl, rfl⟩
        go_wp2_with fail
        refine (b2.out _).mono ?_; rintro e w2 ⟨rfl, rfl⟩
        go_wp2
        go_ret
        exact ⟨rfl, hk⟩
  · have dp10 : (x2 == y2) = false := by simpa using p1
    obtain rfl : r = false := by rw [hr]; exact decide_eq_false (fun h => p1 h.1)
    clear hr p1
    replace b1 := Lib.hid b1
    replace b2 := Lib.hid b2
    go_enter Try.func32, Try.ntmps32
    go_wp2
    go_ret
    exact ⟨rfl, hk⟩

end Go.Proofs.Ythclpefomhakdaa
