/- The walk of PlaneAdds: distances add up, and are one more for the next unit. -/
import Derived.Test.YthmicabihpfeiaaSteps
namespace Go.Proofs.Ythmicabihpfeiaa
open Go.RowKit Go.Proofs.Ythmicabihpfeiaa.Fl

theorem unit_back (k n : Int) : k / n * n + k % n = k := by rw [Int.mul_comm]; exact Int.mul_ediv_add_emod k n

theorem between_units (x y x' y' : Nat) (k k' n : Int) (w : World) (h : At x y (k % n) (k / n) n) (h' : At x' y' (k' % n) (k' / n) n) :
    Calls Try.prog 16 #[.complex .f64 x y, .complex .f64 x' y', .int .i64 n] w fun e w' => e = .returned (.tuple #[.int .i64 (k' - k), .bool true]) ∧ w = w' := by
  have := between_yes x y x' y' _ _ _ _ n w h h'
  rw [unit_back, unit_back] at this
  exact this

theorem rows_last {k n : Int} (h : k / n = 2147483647) {y : Nat} (hy : Whole y (k / n)) :
    (FloatKind.f64.format.order y 4746794007244308480 == some .gt || FloatKind.f64.format.order y 4746794007244308480 == some .eq) = true := by
  rw [ge_num hy whole_last, h]; rfl

set_option maxHeartbeats 2000000 in
theorem planeAdds_walk (a b c n : Int) (ha : 0 ≤ a ∧ a ≤ 4294967295) (hb : 0 ≤ b ∧ b ≤ 4294967295) (hc : 0 ≤ c ∧ c ≤ 4294967295) (w : World) :
    Calls Try.prog 7 #[.int .u32 a, .int .u32 b, .int .u32 c, .int .i64 n] w fun e w' => e = .returned (.bool true) ∧ Grown w w' := by
  by_cases h1 : n < 1
  · go_enter Try.func7, Try.ntmps7
    go_wp2_with fail
    refine (alive_any _).mono ?_; rintro e w1 ⟨rfl, hg1⟩
    go_wp2_with fail
    refine (alive_any _).mono ?_; rintro e w2 ⟨rfl, hg2⟩
    go_wp2_with fail
    go_ret; exact ⟨rfl, Grown.trans hg1 hg2⟩
  by_cases h2 : 16 < n
  · have q1 : decide (n < 1) = false := by simp; omega
    have q2 : decide (16 < n) = true := by simp; omega
    go_enter Try.func7, Try.ntmps7
    go_wp2_with fail
    refine (alive_any _).mono ?_; rintro e w1 ⟨rfl, hg1⟩
    go_wp2_with fail
    refine (alive_any _).mono ?_; rintro e w2 ⟨rfl, hg2⟩
    go_wp2_with fail
    go_ret; exact ⟨rfl, Grown.trans hg1 hg2⟩
  have n1 : 1 ≤ n := by omega
  have n2 : n ≤ 16 := by omega
  clear h1 h2
  obtain ⟨i, hi⟩ : ∃ i, i = a % 2147483648 := ⟨_, rfl⟩
  obtain ⟨j, hj⟩ : ∃ j, j = b % 2147483648 := ⟨_, rfl⟩
  obtain ⟨k, hk⟩ : ∃ k, k = c % 2147483648 := ⟨_, rfl⟩
  have i0 : 0 ≤ i := by omega
  have i1 : i < 2147483648 := by omega
  have j0 : 0 ≤ j := by omega
  have j1 : j < 2147483648 := by omega
  have k0 : 0 ≤ k := by omega
  have k1 : k < 2147483648 := by omega
  have hati := at_place n1 n2 i0 (by omega : i < n * 2147483648)
  have hatj := at_place n1 n2 j0 (by omega : j < n * 2147483648)
  have hatk := at_place n1 n2 k0 (by omega : k < n * 2147483648)
  have Hi := Lib.hid hi
  have Hj := Lib.hid hj
  have Hk := Lib.hid hk
  clear hi hj hk
  have q3 : (j - i + (k - j) != k - i) = false := by simp; omega
  have q4 : (k + 1 - i == k - i + 1) = true := by simp; omega
  rcases fit_or_bad (k + 1) n with hm | hm
  · go_enter Try.func7, Try.ntmps7
    go_wp2_with fail
    refine (alive_any _).mono ?_; rintro e w1 ⟨rfl, hg1⟩
    go_wp2_with fail
    rw [← Hi.out]
    refine (place_yes i n _ n1 n2 i0 (by omega)).mono ?_; rintro e w2 ⟨rfl, hg2⟩
    go_wp2_with fail
    rw [← Hj.out]
    refine (place_yes j n _ n1 n2 j0 (by omega)).mono ?_; rintro e w3 ⟨rfl, hg3⟩
    go_wp2_with fail
    rw [← Hk.out]
    refine (place_yes k n _ n1 n2 k0 (by omega)).mono ?_; rintro e w4 ⟨rfl, hg4⟩
    go_wp2_with fail
    refine (between_units _ _ _ _ i j n _ hati hatj).mono ?_; rintro e w' ⟨rfl, rfl⟩
    go_wp2_with fail
    refine (between_units _ _ _ _ j k n _ hatj hatk).mono ?_; rintro e w' ⟨rfl, rfl⟩
    go_wp2_with fail
    refine (between_units _ _ _ _ i k n _ hati hatk).mono ?_; rintro e w' ⟨rfl, rfl⟩
    go_wp2_with fail
    rw [← Hi.out]
    refine (rok_yes i n _ n1 n2 i0 (by omega)).mono ?_; rintro e w' ⟨rfl, rfl⟩
    go_wp2_with fail
    obtain ⟨u, v, huv, hs⟩ := step_unit k n _ _ w4 hatk hm
    refine hs.mono ?_; rintro e w' ⟨rfl, rfl⟩
    clear hs
    go_wp2_with fail
    refine (between_units _ _ _ _ i (k + 1) n _ hati huv).mono ?_; rintro e w' ⟨rfl, rfl⟩
    go_wp2_with fail
    refine (alive_any _).mono ?_; rintro e w5 ⟨rfl, hg5⟩
    go_wp2_with fail
    go_ret; exact ⟨rfl, Grown.trans (Grown.trans hg1 hg2) (Grown.trans hg3 (Grown.trans hg4 hg5))⟩
  · have hl := (end_unit k n _ _ w hatk hm).1
    have hr := rows_last hl hatk.2.1
    clear hl
    go_enter Try.func7, Try.ntmps7
    go_wp2_with fail
    refine (alive_any _).mono ?_; rintro e w1 ⟨rfl, hg1⟩
    go_wp2_with fail
    rw [← Hi.out]
    refine (place_yes i n _ n1 n2 i0 (by omega)).mono ?_; rintro e w2 ⟨rfl, hg2⟩
    go_wp2_with fail
    rw [← Hj.out]
    refine (place_yes j n _ n1 n2 j0 (by omega)).mono ?_; rintro e w3 ⟨rfl, hg3⟩
    go_wp2_with fail
    rw [← Hk.out]
    refine (place_yes k n _ n1 n2 k0 (by omega)).mono ?_; rintro e w4 ⟨rfl, hg4⟩
    go_wp2_with fail
    refine (between_units _ _ _ _ i j n _ hati hatj).mono ?_; rintro e w' ⟨rfl, rfl⟩
    go_wp2_with fail
    refine (between_units _ _ _ _ j k n _ hatj hatk).mono ?_; rintro e w' ⟨rfl, rfl⟩
    go_wp2_with fail
    refine (between_units _ _ _ _ i k n _ hati hatk).mono ?_; rintro e w' ⟨rfl, rfl⟩
    go_wp2_with fail
    rw [← Hi.out]
    refine (rok_yes i n _ n1 n2 i0 (by omega)).mono ?_; rintro e w' ⟨rfl, rfl⟩
    go_wp2_with fail
    refine (end_unit k n _ _ w4 hatk hm).2.mono ?_; rintro e w' ⟨rfl, rfl⟩
    go_wp2_with fail
    refine (alive_any _).mono ?_; rintro e w5 ⟨rfl, hg5⟩
    go_wp2_with fail
    go_ret; exact ⟨rfl, Grown.trans (Grown.trans hg1 hg2) (Grown.trans hg3 (Grown.trans hg4 hg5))⟩

end Go.Proofs.Ythmicabihpfeiaa
