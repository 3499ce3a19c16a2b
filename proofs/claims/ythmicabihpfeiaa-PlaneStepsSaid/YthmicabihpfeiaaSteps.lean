/- The walk of PlaneSteps: the next unit's place is the document's. -/
import Derived.Test.YthmicabihpfeiaaLaws
namespace Go.Proofs.Ythmicabihpfeiaa
open Go.RowKit Go.Proofs.Ythmicabihpfeiaa.Fl

theorem unit_parts (c r n : Int) (c0 : 0 ≤ c) (c1 : c < n) : (r * n + c) % n = c ∧ (r * n + c) / n = r := by
  constructor
  · rw [Int.add_comm, Int.add_mul_emod_self_right, Int.emod_eq_of_lt c0 c1]
  · rw [Int.add_comm, Int.add_mul_ediv_right _ _ (by omega), Int.ediv_eq_zero_of_lt c0 c1, Int.zero_add]

/-- A place's unit is right. -/
theorem fit_at {x y : Nat} {c r n : Int} (h : At x y c r n) : Fit (r * n + c) n := by
  obtain ⟨_, _, c0, c1, r0, r1, n1, n2⟩ := h
  have hb := mul_bd r n r0 r1 n1 n2
  refine ⟨n1, n2, by omega, ?_⟩
  calc r * n + c < r * n + n := by omega
    _ = (r + 1) * n := by rw [Int.add_mul, Int.one_mul]
    _ ≤ 2147483648 * n := Int.mul_le_mul_of_nonneg_right (by omega) (by omega)
    _ = n * 2147483648 := Int.mul_comm _ _

theorem step_next (x y : Nat) (c r n : Int) (w : World) (h : At x y c r n) (hf : Fit (r * n + c + 1) n) :
    ∃ u v, At u v ((r * n + c + 1) % n) ((r * n + c + 1) / n) n ∧ Calls Try.prog 15 #[.complex .f64 x y, .int .i64 n] w fun e w' => e = .returned (.tuple #[.complex .f64 u v, .bool true]) ∧ w = w' := by
  obtain ⟨hx, hy, c0, c1, r0, r1, n1, n2⟩ := id h
  by_cases hc : c + 1 < n
  · have := unit_parts (c + 1) r n (by omega) hc
    rw [Int.add_assoc, this.1, this.2]
    exact step_on x y c r n w h hc
  · have hc' : c + 1 = n := by omega
    have e : r * n + c + 1 = (r + 1) * n + 0 := by rw [Int.add_mul, Int.one_mul, Int.add_assoc, hc']; omega
    have := unit_parts 0 (r + 1) n (by omega) (by omega)
    have hr : r + 1 < 2147483648 := by
      have := hf.2.2.2
      rw [e, Int.add_zero, Int.mul_comm n] at this
      exact Int.lt_of_mul_lt_mul_right this (by omega)
    rw [e, this.1, this.2]
    exact step_wrap x y c r n w h hc' hr

/-- Behind the last unit's place there is none. -/
theorem step_none (x y : Nat) (c r n : Int) (w : World) (h : At x y c r n) (hf : Bad (r * n + c + 1) n) :
    r = 2147483647 ∧ Calls Try.prog 15 #[.complex .f64 x y, .int .i64 n] w fun e w' => e = .returned (.tuple #[.complex .f64 0 0, .bool false]) ∧ w = w' := by
  obtain ⟨hx, hy, c0, c1, r0, r1, n1, n2⟩ := id h
  have hb := mul_bd r n r0 r1 n1 n2
  have h1 : n * 2147483648 ≤ r * n + c + 1 := by unfold Bad at hf; omega
  have hr : r = 2147483647 := by
    rcases Int.lt_or_le r 2147483647 with hl | hl
    · exfalso
      have : r * n ≤ 2147483646 * n := Int.mul_le_mul_of_nonneg_right (by omega) (by omega)
      omega
    · omega
  subst hr
  exact ⟨rfl, step_end x y c _ n w h (by omega) (by omega)⟩

/-- The place of unit k + 1 behind the place of unit k. -/
theorem step_unit (k n : Int) (x y : Nat) (w : World) (hk : At x y (k % n) (k / n) n) (hf : Fit (k + 1) n) :
    ∃ u v, At u v ((k + 1) % n) ((k + 1) / n) n ∧ Calls Try.prog 15 #[.complex .f64 x y, .int .i64 n] w fun e w' => e = .returned (.tuple #[.complex .f64 u v, .bool true]) ∧ w = w' := by
  have e : k / n * n + k % n = k := by rw [Int.mul_comm]; exact Int.mul_ediv_add_emod k n
  have := step_next x y _ _ n w hk (by rw [e]; exact hf)
  rw [e] at this
  exact this

theorem end_unit (k n : Int) (x y : Nat) (w : World) (hk : At x y (k % n) (k / n) n) (hf : Bad (k + 1) n) :
    k / n = 2147483647 ∧ Calls Try.prog 15 #[.complex .f64 x y, .int .i64 n] w fun e w' => e = .returned (.tuple #[.complex .f64 0 0, .bool false]) ∧ w = w' := by
  have e : k / n * n + k % n = k := by rw [Int.mul_comm]; exact Int.mul_ediv_add_emod k n
  exact step_none x y _ _ n w hk (by rw [e]; exact hf)

set_option maxHeartbeats 2000000 in
theorem planeSteps_walk (k n : Int) (x y : Nat) (hk : k ≤ 9223372036854775807) (w : World) :
    Calls Try.prog 4 #[.int .i64 k, .int .i64 n, .float .f64 x, .float .f64 y] w fun e w' => e = .returned (.bool true) ∧ Grown w w' := by
  have z0 := zero_eq
  rcases at_or_off x y n with ⟨c, r, h⟩ | h
  · have hu := fit_at h
    have p1 := h.2.2.1
    have p2 := h.2.2.2.1
    have p3 := h.2.2.2.2.1
    have p4 := h.2.2.2.2.2.1
    have n1 := h.2.2.2.2.2.2.1
    have n2 := h.2.2.2.2.2.2.2
    have hb := mul_bd r n p3 p4 n1 n2
    have q1 : decide (r * n + c < 0) = false := by simp; omega
    rcases fit_or_bad (r * n + c + 1) n with hf | hf
    · have hat1 := at_place hf.1 hf.2.1 hf.2.2.1 hf.2.2.2
      rcases fit_or_bad k n with hg | hg
      · have hatk := at_place hg.1 hg.2.1 hg.2.2.1 hg.2.2.2
        have k3 := hg.2.2.2
        have k4 : 0 ≤ k := hg.2.2.1
        have k5 : k ≤ 34359738368 := by omega
        have q2 : (k == 9223372036854775807) = false := by simp; omega
        rcases fit_or_bad (k + 1) n with hm | hm
        · have hatm := at_place hm.1 hm.2.1 hm.2.2.1 hm.2.2.2
          go_enter Try.func4, Try.ntmps4
          go_wp2_with fail
          refine (alive_any _).mono ?_; rintro e w1 ⟨rfl, hg1⟩
          go_wp2_with fail
          obtain ⟨u, v, huv, hc⟩ := step_next x y c r n w1 h hf
          refine hc.mono ?_; rintro e w' ⟨rfl, rfl⟩
          clear hc
          go_wp2_with fail
          refine (runit_yes x y c r n _ h).mono ?_; rintro e w' ⟨rfl, rfl⟩
          go_wp2_with fail
          refine (rok_yes _ n _ hf.1 hf.2.1 hf.2.2.1 hf.2.2.2).mono ?_; rintro e w' ⟨rfl, rfl⟩
          go_wp2_with fail
          refine (rplace_any _ n _ hf.1 hf.2.1 hf.2.2.1 hf.2.2.2).mono ?_; rintro e w2 ⟨rfl, hg2⟩
          go_wp2_with fail
          refine (same_yes _ _ _ _ _ _ n _ huv hat1).mono ?_; rintro e w' ⟨rfl, rfl⟩
          go_wp2_with fail
          refine (rok_yes k n _ hg.1 hg.2.1 hg.2.2.1 hg.2.2.2).mono ?_; rintro e w' ⟨rfl, rfl⟩
          go_wp2_with fail
          refine (rok_yes _ n _ hm.1 hm.2.1 hm.2.2.1 hm.2.2.2).mono ?_; rintro e w' ⟨rfl, rfl⟩
          go_wp2_with fail
          refine (rplace_any k n _ hg.1 hg.2.1 hg.2.2.1 hg.2.2.2).mono ?_; rintro e w3 ⟨rfl, hg3⟩
          go_wp2_with fail
          obtain ⟨u', v', huv', hc⟩ := step_unit k n _ _ w3 hatk hm
          refine hc.mono ?_; rintro e w' ⟨rfl, rfl⟩
          clear hc
          go_wp2_with fail
          refine (alive_any _).mono ?_; rintro e w4 ⟨rfl, hg4⟩
          go_wp2_with fail
          refine (rplace_any _ n _ hm.1 hm.2.1 hm.2.2.1 hm.2.2.2).mono ?_; rintro e w5 ⟨rfl, hg5⟩
          go_wp2_with fail
          refine (same_yes _ _ _ _ _ _ n _ huv' hatm).mono ?_; rintro e w' ⟨rfl, rfl⟩
          go_wp2_with fail
          go_ret; exact ⟨rfl, Grown.trans (Grown.trans hg1 hg2) (Grown.trans hg3 (Grown.trans hg4 hg5))⟩
        · go_enter Try.func4, Try.ntmps4
          go_wp2_with fail
          refine (alive_any _).mono ?_; rintro e w1 ⟨rfl, hg1⟩
          go_wp2_with fail
          obtain ⟨u, v, huv, hc⟩ := step_next x y c r n w1 h hf
          refine hc.mono ?_; rintro e w' ⟨rfl, rfl⟩
          clear hc
          go_wp2_with fail
          refine (runit_yes x y c r n _ h).mono ?_; rintro e w' ⟨rfl, rfl⟩
          go_wp2_with fail
          refine (rok_yes _ n _ hf.1 hf.2.1 hf.2.2.1 hf.2.2.2).mono ?_; rintro e w' ⟨rfl, rfl⟩
          go_wp2_with fail
          refine (rplace_any _ n _ hf.1 hf.2.1 hf.2.2.1 hf.2.2.2).mono ?_; rintro e w2 ⟨rfl, hg2⟩
          go_wp2_with fail
          refine (same_yes _ _ _ _ _ _ n _ huv hat1).mono ?_; rintro e w' ⟨rfl, rfl⟩
          go_wp2_with fail
          refine (rok_yes k n _ hg.1 hg.2.1 hg.2.2.1 hg.2.2.2).mono ?_; rintro e w' ⟨rfl, rfl⟩
          go_wp2_with fail
          refine (rok_no _ n _ (by omega) hm).mono ?_; rintro e w' ⟨rfl, rfl⟩
          go_wp2_with fail
          refine (alive_any _).mono ?_; rintro e w4 ⟨rfl, hg4⟩
          go_wp2_with fail
          go_ret; exact ⟨rfl, Grown.trans (Grown.trans hg1 hg2) hg4⟩
      · go_enter Try.func4, Try.ntmps4
        go_wp2_with fail
        refine (alive_any _).mono ?_; rintro e w1 ⟨rfl, hg1⟩
        go_wp2_with fail
        obtain ⟨u, v, huv, hc⟩ := step_next x y c r n w1 h hf
        refine hc.mono ?_; rintro e w' ⟨rfl, rfl⟩
        clear hc
        go_wp2_with fail
        refine (runit_yes x y c r n _ h).mono ?_; rintro e w' ⟨rfl, rfl⟩
        go_wp2_with fail
        refine (rok_yes _ n _ hf.1 hf.2.1 hf.2.2.1 hf.2.2.2).mono ?_; rintro e w' ⟨rfl, rfl⟩
        go_wp2_with fail
        refine (rplace_any _ n _ hf.1 hf.2.1 hf.2.2.1 hf.2.2.2).mono ?_; rintro e w2 ⟨rfl, hg2⟩
        go_wp2_with fail
        refine (same_yes _ _ _ _ _ _ n _ huv hat1).mono ?_; rintro e w' ⟨rfl, rfl⟩
        go_wp2_with fail
        refine (rok_no k n _ hk hg).mono ?_; rintro e w' ⟨rfl, rfl⟩
        go_wp2_with fail
        refine (alive_any _).mono ?_; rintro e w4 ⟨rfl, hg4⟩
        go_wp2_with fail
        go_ret; exact ⟨rfl, Grown.trans (Grown.trans hg1 hg2) hg4⟩
    · go_enter Try.func4, Try.ntmps4
      go_wp2_with fail
      refine (alive_any _).mono ?_; rintro e w1 ⟨rfl, hg1⟩
      go_wp2_with fail
      refine (step_none x y c r n w1 h hf).2.mono ?_; rintro e w' ⟨rfl, rfl⟩
      go_wp2_with fail
      refine (runit_yes x y c r n _ h).mono ?_; rintro e w' ⟨rfl, rfl⟩
      go_wp2_with fail
      refine (rok_no _ n _ (by omega) hf).mono ?_; rintro e w' ⟨rfl, rfl⟩
      go_wp2_with fail
      refine (alive_any _).mono ?_; rintro e w2 ⟨rfl, hg2⟩
      go_wp2_with fail
      go_ret; exact ⟨rfl, Grown.trans hg1 hg2⟩
  · go_enter Try.func4, Try.ntmps4
    go_wp2_with fail
    refine (alive_any _).mono ?_; rintro e w1 ⟨rfl, hg1⟩
    go_wp2_with fail
    refine (step_off x y n _ h).mono ?_; rintro e w' ⟨rfl, rfl⟩
    go_wp2_with fail
    refine (runit_no x y n _ h).mono ?_; rintro e w' ⟨rfl, rfl⟩
    go_wp2_with fail
    refine (alive_any _).mono ?_; rintro e w2 ⟨rfl, hg2⟩
    go_wp2_with fail
    go_ret; exact ⟨rfl, Grown.trans hg1 hg2⟩

end Go.Proofs.Ythmicabihpfeiaa
