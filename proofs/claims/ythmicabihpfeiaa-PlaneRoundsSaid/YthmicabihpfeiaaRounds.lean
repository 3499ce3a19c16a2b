/- The walk of PlaneRounds: so many steps on as there are columns lies the same column, a row further. -/
import Derived.Test.YthmicabihpfeiaaAdds
import Derived.LoopTactic
namespace Go.Proofs.Ythmicabihpfeiaa
open Go.RowKit Go.Proofs.Ythmicabihpfeiaa.Fl

/-- Where the loop stands: at the place of unit k + j. -/
def Rounding (k n : Int) (y i : Value) : Prop := ∃ (j : Nat) (u v : Nat), (j : Int) ≤ n ∧ i = .int .i64 j ∧ y = .complex .f64 u v ∧ At u v ((k + j) % n) ((k + j) / n) n

set_option maxHeartbeats 1000000 in
theorem planeRounds_walk (k n : Int) (hk : 0 ≤ k ∧ k ≤ 4294967295) (w : World) :
    Calls Try.prog 5 #[.int .u32 k, .int .i64 n] w fun e w' => e = .returned (.bool true) ∧ Grown w w' := by
  by_cases h1 : n < 1
  · go_enter Try.func5, Try.ntmps5
    go_wp2_with fail
    refine (alive_any _).mono ?_; rintro e w1 ⟨rfl, hg1⟩
    go_wp2_with fail
    refine (alive_any _).mono ?_; rintro e w2 ⟨rfl, hg2⟩
    go_wp2_with fail
    go_ret; exact ⟨rfl, Grown.trans hg1 hg2⟩
  by_cases h2 : 16 < n
  · have q1 : decide (n < 1) = false := by simp; omega
    have q2 : decide (16 < n) = true := by simp; omega
    go_enter Try.func5, Try.ntmps5
    go_wp2_with fail
    refine (alive_any _).mono ?_; rintro e w1 ⟨rfl, hg1⟩
    go_wp2_with fail
    refine (alive_any _).mono ?_; rintro e w2 ⟨rfl, hg2⟩
    go_wp2_with fail
    go_ret; exact ⟨rfl, Grown.trans hg1 hg2⟩
  have n1 : 1 ≤ n := by omega
  have n2 : n ≤ 16 := by omega
  have k0 : 0 ≤ k := hk.1
  have k9 : k ≤ 4294967295 := hk.2
  clear h1 h2 hk
  rcases fit_or_bad k n with hf | hf
  · have hat := at_place n1 n2 k0 hf.2.2.2
    go_enter Try.func5, Try.ntmps5
    go_wp2_with fail
    refine (alive_any _).mono ?_; rintro e w1 ⟨rfl, hg1⟩
    go_wp2_with fail
    refine (place_yes k n _ n1 n2 k0 hf.2.2.2).mono ?_; rintro e w2 ⟨rfl, hg2⟩
    go_wp2_with fail
    go_loop [7, 8] (fun y i => Rounding k n y i) (fun _ i => (n - intOf i).toNat)
    case atStart => exact ⟨0, _, _, by omega, rfl, rfl, by simpa using hat⟩
    case round =>
      obtain ⟨j, u, v, hj, rfl, rfl, hu⟩ := hrel
      by_cases hlt : (j : Int) < n
      · rcases fit_or_bad (k + j + 1) n with hm | hm
        · go_wp2_with fail
          obtain ⟨u', v', hu', hs⟩ := step_unit (k + j) n u v w2 hu hm
          refine hs.mono ?_; rintro e w' ⟨rfl, rfl⟩
          clear hs
          go_wp2_with fail
          go_round
          case rel => exact ⟨j + 1, u', v', by omega, by go_num, rfl, by rw [show k + ((j + 1 : Nat) : Int) = k + j + 1 by omega]; exact hu'⟩
          case measure => simp [intOf]; omega
        · have hl := end_unit (k + j) n u v w2 hu hm
          have hr := rows_last hl.1 hu.2.1
          go_wp2_with fail
          refine hl.2.mono ?_; rintro e w' ⟨rfl, rfl⟩
          clear hl
          go_wp2_with fail
          refine (alive_any _).mono ?_; rintro e w3 ⟨rfl, hg3⟩
          go_wp2_with fail
          go_ret; exact ⟨rfl, Grown.trans (Grown.trans hg1 hg2) hg3⟩
      · have hjn : (j : Int) = n := by omega
        have e1 : (k + j) % n = k % n := by rw [hjn]; exact Int.add_emod_right k n
        have e2 : (k + j) / n = k / n + 1 := by rw [hjn, Int.add_ediv_of_dvd_right ⟨1, by omega⟩, Int.ediv_self (by omega)]
        have hsum : ∃ p q, Whole p (k % n + 0) ∧ Whole q (k / n + 1) ∧ ∀ (t : TypeId) (w : World), (binOp .add t (.complex .f64 (floatOfInt .f64 (k % n)) (floatOfInt .f64 (k / n))) (.complex .f64 0 4607182418800017408)).run Try.prog w = .ok (.complex .f64 p q) w :=
          sum_parts hat.1 hat.2.1 whole_nought whole_one (by have := hat.2.2.1; have := hat.2.2.2.1; omega) (by have := hat.2.2.2.2.1; have := hat.2.2.2.2.2.1; omega)
        obtain ⟨p, q, hp, hq, s1⟩ := hsum
        have s2 := s1 24
        have g1 : (FloatKind.f64.format.order u p == some .eq) = true := by rw [eq_bool hu.1 hp, e1]; simp
        have g2 : (FloatKind.f64.format.order v q == some .eq) = true := by rw [eq_bool hu.2.1 hq, e2]; simp
        have g3 : (k + (j : Int) - k == n) = true := by simp; omega
        clear e1 e2 s1
        have H := Lib.hid hjn
        clear hjn
        go_wp2_with fail
        refine (between_units _ _ _ _ k (k + j) n _ hat hu).mono ?_; rintro e w' ⟨rfl, rfl⟩
        go_wp2_with fail
        refine (alive_any _).mono ?_; rintro e w3 ⟨rfl, hg3⟩
        go_wp2_with fail
        go_ret; exact ⟨rfl, Grown.trans (Grown.trans hg1 hg2) hg3⟩
  · have hb : 2147483648 ≤ k := by unfold Bad at hf; omega
    have hd : decide (2147483647 < k) = true := by simp; omega
    go_enter Try.func5, Try.ntmps5
    go_wp2_with fail
    refine (alive_any _).mono ?_; rintro e w1 ⟨rfl, hg1⟩
    go_wp2_with fail
    refine (place_no k n _ hf).mono ?_; rintro e w' ⟨rfl, rfl⟩
    go_wp2_with fail
    refine (alive_any _).mono ?_; rintro e w2 ⟨rfl, hg2⟩
    go_wp2_with fail
    go_ret; exact ⟨rfl, Grown.trans hg1 hg2⟩

end Go.Proofs.Ythmicabihpfeiaa
