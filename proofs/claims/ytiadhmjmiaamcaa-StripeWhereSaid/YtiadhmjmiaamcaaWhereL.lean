/- StripeWhere: where every byte lies, and which byte lies anywhere. -/
import Derived.Test.YtiadhmjmiaamcaaAlive6
namespace Go.Proofs.Ytiadhmjmiaamcaa
open Go.RowKit Go.Proofs.Ytiadhmjmiaamcaa.Fl

set_option maxHeartbeats 1000000 in
theorem stripeWhere_walk (w : World) (s u t x v a : Int) (a9 : a ≤ 9223372036854775807) :
    Calls Try.prog 3 #[.agg #[.int .i64 s, .int .i64 u, .int .i64 t], .int .i64 x, .int .i64 v, .int .i64 a] w fun e w' => e = .returned (.bool true) ∧ Only [] w w' := by
  by_cases hr : Rt s u t
  · have R := Lib.hid hr
    by_cases hb : 1 ≤ v ∧ v ≤ s ∧ 0 ≤ a ∧ bck s u t v a < 1024
    · have B := Lib.hid hb
      have q : decide (bck s u t v a < 0) = false := by have := (where_bck (t := t) hr.1 hr.2.2.1 hb.1 hb.2.1 hb.2.2.1).1; simp; omega
      clear hr hb
      by_cases h0 : x < 0
      · have X := Lib.hid (show ¬ (Rt s u t ∧ 0 ≤ x ∧ x < 1024) from fun h => by omega)
        go_enter Try.func3, Try.ntmps3
        go_wp2_with fail
        refine (alive_any _).mono ?_; rintro e w1 ⟨rfl, j1⟩
        have k1 := j1
        obtain ⟨c0, c1, c2⟩ := box3 k1
        go_wp2_with fail
        refine (where_no s u t x _ X.out).mono ?_; rintro e w2 ⟨rfl, j2⟩
        have k2 := k1.trans j2
        clear c0 c1 c2
        obtain ⟨c0, c1, c2⟩ := box3 k2
        go_wp2_with fail
        refine (back_ok s u t v a _ R.out B.out.1 B.out.2.1 B.out.2.2.1 a9 B.out.2.2.2).mono ?_; rintro e w3 ⟨rfl, j3⟩
        have k3 := k2.trans j3
        clear c0 c1 c2
        obtain ⟨c0, c1, c2⟩ := box3 k3
        go_wp2_with fail
        refine (rright_yes s u t _ R.out).mono ?_; rintro e w4 ⟨rfl, j4⟩
        have k4 := k3.trans j4
        clear c0 c1 c2
        obtain ⟨c0, c1, c2⟩ := box3 k4
        go_wp2_with fail
        refine (alive_any _).mono ?_; rintro e w5 ⟨rfl, j5⟩
        have k5 := k4.trans j5
        clear c0 c1 c2
        obtain ⟨c0, c1, c2⟩ := box3 k5
        go_wp2_with fail
        refine (right_yes s u t _ R.out).mono ?_; rintro e w6 ⟨rfl, j6⟩
        have k6 := k5.trans j6
        clear c0 c1 c2
        obtain ⟨c0, c1, c2⟩ := box3 k6
        go_wp2_with fail
        refine (rback_ok s u t v a _ R.out B.out.1 B.out.2.1 B.out.2.2.1 B.out.2.2.2).mono ?_; rintro e w7 ⟨rfl, j7⟩
        have k7 := k6.trans j7
        clear c0 c1 c2
        obtain ⟨c0, c1, c2⟩ := box3 k7
        go_wp2
        go_ret
        exact ⟨rfl, k7.boxed⟩
      · have d0 : decide (x < 0) = false := by simp; omega
        by_cases h1 : 1023 < x
        · have X := Lib.hid (show ¬ (Rt s u t ∧ 0 ≤ x ∧ x < 1024) from fun h => by omega)
          have d1 : decide (1023 < x) = true := by simp; omega
          clear h0 h1
          go_enter Try.func3, Try.ntmps3
          go_wp2_with fail
          refine (alive_any _).mono ?_; rintro e w1 ⟨rfl, j1⟩
          have k1 := j1
          obtain ⟨c0, c1, c2⟩ := box3 k1
          go_wp2_with fail
          refine (where_no s u t x _ X.out).mono ?_; rintro e w2 ⟨rfl, j2⟩
          have k2 := k1.trans j2
          clear c0 c1 c2
          obtain ⟨c0, c1, c2⟩ := box3 k2
          go_wp2_with fail
          refine (back_ok s u t v a _ R.out B.out.1 B.out.2.1 B.out.2.2.1 a9 B.out.2.2.2).mono ?_; rintro e w3 ⟨rfl, j3⟩
          have k3 := k2.trans j3
          clear c0 c1 c2
          obtain ⟨c0, c1, c2⟩ := box3 k3
          go_wp2_with fail
          refine (rright_yes s u t _ R.out).mono ?_; rintro e w4 ⟨rfl, j4⟩
          have k4 := k3.trans j4
          clear c0 c1 c2
          obtain ⟨c0, c1, c2⟩ := box3 k4
          go_wp2_with fail
          refine (alive_any _).mono ?_; rintro e w5 ⟨rfl, j5⟩
          have k5 := k4.trans j5
          clear c0 c1 c2
          obtain ⟨c0, c1, c2⟩ := box3 k5
          go_wp2_with fail
          refine (right_yes s u t _ R.out).mono ?_; rintro e w6 ⟨rfl, j6⟩
          have k6 := k5.trans j6
          clear c0 c1 c2
          obtain ⟨c0, c1, c2⟩ := box3 k6
          go_wp2_with fail
          refine (rback_ok s u t v a _ R.out B.out.1 B.out.2.1 B.out.2.2.1 B.out.2.2.2).mono ?_; rintro e w7 ⟨rfl, j7⟩
          have k7 := k6.trans j7
          clear c0 c1 c2
          obtain ⟨c0, c1, c2⟩ := box3 k7
          go_wp2
          go_ret
          exact ⟨rfl, k7.boxed⟩
        · have X := Lib.hid (show 0 ≤ x ∧ x < 1024 by omega)
          have d1 : decide (1023 < x) = false := by simp; omega
          clear h0 h1
          go_enter Try.func3, Try.ntmps3
          go_wp2_with fail
          refine (alive_any _).mono ?_; rintro e w1 ⟨rfl, j1⟩
          have k1 := j1
          obtain ⟨c0, c1, c2⟩ := box3 k1
          go_wp2_with fail
          refine (where_ok s u t x _ R.out X.out.1 X.out.2).mono ?_; rintro e w2 ⟨rfl, j2⟩
          have k2 := k1.trans j2
          clear c0 c1 c2
          obtain ⟨c0, c1, c2⟩ := box3 k2
          go_wp2_with fail
          refine (back_ok s u t v a _ R.out B.out.1 B.out.2.1 B.out.2.2.1 a9 B.out.2.2.2).mono ?_; rintro e w3 ⟨rfl, j3⟩
          have k3 := k2.trans j3
          clear c0 c1 c2
          obtain ⟨c0, c1, c2⟩ := box3 k3
          go_wp2_with fail
          refine (rright_yes s u t _ R.out).mono ?_; rintro e w4 ⟨rfl, j4⟩
          have k4 := k3.trans j4
          clear c0 c1 c2
          obtain ⟨c0, c1, c2⟩ := box3 k4
          go_wp2_with fail
          refine (alive_any _).mono ?_; rintro e w5 ⟨rfl, j5⟩
          have k5 := k4.trans j5
          clear c0 c1 c2
          obtain ⟨c0, c1, c2⟩ := box3 k5
          go_wp2_with fail
          refine (right_yes s u t _ R.out).mono ?_; rintro e w6 ⟨rfl, j6⟩
          have k6 := k5.trans j6
          clear c0 c1 c2
          obtain ⟨c0, c1, c2⟩ := box3 k6
          go_wp2_with fail
          refine (rwhere_any s u t x _ R.out X.out.1 X.out.2).mono ?_; rintro e w7 ⟨rfl, j7⟩
          have k7 := k6.trans j7
          clear c0 c1 c2
          obtain ⟨c0, c1, c2⟩ := box3 k7
          go_wp2_with fail
          refine (rback_ok s u t v a _ R.out B.out.1 B.out.2.1 B.out.2.2.1 B.out.2.2.2).mono ?_; rintro e w8 ⟨rfl, j8⟩
          have k8 := k7.trans j8
          clear c0 c1 c2
          obtain ⟨c0, c1, c2⟩ := box3 k8
          go_wp2
          go_ret
          exact ⟨rfl, k8.boxed⟩
    · have B := Lib.hid hb
      have hB : ¬ (Rt s u t ∧ 1 ≤ v ∧ v ≤ s ∧ 0 ≤ a ∧ bck s u t v a < 1024) := fun h => hb h.2
      replace hB := Lib.hid hB
      clear hr hb
      by_cases h0 : x < 0
      · have X := Lib.hid (show ¬ (Rt s u t ∧ 0 ≤ x ∧ x < 1024) from fun h => by omega)
        go_enter Try.func3, Try.ntmps3
        go_wp2_with fail
        refine (alive_any _).mono ?_; rintro e w1 ⟨rfl, j1⟩
        have k1 := j1
        obtain ⟨c0, c1, c2⟩ := box3 k1
        go_wp2_with fail
        refine (where_no s u t x _ X.out).mono ?_; rintro e w2 ⟨rfl, j2⟩
        have k2 := k1.trans j2
        clear c0 c1 c2
        obtain ⟨c0, c1, c2⟩ := box3 k2
        go_wp2_with fail
        refine (back_no s u t v a _ a9 hB.out).mono ?_; rintro e w3 ⟨rfl, j3⟩
        have k3 := k2.trans j3
        clear c0 c1 c2
        obtain ⟨c0, c1, c2⟩ := box3 k3
        go_wp2_with fail
        refine (rright_yes s u t _ R.out).mono ?_; rintro e w4 ⟨rfl, j4⟩
        have k4 := k3.trans j4
        clear c0 c1 c2
        obtain ⟨c0, c1, c2⟩ := box3 k4
        go_wp2_with fail
        refine (alive_any _).mono ?_; rintro e w5 ⟨rfl, j5⟩
        have k5 := k4.trans j5
        clear c0 c1 c2
        obtain ⟨c0, c1, c2⟩ := box3 k5
        go_wp2_with fail
        refine (right_yes s u t _ R.out).mono ?_; rintro e w6 ⟨rfl, j6⟩
        have k6 := k5.trans j6
        clear c0 c1 c2
        obtain ⟨c0, c1, c2⟩ := box3 k6
        go_wp2_with fail
        refine (rback_no s u t v a _ R.out B.out).mono ?_; rintro e w7 ⟨rfl, j7⟩
        have k7 := k6.trans j7
        clear c0 c1 c2
        obtain ⟨c0, c1, c2⟩ := box3 k7
        go_wp2
        go_ret
        exact ⟨rfl, k7.boxed⟩
      · have d0 : decide (x < 0) = false := by simp; omega
        by_cases h1 : 1023 < x
        · have X := Lib.hid (show ¬ (Rt s u t ∧ 0 ≤ x ∧ x < 1024) from fun h => by omega)
          have d1 : decide (1023 < x) = true := by simp; omega
          clear h0 h1
          go_enter Try.func3, Try.ntmps3
          go_wp2_with fail
          refine (alive_any _).mono ?_; rintro e w1 ⟨rfl, j1⟩
          have k1 := j1
          obtain ⟨c0, c1, c2⟩ := box3 k1
          go_wp2_with fail
          refine (where_no s u t x _ X.out).mono ?_; rintro e w2 ⟨rfl, j2⟩
          have k2 := k1.trans j2
          clear c0 c1 c2
          obtain ⟨c0, c1, c2⟩ := box3 k2
          go_wp2_with fail
          refine (back_no s u t v a _ a9 hB.out).mono ?_; rintro e w3 ⟨rfl, j3⟩
          have k3 := k2.trans j3
          clear c0 c1 c2
          obtain ⟨c0, c1, c2⟩ := box3 k3
          go_wp2_with fail
          refine (rright_yes s u t _ R.out).mono ?_; rintro e w4 ⟨rfl, j4⟩
          have k4 := k3.trans j4
          clear c0 c1 c2
          obtain ⟨c0, c1, c2⟩ := box3 k4
          go_wp2_with fail
          refine (alive_any _).mono ?_; rintro e w5 ⟨rfl, j5⟩
          have k5 := k4.trans j5
          clear c0 c1 c2
          obtain ⟨c0, c1, c2⟩ := box3 k5
          go_wp2_with fail
          refine (right_yes s u t _ R.out).mono ?_; rintro e w6 ⟨rfl, j6⟩
          have k6 := k5.trans j6
          clear c0 c1 c2
          obtain ⟨c0, c1, c2⟩ := box3 k6
          go_wp2_with fail
          refine (rback_no s u t v a _ R.out B.out).mono ?_; rintro e w7 ⟨rfl, j7⟩
          have k7 := k6.trans j7
          clear c0 c1 c2
          obtain ⟨c0, c1, c2⟩ := box3 k7
          go_wp2
          go_ret
          exact ⟨rfl, k7.boxed⟩
        · have X := Lib.hid (show 0 ≤ x ∧ x < 1024 by omega)
          have d1 : decide (1023 < x) = false := by simp; omega
          clear h0 h1
          go_enter Try.func3, Try.ntmps3
          go_wp2_with fail
          refine (alive_any _).mono ?_; rintro e w1 ⟨rfl, j1⟩
          have k1 := j1
          obtain ⟨c0, c1, c2⟩ := box3 k1
          go_wp2_with fail
          refine (where_ok s u t x _ R.out X.out.1 X.out.2).mono ?_; rintro e w2 ⟨rfl, j2⟩
          have k2 := k1.trans j2
          clear c0 c1 c2
          obtain ⟨c0, c1, c2⟩ := box3 k2
          go_wp2_with fail
          refine (back_no s u t v a _ a9 hB.out).mono ?_; rintro e w3 ⟨rfl, j3⟩
          have k3 := k2.trans j3
          clear c0 c1 c2
          obtain ⟨c0, c1, c2⟩ := box3 k3
          go_wp2_with fail
          refine (rright_yes s u t _ R.out).mono ?_; rintro e w4 ⟨rfl, j4⟩
          have k4 := k3.trans j4
          clear c0 c1 c2
          obtain ⟨c0, c1, c2⟩ := box3 k4
          go_wp2_with fail
          refine (alive_any _).mono ?_; rintro e w5 ⟨rfl, j5⟩
          have k5 := k4.trans j5
          clear c0 c1 c2
          obtain ⟨c0, c1, c2⟩ := box3 k5
          go_wp2_with fail
          refine (right_yes s u t _ R.out).mono ?_; rintro e w6 ⟨rfl, j6⟩
          have k6 := k5.trans j6
          clear c0 c1 c2
          obtain ⟨c0, c1, c2⟩ := box3 k6
          go_wp2_with fail
          refine (rwhere_any s u t x _ R.out X.out.1 X.out.2).mono ?_; rintro e w7 ⟨rfl, j7⟩
          have k7 := k6.trans j7
          clear c0 c1 c2
          obtain ⟨c0, c1, c2⟩ := box3 k7
          go_wp2_with fail
          refine (rback_no s u t v a _ R.out B.out).mono ?_; rintro e w8 ⟨rfl, j8⟩
          have k8 := k7.trans j8
          clear c0 c1 c2
          obtain ⟨c0, c1, c2⟩ := box3 k8
          go_wp2
          go_ret
          exact ⟨rfl, k8.boxed⟩
  · have R := Lib.hid hr
    have X := Lib.hid (show ¬ (Rt s u t ∧ 0 ≤ x ∧ x < 1024) from fun h => hr h.1)
    have hB := Lib.hid (show ¬ (Rt s u t ∧ 1 ≤ v ∧ v ≤ s ∧ 0 ≤ a ∧ bck s u t v a < 1024) from fun h => hr h.1)
    clear hr
    go_enter Try.func3, Try.ntmps3
    go_wp2_with fail
    refine (alive_any _).mono ?_; rintro e w1 ⟨rfl, j1⟩
    have k1 := j1
    obtain ⟨c0, c1, c2⟩ := box3 k1
    go_wp2_with fail
    refine (where_no s u t x _ X.out).mono ?_; rintro e w2 ⟨rfl, j2⟩
    have k2 := k1.trans j2
    clear c0 c1 c2
    obtain ⟨c0, c1, c2⟩ := box3 k2
    go_wp2_with fail
    refine (back_no s u t v a _ a9 hB.out).mono ?_; rintro e w3 ⟨rfl, j3⟩
    have k3 := k2.trans j3
    clear c0 c1 c2
    obtain ⟨c0, c1, c2⟩ := box3 k3
    go_wp2_with fail
    refine (rright_no s u t _ R.out).mono ?_; rintro e w4 ⟨rfl, j4⟩
    have k4 := k3.trans j4
    clear c0 c1 c2
    obtain ⟨c0, c1, c2⟩ := box3 k4
    go_wp2_with fail
    refine (alive_any _).mono ?_; rintro e w5 ⟨rfl, j5⟩
    have k5 := k4.trans j5
    clear c0 c1 c2
    obtain ⟨c0, c1, c2⟩ := box3 k5
    go_wp2_with fail
    refine (right_no s u t _ R.out).mono ?_; rintro e w6 ⟨rfl, j6⟩
    have k6 := k5.trans j6
    clear c0 c1 c2
    obtain ⟨c0, c1, c2⟩ := box3 k6
    go_wp2
    go_ret
    exact ⟨rfl, k6.boxed⟩

end Go.Proofs.Ytiadhmjmiaamcaa
