/- StripeLengths: how long every server's object is. -/
import Derived.Test.YtiadhmjmiaamcaaAlive6
namespace Go.Proofs.Ytiadhmjmiaamcaa
open Go.RowKit Go.Proofs.Ytiadhmjmiaamcaa.Fl

set_option maxHeartbeats 1000000 in
theorem stripeLengths_walk (w : World) (s u t v n : Int) :
    Calls Try.prog 5 #[.agg #[.int .i64 s, .int .i64 u, .int .i64 t], .int .i64 v, .int .i64 n] w fun e w' => e = .returned (.bool true) ∧ Only [] w w' := by
  by_cases hr : Rt s u t
  · have R := Lib.hid hr
    clear hr
    by_cases h0 : v < 1
    · have X := Lib.hid (show ¬ (Rt s u t ∧ 1 ≤ v ∧ v ≤ s ∧ 0 ≤ n ∧ n ≤ 1024) from fun h => by omega)
      go_enter Try.func5, Try.ntmps5
      go_wp2_with fail
      refine (alive_any _).mono ?_; rintro e w1 ⟨rfl, j1⟩
      have k1 := j1
      obtain ⟨c0, c1, c2⟩ := box3 k1
      go_wp2_with fail
      refine (len_no s u t v n _ X.out).mono ?_; rintro e w2 ⟨rfl, j2⟩
      have k2 := k1.trans j2
      clear c0 c1 c2
      obtain ⟨c0, c1, c2⟩ := box3 k2
      go_wp2_with fail
      refine (rright_yes s u t _ R.out).mono ?_; rintro e w3 ⟨rfl, j3⟩
      have k3 := k2.trans j3
      clear c0 c1 c2
      obtain ⟨c0, c1, c2⟩ := box3 k3
      go_wp2_with fail
      refine (alive_any _).mono ?_; rintro e w4 ⟨rfl, j4⟩
      have k4 := k3.trans j4
      clear c0 c1 c2
      obtain ⟨c0, c1, c2⟩ := box3 k4
      go_wp2
      go_ret
      exact ⟨rfl, k4.boxed⟩
    have d0 : decide (v < 1) = false := by simp; omega
    by_cases h1 : s < v
    · have X := Lib.hid (show ¬ (Rt s u t ∧ 1 ≤ v ∧ v ≤ s ∧ 0 ≤ n ∧ n ≤ 1024) from fun h => by omega)
      have d1 : decide (s < v) = true := by simp; omega
      clear h0 h1
      go_enter Try.func5, Try.ntmps5
      go_wp2_with fail
      refine (alive_any _).mono ?_; rintro e w1 ⟨rfl, j1⟩
      have k1 := j1
      obtain ⟨c0, c1, c2⟩ := box3 k1
      go_wp2_with fail
      refine (len_no s u t v n _ X.out).mono ?_; rintro e w2 ⟨rfl, j2⟩
      have k2 := k1.trans j2
      clear c0 c1 c2
      obtain ⟨c0, c1, c2⟩ := box3 k2
      go_wp2_with fail
      refine (rright_yes s u t _ R.out).mono ?_; rintro e w3 ⟨rfl, j3⟩
      have k3 := k2.trans j3
      clear c0 c1 c2
      obtain ⟨c0, c1, c2⟩ := box3 k3
      go_wp2_with fail
      refine (alive_any _).mono ?_; rintro e w4 ⟨rfl, j4⟩
      have k4 := k3.trans j4
      clear c0 c1 c2
      obtain ⟨c0, c1, c2⟩ := box3 k4
      go_wp2
      go_ret
      exact ⟨rfl, k4.boxed⟩
    have d1 : decide (s < v) = false := by simp; omega
    by_cases h2 : n < 0
    · have X := Lib.hid (show ¬ (Rt s u t ∧ 1 ≤ v ∧ v ≤ s ∧ 0 ≤ n ∧ n ≤ 1024) from fun h => by omega)
      clear h0 h1
      go_enter Try.func5, Try.ntmps5
      go_wp2_with fail
      refine (alive_any _).mono ?_; rintro e w1 ⟨rfl, j1⟩
      have k1 := j1
      obtain ⟨c0, c1, c2⟩ := box3 k1
      go_wp2_with fail
      refine (len_no s u t v n _ X.out).mono ?_; rintro e w2 ⟨rfl, j2⟩
      have k2 := k1.trans j2
      clear c0 c1 c2
      obtain ⟨c0, c1, c2⟩ := box3 k2
      go_wp2_with fail
      refine (rright_yes s u t _ R.out).mono ?_; rintro e w3 ⟨rfl, j3⟩
      have k3 := k2.trans j3
      clear c0 c1 c2
      obtain ⟨c0, c1, c2⟩ := box3 k3
      go_wp2_with fail
      refine (alive_any _).mono ?_; rintro e w4 ⟨rfl, j4⟩
      have k4 := k3.trans j4
      clear c0 c1 c2
      obtain ⟨c0, c1, c2⟩ := box3 k4
      go_wp2
      go_ret
      exact ⟨rfl, k4.boxed⟩
    have d2 : decide (n < 0) = false := by simp; omega
    by_cases h3 : 1024 < n
    · have X := Lib.hid (show ¬ (Rt s u t ∧ 1 ≤ v ∧ v ≤ s ∧ 0 ≤ n ∧ n ≤ 1024) from fun h => by omega)
      have d3 : decide (1024 < n) = true := by simp; omega
      clear h0 h1 h2 h3
      go_enter Try.func5, Try.ntmps5
      go_wp2_with fail
      refine (alive_any _).mono ?_; rintro e w1 ⟨rfl, j1⟩
      have k1 := j1
      obtain ⟨c0, c1, c2⟩ := box3 k1
      go_wp2_with fail
      refine (len_no s u t v n _ X.out).mono ?_; rintro e w2 ⟨rfl, j2⟩
      have k2 := k1.trans j2
      clear c0 c1 c2
      obtain ⟨c0, c1, c2⟩ := box3 k2
      go_wp2_with fail
      refine (rright_yes s u t _ R.out).mono ?_; rintro e w3 ⟨rfl, j3⟩
      have k3 := k2.trans j3
      clear c0 c1 c2
      obtain ⟨c0, c1, c2⟩ := box3 k3
      go_wp2_with fail
      refine (alive_any _).mono ?_; rintro e w4 ⟨rfl, j4⟩
      have k4 := k3.trans j4
      clear c0 c1 c2
      obtain ⟨c0, c1, c2⟩ := box3 k4
      go_wp2
      go_ret
      exact ⟨rfl, k4.boxed⟩
    have d3 : decide (1024 < n) = false := by simp; omega
    have v0 : 1 ≤ v := by omega
    have v1 : v ≤ s := by omega
    have n0 : 0 ≤ n := by omega
    have n1 : n ≤ 1024 := by omega
    have N := Lib.hid (show n = (n.toNat : Int) by omega)
    have he : lenC s u t v n = lenR s u t v n.toNat := by
      have := lenC_eq (t := t) R.out.1 R.out.2.2.1 v0 v1 n.toNat
      rw [← N.out] at this
      exact this
    clear h0 h1 h2 h3
    go_enter Try.func5, Try.ntmps5
    go_wp2_with fail
    refine (alive_any _).mono ?_; rintro e w1 ⟨rfl, j1⟩
    have k1 := j1
    obtain ⟨c0, c1, c2⟩ := box3 k1
    go_wp2_with fail
    refine (len_ok s u t v n _ R.out v0 v1 n0 n1).mono ?_; rintro e w2 ⟨rfl, j2⟩
    have k2 := k1.trans j2
    clear c0 c1 c2
    obtain ⟨c0, c1, c2⟩ := box3 k2
    go_wp2_with fail
    refine (rright_yes s u t _ R.out).mono ?_; rintro e w3 ⟨rfl, j3⟩
    have k3 := k2.trans j3
    clear c0 c1 c2
    obtain ⟨c0, c1, c2⟩ := box3 k3
    go_wp2_with fail
    refine (alive_any _).mono ?_; rintro e w4 ⟨rfl, j4⟩
    have k4 := k3.trans j4
    clear c0 c1 c2
    obtain ⟨c0, c1, c2⟩ := box3 k4
    go_wp2_with fail
    refine (rlength_any s u t v n.toNat n N.out _ R.out n1).mono ?_; rintro e w5 ⟨rfl, j5⟩
    have k5 := k4.trans j5
    clear c0 c1 c2
    obtain ⟨c0, c1, c2⟩ := box3 k5
    go_wp2
    go_ret
    exact ⟨rfl, k5.boxed⟩
  · have R := Lib.hid hr
    have X := Lib.hid (show ¬ (Rt s u t ∧ 1 ≤ v ∧ v ≤ s ∧ 0 ≤ n ∧ n ≤ 1024) from fun h => hr h.1)
    clear hr
    go_enter Try.func5, Try.ntmps5
    go_wp2_with fail
    refine (alive_any _).mono ?_; rintro e w1 ⟨rfl, j1⟩
    have k1 := j1
    obtain ⟨c0, c1, c2⟩ := box3 k1
    go_wp2_with fail
    refine (len_no s u t v n _ X.out).mono ?_; rintro e w2 ⟨rfl, j2⟩
    have k2 := k1.trans j2
    clear c0 c1 c2
    obtain ⟨c0, c1, c2⟩ := box3 k2
    go_wp2_with fail
    refine (rright_no s u t _ R.out).mono ?_; rintro e w3 ⟨rfl, j3⟩
    have k3 := k2.trans j3
    clear c0 c1 c2
    obtain ⟨c0, c1, c2⟩ := box3 k3
    go_wp2_with fail
    refine (alive_any _).mono ?_; rintro e w4 ⟨rfl, j4⟩
    have k4 := k3.trans j4
    clear c0 c1 c2
    obtain ⟨c0, c1, c2⟩ := box3 k4
    go_wp2
    go_ret
    exact ⟨rfl, k4.boxed⟩

end Go.Proofs.Ytiadhmjmiaamcaa
