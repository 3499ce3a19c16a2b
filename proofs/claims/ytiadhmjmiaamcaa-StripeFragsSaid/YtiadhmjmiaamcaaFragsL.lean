/- StripeFrags: every request's fragments. -/
import Derived.Test.YtiadhmjmiaamcaaAlive6
namespace Go.Proofs.Ytiadhmjmiaamcaa
open Go.RowKit Go.Proofs.Ytiadhmjmiaamcaa.Fl

set_option maxHeartbeats 1000000 in
theorem stripeFrags_walk (w : World) (s u t o l : Int) (o8 : -9223372036854775808 ≤ o) (o9 : o ≤ 9223372036854775807) (l9 : l ≤ 9223372036854775807) :
    Calls Try.prog 4 #[.agg #[.int .i64 s, .int .i64 u, .int .i64 t], .int .i64 o, .int .i64 l] w fun e w' => e = .returned (.bool true) ∧ Only [] w w' := by
  by_cases hr : Rt s u t
  · have R := Lib.hid hr
    clear hr
    by_cases hk : 0 ≤ o ∧ 0 ≤ l ∧ l ≤ 1024 - o
    · obtain ⟨o0, l0, hol⟩ := hk
      have N := Lib.hid (show l = (l.toNat : Int) by omega)
      have hlen : (frs s u t o l.toNat).length ≤ 1024 := Nat.le_trans (frs_length _) (by omega)
      generalize hL : frs s u t o l.toNat = L at *
      replace hL := Lib.hid hL
      go_enter Try.func4, Try.ntmps4
      go_wp2_with fail
      refine (alive_any _).mono ?_; rintro e w1 ⟨rfl, j1⟩
      have k1 := j1
      obtain ⟨c0, c1, c2⟩ := box3 k1
      go_wp2_with fail
      refine (frags_ok s u t o l l.toNat N.out _ R.out o0 l0 (by omega)).mono ?_; rintro e w2 ⟨v, rfl, hm⟩
      rw [hL.out] at hm
      have k2 := k1.trans hm.only
      clear c0 c1 c2
      obtain ⟨c0, c1, c2⟩ := box3 k2
      obtain ⟨A, c, rfl, hel, _, hA, _⟩ := hm.shape fgE_length
      clear hm
      go_wp2_with fail
      refine (rright_yes s u t _ R.out).mono ?_; rintro e w3 ⟨rfl, j3⟩
      have k3 := k2.trans j3
      clear c0 c1 c2
      obtain ⟨c0, c1, c2⟩ := box3 k3
      go_wp2_with fail
      refine (rok_yes o l _ o0 l0 hol).mono ?_; rintro e w4 ⟨rfl, rfl⟩
      have k4 := k3
      go_wp2_with fail
      refine (alive_any _).mono ?_; rintro e w5 ⟨rfl, j5⟩
      have k5 := k4.trans j5
      clear c0 c1 c2
      obtain ⟨c0, c1, c2⟩ := box3 k5
      have hel5 := hel.kept ((j3.trans j5)) (by simp)
      clear hel hA
      go_wp2_with fail
      refine (rfrags_any s u t o l l.toNat N.out _ R.out o0 l0 (by omega)).mono ?_; rintro e w6 ⟨v, rfl, hm⟩
      rw [hL.out] at hm
      have k6 := k5.trans hm.only
      have hel6 := hel5.kept hm.only (by simp)
      obtain ⟨B, d, rfl, hel', _, hA, _⟩ := hm.shape fgE_length
      clear hm hel5
      have S1 := Lib.hid hel6
      have S2 := Lib.hid hel'
      clear hel6 hel' hA
      go_wp2_with fail
      refine (rsame_yes _ A B c d L S1.out S2.out hlen).mono ?_; rintro e w7 ⟨rfl, j7⟩
      have k7 := k6.trans j7
      go_wp2
      go_ret
      exact ⟨rfl, k7.boxed⟩
    · have K := Lib.hid hk
      have X := Lib.hid (show ¬ (Rt s u t ∧ 0 ≤ o ∧ 0 ≤ l ∧ o + l ≤ 1024) from fun h => hk ⟨h.2.1, h.2.2.1, by omega⟩)
      clear hk
      go_enter Try.func4, Try.ntmps4
      go_wp2_with fail
      refine (alive_any _).mono ?_; rintro e w1 ⟨rfl, j1⟩
      have k1 := j1
      obtain ⟨c0, c1, c2⟩ := box3 k1
      go_wp2_with fail
      refine (frags_no s u t o l _ X.out l9).mono ?_; rintro e w2 ⟨rfl, j2⟩
      have k2 := k1.trans j2
      clear c0 c1 c2
      obtain ⟨c0, c1, c2⟩ := box3 k2
      go_wp2_with fail
      refine (rright_yes s u t _ R.out).mono ?_; rintro e w3 ⟨rfl, j3⟩
      have k3 := k2.trans j3
      clear c0 c1 c2
      obtain ⟨c0, c1, c2⟩ := box3 k3
      go_wp2_with fail
      refine (rok_no o l _ o8 o9 K.out).mono ?_; rintro e w4 ⟨rfl, rfl⟩
      have k4 := k3
      go_wp2_with fail
      refine (alive_any _).mono ?_; rintro e w5 ⟨rfl, j5⟩
      have k5 := k4.trans j5
      clear c0 c1 c2
      obtain ⟨c0, c1, c2⟩ := box3 k5
      go_wp2
      go_ret
      exact ⟨rfl, k5.boxed⟩
  · have R := Lib.hid hr
    have X := Lib.hid (show ¬ (Rt s u t ∧ 0 ≤ o ∧ 0 ≤ l ∧ o + l ≤ 1024) from fun h => hr h.1)
    clear hr
    go_enter Try.func4, Try.ntmps4
    go_wp2_with fail
    refine (alive_any _).mono ?_; rintro e w1 ⟨rfl, j1⟩
    have k1 := j1
    obtain ⟨c0, c1, c2⟩ := box3 k1
    go_wp2_with fail
    refine (frags_no s u t o l _ X.out l9).mono ?_; rintro e w2 ⟨rfl, j2⟩
    have k2 := k1.trans j2
    clear c0 c1 c2
    obtain ⟨c0, c1, c2⟩ := box3 k2
    go_wp2_with fail
    refine (rright_no s u t _ R.out).mono ?_; rintro e w3 ⟨rfl, j3⟩
    have k3 := k2.trans j3
    clear c0 c1 c2
    obtain ⟨c0, c1, c2⟩ := box3 k3
    go_wp2_with fail
    refine (alive_any _).mono ?_; rintro e w4 ⟨rfl, j4⟩
    have k4 := k3.trans j4
    clear c0 c1 c2
    obtain ⟨c0, c1, c2⟩ := box3 k4
    go_wp2
    go_ret
    exact ⟨rfl, k4.boxed⟩

end Go.Proofs.Ytiadhmjmiaamcaa
