/- StripeApart: no two bytes lie at one place, and there the same byte is found again. -/
import Derived.Test.YtiadhmjmiaamcaaAlive6
namespace Go.Proofs.Ytiadhmjmiaamcaa
open Go.RowKit Go.Proofs.Ytiadhmjmiaamcaa.Fl

set_option maxHeartbeats 1000000 in
theorem where_some (s u t x : Int) : ∃ S A E : Int, ∀ w : World, Calls Try.prog 12 #[.agg #[.int .i64 s, .int .i64 u, .int .i64 t], .int .i64 x] w fun e w' => e = .returned (.tuple #[.int .i64 S, .int .i64 A, .int .i64 E]) ∧ Only [] w w' := by
  by_cases h : Rt s u t ∧ 0 ≤ x ∧ x < 1024
  · exact ⟨_, _, _, fun w => where_ok s u t x w h.1 h.2.1 h.2.2⟩
  · exact ⟨_, _, _, fun w => where_no s u t x w h⟩

set_option maxHeartbeats 1000000 in
theorem stripeApart_walk (w : World) (s u t x y : Int) :
    Calls Try.prog 7 #[.agg #[.int .i64 s, .int .i64 u, .int .i64 t], .int .i64 x, .int .i64 y] w fun e w' => e = .returned (.bool true) ∧ Only [] w w' := by
  by_cases hx : Rt s u t ∧ 0 ≤ x ∧ x < 1024
  · obtain ⟨hr, x0, x1⟩ := hx
    have R := Lib.hid hr
    by_cases hy : 0 ≤ y ∧ y < 1024
    · obtain ⟨y0, y1⟩ := hy
      have hb0 := bck_where (t := t) hr.1 hr.2.2.1 x0
      obtain ⟨v0, v1⟩ := srv_rng (u := u) (t := t) (x := x) hr.1
      obtain ⟨a0, _, _⟩ := pos_row hr.1 hr.2.2.1 x0
      have a1 := pos_le hr.1 hr.2.2.1 x0
      have hb := fun w => back_ok s u t (srv s u t x) (pos s u x) w hr v0 v1 a0 (by omega) (by rw [hb0]; exact x1)
      rw [hb0] at hb
      have HB := Lib.hid hb
      have hinj := fun h1 h2 => where_inj (t := t) hr.1 hr.2.2.1 x0 y0 h1 h2
      clear hb hb0 hr a0 a1 v0 v1
      by_cases hxy : x = y
      · subst hxy
        clear hinj
        go_enter Try.func7, Try.ntmps7
        go_wp2_with fail
        refine (alive_any _).mono ?_; rintro e w1 ⟨rfl, j1⟩
        have k1 := j1
        obtain ⟨c0, c1, c2⟩ := box3 k1
        go_wp2_with fail
        refine (where_ok s u t x _ R.out x0 x1).mono ?_; rintro e w2 ⟨rfl, j2⟩
        have k2 := k1.trans j2
        clear c0 c1 c2
        obtain ⟨c0, c1, c2⟩ := box3 k2
        go_wp2_with fail
        refine (where_ok s u t x _ R.out x0 x1).mono ?_; rintro e w3 ⟨rfl, j3⟩
        have k3 := k2.trans j3
        clear c0 c1 c2
        obtain ⟨c0, c1, c2⟩ := box3 k3
        go_wp2_with fail
        refine (HB.out _).mono ?_; rintro e w4 ⟨rfl, j4⟩
        have k4 := k3.trans j4
        clear c0 c1 c2
        obtain ⟨c0, c1, c2⟩ := box3 k4
        go_wp2_with fail
        refine (alive_any _).mono ?_; rintro e w5 ⟨rfl, j5⟩
        have k5 := k4.trans j5
        clear c0 c1 c2
        obtain ⟨c0, c1, c2⟩ := box3 k5
        go_wp2
        go_ret
        exact ⟨rfl, k5.boxed⟩
      · have q0 : (x == y) = false := by simp [hxy]
        by_cases h1 : srv s u t x = srv s u t y
        · have q1 : (pos s u x == pos s u y) = false := by simp; exact fun h => hxy (hinj h1 h)
          have q2 : (srv s u t x == srv s u t y) = true := by simp [h1]
          clear hinj hxy h1
          go_enter Try.func7, Try.ntmps7
          go_wp2_with fail
          refine (alive_any _).mono ?_; rintro e w1 ⟨rfl, j1⟩
          have k1 := j1
          obtain ⟨c0, c1, c2⟩ := box3 k1
          go_wp2_with fail
          refine (where_ok s u t x _ R.out x0 x1).mono ?_; rintro e w2 ⟨rfl, j2⟩
          have k2 := k1.trans j2
          clear c0 c1 c2
          obtain ⟨c0, c1, c2⟩ := box3 k2
          go_wp2_with fail
          refine (where_ok s u t y _ R.out y0 y1).mono ?_; rintro e w3 ⟨rfl, j3⟩
          have k3 := k2.trans j3
          clear c0 c1 c2
          obtain ⟨c0, c1, c2⟩ := box3 k3
          go_wp2_with fail
          refine (HB.out _).mono ?_; rintro e w4 ⟨rfl, j4⟩
          have k4 := k3.trans j4
          clear c0 c1 c2
          obtain ⟨c0, c1, c2⟩ := box3 k4
          go_wp2_with fail
          refine (alive_any _).mono ?_; rintro e w5 ⟨rfl, j5⟩
          have k5 := k4.trans j5
          clear c0 c1 c2
          obtain ⟨c0, c1, c2⟩ := box3 k5
          go_wp2
          go_ret
          exact ⟨rfl, k5.boxed⟩
        · have q2 : (srv s u t x == srv s u t y) = false := by simp [h1]
          clear hinj hxy h1
          go_enter Try.func7, Try.ntmps7
          go_wp2_with fail
          refine (alive_any _).mono ?_; rintro e w1 ⟨rfl, j1⟩
          have k1 := j1
          obtain ⟨c0, c1, c2⟩ := box3 k1
          go_wp2_with fail
          refine (where_ok s u t x _ R.out x0 x1).mono ?_; rintro e w2 ⟨rfl, j2⟩
          have k2 := k1.trans j2
          clear c0 c1 c2
          obtain ⟨c0, c1, c2⟩ := box3 k2
          go_wp2_with fail
          refine (where_ok s u t y _ R.out y0 y1).mono ?_; rintro e w3 ⟨rfl, j3⟩
          have k3 := k2.trans j3
          clear c0 c1 c2
          obtain ⟨c0, c1, c2⟩ := box3 k3
          go_wp2_with fail
          refine (HB.out _).mono ?_; rintro e w4 ⟨rfl, j4⟩
          have k4 := k3.trans j4
          clear c0 c1 c2
          obtain ⟨c0, c1, c2⟩ := box3 k4
          go_wp2_with fail
          refine (alive_any _).mono ?_; rintro e w5 ⟨rfl, j5⟩
          have k5 := k4.trans j5
          clear c0 c1 c2
          obtain ⟨c0, c1, c2⟩ := box3 k5
          go_wp2
          go_ret
          exact ⟨rfl, k5.boxed⟩
    · have Y := Lib.hid (show ¬ (Rt s u t ∧ 0 ≤ y ∧ y < 1024) from fun h => hy h.2)
      clear hy hr
      go_enter Try.func7, Try.ntmps7
      go_wp2_with fail
      refine (alive_any _).mono ?_; rintro e w1 ⟨rfl, j1⟩
      have k1 := j1
      obtain ⟨c0, c1, c2⟩ := box3 k1
      go_wp2_with fail
      refine (where_ok s u t x _ R.out x0 x1).mono ?_; rintro e w2 ⟨rfl, j2⟩
      have k2 := k1.trans j2
      clear c0 c1 c2
      obtain ⟨c0, c1, c2⟩ := box3 k2
      go_wp2_with fail
      refine (where_no s u t y _ Y.out).mono ?_; rintro e w3 ⟨rfl, j3⟩
      have k3 := k2.trans j3
      clear c0 c1 c2
      obtain ⟨c0, c1, c2⟩ := box3 k3
      go_wp2_with fail
      refine (alive_any _).mono ?_; rintro e w4 ⟨rfl, j4⟩
      have k4 := k3.trans j4
      clear c0 c1 c2
      obtain ⟨c0, c1, c2⟩ := box3 k4
      go_wp2
      go_ret
      exact ⟨rfl, k4.boxed⟩
  · have X := Lib.hid hx
    obtain ⟨S, A, E, h⟩ := where_some s u t y
    have H := Lib.hid h
    clear h hx
    go_enter Try.func7, Try.ntmps7
    go_wp2_with fail
    refine (alive_any _).mono ?_; rintro e w1 ⟨rfl, j1⟩
    have k1 := j1
    obtain ⟨c0, c1, c2⟩ := box3 k1
    go_wp2_with fail
    refine (where_no s u t x _ X.out).mono ?_; rintro e w2 ⟨rfl, j2⟩
    have k2 := k1.trans j2
    clear c0 c1 c2
    obtain ⟨c0, c1, c2⟩ := box3 k2
    go_wp2_with fail
    refine (H.out _).mono ?_; rintro e w3 ⟨rfl, j3⟩
    have k3 := k2.trans j3
    clear c0 c1 c2
    obtain ⟨c0, c1, c2⟩ := box3 k3
    go_wp2_with fail
    refine (alive_any _).mono ?_; rintro e w4 ⟨rfl, j4⟩
    have k4 := k3.trans j4
    clear c0 c1 c2
    obtain ⟨c0, c1, c2⟩ := box3 k4
    go_wp2
    go_ret
    exact ⟨rfl, k4.boxed⟩

end Go.Proofs.Ytiadhmjmiaamcaa
