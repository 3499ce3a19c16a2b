/- StripeRoom: the objects' lengths together, and what lies below them. -/
import Derived.Test.YtiadhmjmiaamcaaAlive6
namespace Go.Proofs.Ytiadhmjmiaamcaa
open Go.RowKit Go.Proofs.Ytiadhmjmiaamcaa.Fl

/-- The objects' lengths together, of the first servers. -/
def sumTo (s u t : Int) (n : Nat) : Nat → Int
  | 0 => 0
  | j + 1 => sumTo s u t n j + lenR s u t ((j : Int) + 1) n

theorem lenR_last {s u t v : Int} (s1 : 1 ≤ s) (u1 : 1 ≤ u) (n : Nat) (h : srv s u t n = v) : lenR s u t v n + 1 ≤ lenR s u t v (n + 1) := by
  have hle : lenR s u t v n ≤ pos s u n := by
    rcases (lenR_is (t := t) (v := v) s1 u1 n).2 with h0 | ⟨y, y0, y1, h1, h2⟩
    · have := (pos_row (x := n) s1 u1 (by omega)).1; omega
    · have := pos_mono (t := t) s1 u1 y0 y1 (by rw [h1, h]); omega
  rw [lenR.eq_2, if_pos ⟨h, hle⟩]
  omega

theorem sum_step {s u t : Int} (s1 : 1 ≤ s) (u1 : 1 ≤ u) (n j : Nat) : sumTo s u t n j + (if srv s u t n ≤ j then 1 else 0) ≤ sumTo s u t (n + 1) j := by
  have hv := (srv_rng (u := u) (t := t) (x := n) s1).1
  induction j with
  | zero => rw [if_neg (by omega)]; exact Int.le_refl _
  | succ j ih =>
    rw [sumTo, sumTo]
    have hm := lenR_mono (s := s) (u := u) (t := t) (v := (j : Int) + 1) n
    by_cases h1 : srv s u t n ≤ j
    · rw [if_pos h1] at ih
      rw [if_pos (by omega)]
      omega
    · rw [if_neg h1] at ih
      by_cases h2 : srv s u t n = (j : Int) + 1
      · have := lenR_last s1 u1 n h2
        rw [if_pos (by omega)]
        omega
      · rw [if_neg (by omega)]
        omega

theorem sum_ge {s u t : Int} (s1 : 1 ≤ s) (u1 : 1 ≤ u) (S : Nat) (hS : (S : Int) = s) (n : Nat) : (n : Int) ≤ sumTo s u t n S := by
  induction n with
  | zero =>
    have : ∀ j, sumTo s u t 0 j = 0 := fun j => by
      induction j with
      | zero => rfl
      | succ j ih => rw [sumTo, ih]; rfl
    rw [this]
    exact Int.le_refl _
  | succ n ih =>
    have h := sum_step (t := t) s1 u1 n S
    have hv := (srv_rng (u := u) (t := t) (x := n) s1).2
    rw [if_pos (by omega)] at h
    omega

theorem sum_bd {s u t : Int} (s1 : 1 ≤ s) (u1 : 1 ≤ u) (n j : Nat) (hn : n ≤ 1024) : 0 ≤ sumTo s u t n j ∧ sumTo s u t n j ≤ (j : Int) * 1024 := by
  induction j with
  | zero => exact ⟨Int.le_refl _, by simp [sumTo]⟩
  | succ j ih =>
    have := lenR_bd (t := t) (v := (j : Int) + 1) s1 u1 n
    rw [sumTo]
    omega

theorem len_okR (s u t v : Int) (n : Nat) (w : World) (h : Rt s u t) (v0 : 1 ≤ v) (v1 : v ≤ s) (n1 : n ≤ 1024) :
    Calls Try.prog 22 #[.agg #[.int .i64 s, .int .i64 u, .int .i64 t], .int .i64 v, .int .i64 (n : Int)] w fun e w' => e = .returned (.tuple #[.int .i64 (lenR s u t v n), .int .i64 0]) ∧ Only [] w w' := by
  have := len_ok s u t v n w h v0 v1 (by omega) (by omega)
  rw [lenC_eq h.1 h.2.2.1 v0 v1 n] at this
  exact this

set_option maxHeartbeats 2000000 in
theorem stripeRoom_walk (w : World) (s u t size x : Int) :
    Calls Try.prog 8 #[.agg #[.int .i64 s, .int .i64 u, .int .i64 t], .int .i64 size, .int .i64 x] w fun e w' => e = .returned (.bool true) ∧ Only [] w w' := by
  by_cases hr : Rt s u t
  · have R := Lib.hid hr
    by_cases h0 : size < 0
    · clear hr
      go_enter Try.func8, Try.ntmps8
      go_wp2_with fail
      refine (alive_any _).mono ?_; rintro e w1 ⟨rfl, j1⟩
      have k1 := j1
      obtain ⟨c0, c1, c2⟩ := box3 k1
      go_wp2_with fail
      refine (right_yes s u t _ R.out).mono ?_; rintro e w2 ⟨rfl, j2⟩
      have k2 := k1.trans j2
      clear c0 c1 c2
      obtain ⟨c0, c1, c2⟩ := box3 k2
      go_wp2_with fail
      refine (alive_any _).mono ?_; rintro e w3 ⟨rfl, j3⟩
      have k3 := k2.trans j3
      clear c0 c1 c2
      obtain ⟨c0, c1, c2⟩ := box3 k3
      go_wp2
      go_ret
      exact ⟨rfl, k3.boxed⟩
    have d0 : decide (size < 0) = false := by simp; omega
    by_cases h1 : 1024 < size
    · have d1 : decide (1024 < size) = true := by simp; omega
      clear hr h0 h1
      go_enter Try.func8, Try.ntmps8
      go_wp2_with fail
      refine (alive_any _).mono ?_; rintro e w1 ⟨rfl, j1⟩
      have k1 := j1
      obtain ⟨c0, c1, c2⟩ := box3 k1
      go_wp2_with fail
      refine (right_yes s u t _ R.out).mono ?_; rintro e w2 ⟨rfl, j2⟩
      have k2 := k1.trans j2
      clear c0 c1 c2
      obtain ⟨c0, c1, c2⟩ := box3 k2
      go_wp2_with fail
      refine (alive_any _).mono ?_; rintro e w3 ⟨rfl, j3⟩
      have k3 := k2.trans j3
      clear c0 c1 c2
      obtain ⟨c0, c1, c2⟩ := box3 k3
      go_wp2
      go_ret
      exact ⟨rfl, k3.boxed⟩
    have d1 : decide (1024 < size) = false := by simp; omega
    have n0 : 0 ≤ size := by omega
    have n1 : size ≤ 1024 := by omega
    clear h0 h1
    obtain ⟨s1, s2, u1, u2, t1, t2⟩ := hr
    obtain ⟨n, hn⟩ : ∃ n : Nat, size = n := ⟨size.toNat, by omega⟩
    have hL := fun v w => len_okR s u t v n w R.out
    rw [← hn] at hL
    have hbd := fun j => sum_bd (t := t) s1 u1 n j (by omega)
    have hge : size ≤ sumTo s u t n s.toNat := by rw [hn]; exact sum_ge s1 u1 _ (by omega) n
    have hle := fun v => lenR_bd (t := t) (v := v) s1 u1 n
    have his := fun v => (lenR_is (t := t) (v := v) s1 u1 n).1
    have hprev : size = 0 ∨ ∃ k : Nat, size - 1 = k ∧ 0 < size ∧ k ≤ 1024 ∧ ∀ v, lenR s u t v k ≤ lenR s u t v n := by
      rcases Nat.eq_zero_or_pos n with h | h
      · exact .inl (by omega)
      · refine .inr ⟨n - 1, by omega, by omega, by omega, fun v => ?_⟩
        have := lenR_mono (s := s) (u := u) (t := t) (v := v) (n - 1)
        rwa [show n - 1 + 1 = n by omega] at this
    replace hL := Lib.hid hL
    replace hbd := Lib.hid hbd
    replace hle := Lib.hid hle
    replace hge := Lib.hid hge
    replace his := Lib.hid his
    replace hprev := Lib.hid hprev
    replace hn := Lib.hid hn
    go_enter Try.func8, Try.ntmps8
    go_wp2_with fail
    refine (alive_any _).mono ?_; rintro e w1 ⟨rfl, j1⟩
    have k1 := j1
    obtain ⟨c0, c1, c2⟩ := box3 k1
    go_wp2_with fail
    refine (right_yes s u t _ R.out).mono ?_; rintro e w2 ⟨rfl, j2⟩
    have k2 := k1.trans j2
    clear c0 c1 c2
    obtain ⟨c0, c1, c2⟩ := box3 k2
    go_wp2_with fail
    go_loopw [7, 8] (fun a i wr => ∃ j : Nat, (j : Int) ≤ s ∧ a = .int .i64 (sumTo s u t n j) ∧ i = .int .i64 ((j : Int) + 1) ∧ Only [] (w.alloc (.cells #[.int .i64 s, .int .i64 u, .int .i64 t] 23)) wr) (fun _ i _ => (s + 1 - intOf i).toNat)
    case atStart => exact ⟨0, by omega, rfl, rfl, k2⟩
    case round =>
      obtain ⟨j, hj, rfl, rfl, kr⟩ := hrel
      clear c0 c1 c2
      obtain ⟨c0, c1, c2⟩ := box3 kr
      obtain ⟨g0, g1⟩ := hbd.out j
      by_cases hlt : (j : Int) + 1 ≤ s
      · obtain ⟨p0, p1⟩ := hle.out ((j : Int) + 1)
        have p2 : (n : Int) ≤ 1024 := by have := hn.out; omega
        have hnext : sumTo s u t n (j + 1) = sumTo s u t n j + lenR s u t ((j : Int) + 1) n := rfl
        replace hnext := Lib.hid hnext
        rcases hprev.out with hz | ⟨k, hk, hpos, hk1, hmono⟩
        · have q : decide (0 < size) = false := by simp; omega
          clear hz
          go_wp2_with fail
          refine (hL.out ((j : Int) + 1) _ (by omega) hlt (by omega)).mono ?_; rintro e w3 ⟨rfl, j3⟩
          have k3 := kr.trans j3
          clear c0 c1 c2
          obtain ⟨c0, c1, c2⟩ := box3 k3
          go_wp2_with fail
          go_roundw
          case rel => exact ⟨j + 1, by omega, by rw [hnext.out], by go_num, k3⟩
          case measure => simp [intOf]; omega
        · have q : decide (0 < size) = true := by simp; omega
          have q2 : decide (lenR s u t ((j : Int) + 1) n < lenR s u t ((j : Int) + 1) k) = false := by have := hmono ((j : Int) + 1); simp; omega
          have hLk := fun w => len_okR s u t ((j : Int) + 1) k w R.out (by omega) hlt hk1
          rw [← hk] at hLk
          replace hLk := Lib.hid hLk
          clear hmono hk
          go_wp2_with fail
          refine (hL.out ((j : Int) + 1) _ (by omega) hlt (by omega)).mono ?_; rintro e w3 ⟨rfl, j3⟩
          have k3 := kr.trans j3
          clear c0 c1 c2
          obtain ⟨c0, c1, c2⟩ := box3 k3
          go_wp2_with fail
          refine (hLk.out _).mono ?_; rintro e w4 ⟨rfl, j4⟩
          have k4 := k3.trans j4
          clear c0 c1 c2
          obtain ⟨c0, c1, c2⟩ := box3 k4
          go_wp2_with fail
          go_roundw
          case rel => exact ⟨j + 1, by omega, by rw [hnext.out], by go_num, k4⟩
          case measure => simp [intOf]; omega
      · have hjs : s.toNat = j := by omega
        have hge' := hge.out
        rw [hjs] at hge'
        have d3 : decide (size ≤ sumTo s u t n j) = true := by simp; omega
        by_cases h0 : x < 0
        · go_wp2_with fail
          refine (alive_any _).mono ?_; rintro e w3 ⟨rfl, j3⟩
          have k3 := kr.trans j3
          go_wp2
          go_ret
          exact ⟨rfl, k3.boxed⟩
        have q0 : decide (x < 0) = false := by simp; omega
        by_cases h1 : size ≤ x
        · have q1 : decide (size ≤ x) = true := by simp; omega
          clear h0 h1
          go_wp2_with fail
          refine (alive_any _).mono ?_; rintro e w3 ⟨rfl, j3⟩
          have k3 := kr.trans j3
          go_wp2
          go_ret
          exact ⟨rfl, k3.boxed⟩
        have q1 : decide (size ≤ x) = false := by simp; omega
        have x0 : 0 ≤ x := by omega
        have x1 : x < 1024 := by omega
        have hb := his.out (srv s u t x) x x0 (by have := hn.out; omega) rfl
        have q2 : decide (pos s u x < lenR s u t (srv s u t x) n) = true := by simp; omega
        obtain ⟨r0, r1⟩ := srv_rng (u := u) (t := t) (x := x) s1
        clear h0 h1 hb
        go_wp2_with fail
        refine (where_ok s u t x _ R.out x0 x1).mono ?_; rintro e w3 ⟨rfl, j3⟩
        have k3 := kr.trans j3
        clear c0 c1 c2
        obtain ⟨c0, c1, c2⟩ := box3 k3
        go_wp2_with fail
        refine (hL.out (srv s u t x) _ r0 r1 (by have := hn.out; omega)).mono ?_; rintro e w4 ⟨rfl, j4⟩
        have k4 := k3.trans j4
        go_wp2_with fail
        refine (alive_any _).mono ?_; rintro e w5 ⟨rfl, j5⟩
        have k5 := k4.trans j5
        go_wp2
        go_ret
        exact ⟨rfl, k5.boxed⟩
  · have R := Lib.hid hr
    clear hr
    go_enter Try.func8, Try.ntmps8
    go_wp2_with fail
    refine (alive_any _).mono ?_; rintro e w1 ⟨rfl, j1⟩
    have k1 := j1
    obtain ⟨c0, c1, c2⟩ := box3 k1
    go_wp2_with fail
    refine (right_no s u t _ R.out).mono ?_; rintro e w2 ⟨rfl, j2⟩
    have k2 := k1.trans j2
    clear c0 c1 c2
    obtain ⟨c0, c1, c2⟩ := box3 k2
    go_wp2_with fail
    refine (alive_any _).mono ?_; rintro e w3 ⟨rfl, j3⟩
    have k3 := k2.trans j3
    clear c0 c1 c2
    obtain ⟨c0, c1, c2⟩ := box3 k3
    go_wp2
    go_ret
    exact ⟨rfl, k3.boxed⟩

end Go.Proofs.Ytiadhmjmiaamcaa
