/- The document's Where, Back, Ok (package lamellaref06); what lies where, and where what lies. -/
import Derived.Test.YtiadhmjmiaamcaaWhere
import Derived.Deep.LoopGhost
namespace Go.Proofs.Ytiadhmjmiaamcaa
open Go.RowKit Go.Proofs.Ytiadhmjmiaamcaa.Fl

/-- What lies where, and where what lies. -/
theorem pos_row {s u x : Int} (s1 : 1 ≤ s) (u1 : 1 ≤ u) (x0 : 0 ≤ x) : 0 ≤ pos s u x ∧ pos s u x / u = x / u / s ∧ pos s u x % u = x % u := by
  have k0 : 0 ≤ x / u := Int.ediv_nonneg x0 (by omega)
  have r0 : 0 ≤ x / u / s := Int.ediv_nonneg k0 (by omega)
  have e0 := Int.emod_nonneg x (show u ≠ 0 by omega)
  have e1 := Int.emod_lt_of_pos x (show 0 < u by omega)
  have m0 : 0 ≤ x / u / s * u := Int.mul_nonneg r0 (by omega)
  unfold pos
  refine ⟨by omega, ?_, ?_⟩
  · rw [Int.add_comm, Int.add_mul_ediv_right _ _ (by omega), Int.ediv_eq_zero_of_lt e0 e1]; omega
  · rw [Int.add_comm, Int.add_mul_emod_self_right, Int.emod_eq_of_lt e0 e1]

theorem srv_rng {s u t x : Int} (s1 : 1 ≤ s) : 1 ≤ srv s u t x ∧ srv s u t x ≤ s := by
  have c0 := Int.emod_nonneg (x / u + t) (show s ≠ 0 by omega)
  have c1 := Int.emod_lt_of_pos (x / u + t) (show 0 < s by omega)
  unfold srv
  omega

theorem srv_back {s u t x : Int} : (srv s u t x - 1 + -t) % s = x / u % s := by
  unfold srv
  rw [show 1 + (x / u + t) % s - 1 + -t = (x / u + t) % s + -t by omega, Int.emod_add_emod, show x / u + t + -t = x / u by omega]

theorem split_mul (k n : Int) : k / n * n + k % n = k := by rw [Int.mul_comm]; exact Int.mul_ediv_add_emod k n

theorem bck_where {s u t x : Int} (s1 : 1 ≤ s) (u1 : 1 ≤ u) (x0 : 0 ≤ x) : bck s u t (srv s u t x) (pos s u x) = x := by
  obtain ⟨_, p1, p2⟩ := pos_row s1 u1 x0
  unfold bck
  rw [srv_back, p1, p2, split_mul, split_mul]

theorem where_bck {s u t v a : Int} (s1 : 1 ≤ s) (u1 : 1 ≤ u) (v0 : 1 ≤ v) (v1 : v ≤ s) (a0 : 0 ≤ a) :
    0 ≤ bck s u t v a ∧ srv s u t (bck s u t v a) = v ∧ pos s u (bck s u t v a) = a := by
  have k0 : 0 ≤ a / u := Int.ediv_nonneg a0 (by omega)
  have c0 := Int.emod_nonneg (v - 1 + -t) (show s ≠ 0 by omega)
  have c1 := Int.emod_lt_of_pos (v - 1 + -t) (show 0 < s by omega)
  have e0 := Int.emod_nonneg a (show u ≠ 0 by omega)
  have e1 := Int.emod_lt_of_pos a (show 0 < u by omega)
  have m0 : 0 ≤ a / u * s := Int.mul_nonneg k0 (by omega)
  have m1 : 0 ≤ (a / u * s + (v - 1 + -t) % s) * u := Int.mul_nonneg (by omega) (by omega)
  have d1 : bck s u t v a / u = a / u * s + (v - 1 + -t) % s := by
    unfold bck
    rw [Int.add_comm, Int.add_mul_ediv_right _ _ (by omega), Int.ediv_eq_zero_of_lt e0 e1]; omega
  have d2 : bck s u t v a % u = a % u := by
    unfold bck
    rw [Int.add_comm, Int.add_mul_emod_self_right, Int.emod_eq_of_lt e0 e1]
  have d3 : bck s u t v a / u / s = a / u := by
    rw [d1, Int.add_comm, Int.add_mul_ediv_right _ _ (by omega), Int.ediv_eq_zero_of_lt c0 c1]; omega
  refine ⟨by unfold bck; omega, ?_, ?_⟩
  · unfold srv
    rw [d1, show a / u * s + (v - 1 + -t) % s + t = (v - 1 + -t) % s + t + a / u * s by omega, Int.add_mul_emod_self_right, Int.emod_add_emod, show v - 1 + -t + t = v - 1 by omega, Int.emod_eq_of_lt (by omega) (by omega)]
    omega
  · unfold pos
    rw [d3, d2, split_mul]

theorem where_inj {s u t x y : Int} (s1 : 1 ≤ s) (u1 : 1 ≤ u) (x0 : 0 ≤ x) (y0 : 0 ≤ y) (h1 : srv s u t x = srv s u t y) (h2 : pos s u x = pos s u y) : x = y := by
  rw [← bck_where (t := t) s1 u1 x0, h1, h2, bck_where s1 u1 y0]

/-- The remainder from 0 on, by the document. -/
theorem rest_any (t n : Int) (w : World) (t0 : -9223372036854775808 ≤ t) (t1 : t ≤ 9223372036854775807) (n1 : 1 ≤ n) (n2 : n ≤ 16) :
    Calls Try.prog 31 #[.int .i64 t, .int .i64 n] w fun e w' => e = .returned (.int .i64 (t % n)) ∧ w = w' := by
  by_cases h : 0 ≤ t
  · have a1 := Int.emod_nonneg t (by omega : n ≠ 0)
    go_enter Try.func31, Try.ntmps31
    go_wp2
    go_ret; exact ⟨rfl, rfl⟩
  · have a2 := Int.emod_nonneg t (by omega : n ≠ 0)
    have a3 := Int.emod_lt_of_pos t (by omega : 0 < n)
    have a4 : t.tmod n = -((-t) % n) := by
      have := Int.neg_tmod (-t) n
      rw [Int.neg_neg] at this
      rw [this, Int.tmod_eq_emod_of_nonneg (by omega)]
    have b2 := Int.emod_nonneg (-t) (by omega : n ≠ 0)
    have b3 := Int.emod_lt_of_pos (-t) (by omega : 0 < n)
    have hs : (t % n + (-t) % n) % n = 0 := by rw [← Int.add_emod, Int.add_right_neg]; rfl
    by_cases hd : t.tmod n < 0
    · have e1 : t.tmod n + n = t % n := by
        have : t % n + (-t) % n = n := by
          rcases Int.lt_or_le (t % n + (-t) % n) n with hl | hl
          · rw [Int.emod_eq_of_lt (by omega) hl] at hs; omega
          · have : (t % n + (-t) % n - n) % n = 0 := by rw [Int.sub_emod, hs, Int.emod_self]; rfl
            rw [Int.emod_eq_of_lt (by omega) (by omega)] at this; omega
        omega
      have E := Lib.hid e1
      have b1 : -n < t.tmod n := by omega
      clear e1 a4 hs a2 a3 b2 b3
      go_enter Try.func31, Try.ntmps31
      go_wp2
      go_ret; exact ⟨ret_int E.out, rfl⟩
    · have e1 : t.tmod n = t % n := by
        have : (-t) % n = 0 := by omega
        rw [this, Int.add_zero, Int.emod_emod] at hs
        omega
      have E := Lib.hid e1
      clear e1 a4 hs a2 a3 b2 b3
      go_enter Try.func31, Try.ntmps31
      go_wp2
      go_ret; exact ⟨ret_int E.out, rfl⟩

theorem rserver_any (k t n : Int) (w : World) (k0 : 0 ≤ k) (k1 : k ≤ 1023) (t0 : 0 ≤ t) (t1 : t ≤ 16) (n1 : 1 ≤ n) (n2 : n ≤ 16) :
    Calls Try.prog 27 #[.int .i64 k, .int .i64 t, .int .i64 n] w fun e w' => e = .returned (.int .i64 (1 + (k + t) % n)) ∧ ∃ m, w' = w.drewN m := by
  have a0 := Int.emod_nonneg k (show n ≠ 0 by omega)
  have a1 := Int.emod_lt_of_pos k (show 0 < n by omega)
  have b0 := Int.emod_nonneg t (show n ≠ 0 by omega)
  have b1 := Int.emod_lt_of_pos t (show 0 < n by omega)
  have c0 := Int.emod_nonneg (k + t) (show n ≠ 0 by omega)
  have c1 := Int.emod_lt_of_pos (k + t) (show 0 < n by omega)
  have h2 : ∀ w : World, Calls Try.prog 31 #[.int .i64 (k % n + t % n), .int .i64 n] w fun e w' => e = .returned (.int .i64 ((k + t) % n)) ∧ w' = w := fun w => by
    rw [Int.add_emod]
    exact (rest_any (k % n + t % n) n w (by omega) (by omega) n1 n2).mono fun e w' h => ⟨h.1, h.2.symm⟩
  have h1 : ∀ w : World, Calls Try.prog 31 #[.int .i64 t, .int .i64 n] w fun e w' => e = .returned (.int .i64 (t % n)) ∧ w' = w := fun w =>
    (rest_any t n w (by omega) (by omega) n1 n2).mono fun e w' h => ⟨h.1, h.2.symm⟩
  have H1 := Lib.hid h1
  have H2 := Lib.hid h2
  clear h1 h2
  go_enter Try.func27, Try.ntmps27
  go_wp2_with fail
  go_quiet ((first
    | (with_reducible refine Calls.quiet_of_same (H1.out _))
    | (with_reducible refine Calls.quiet_of_same (H2.out _))))
  go_wp2
  go_ret; exact ⟨rfl, _, rfl⟩

theorem rwhere_any (s u t x : Int) (w : World) (h : Rt s u t) (x0 : 0 ≤ x) (x1 : x < 1024) :
    Calls Try.prog 16 #[.agg #[.int .i64 s, .int .i64 u, .int .i64 t], .int .i64 x] w fun e w' => e = .returned (.tuple #[.int .i64 (srv s u t x), .int .i64 (pos s u x)]) ∧ Only [] w w' := by
  obtain ⟨s1, s2, u1, u2, t1, t2⟩ := h
  obtain ⟨k0, k1, r0, r1, m0, m1, e0, e1, _⟩ := spot_bds s1 u1 u2 x0 x1
  unfold srv pos
  go_enter Try.func16, Try.ntmps16
  go_wp2_with fail
  go_quiet ((with_reducible refine Calls.quiet_of (rserver_any (x / u) t s _ k0 k1 t1 (by omega) s1 s2)))
  go_wp2
  go_ret2
  exact ⟨rfl, ((Only.refl [] w).alloc _).drewN _⟩

set_option maxHeartbeats 1000000 in
theorem rback_any (s u t v a R : Int) (w : World) (h : Rt s u t)
    (hR : (0 ≤ R ∧ R < 1024 ∧ (srv s u t R = v ∧ pos s u R = a) ∧ ∀ x, 0 ≤ x → x < R → ¬ (srv s u t x = v ∧ pos s u x = a)) ∨ (R = -1 ∧ ∀ x, 0 ≤ x → x < 1024 → ¬ (srv s u t x = v ∧ pos s u x = a))) :
    Calls Try.prog 17 #[.agg #[.int .i64 s, .int .i64 u, .int .i64 t], .int .i64 v, .int .i64 a] w fun e w' => e = .returned (.int .i64 R) ∧ Only [] w w' := by
  have H := Lib.hid h
  have HR := Lib.hid hR
  clear hR h
  go_enter Try.func17, Try.ntmps17
  go_wp2_with fail
  go_loopw [7] (fun i wr => ∃ j : Int, 0 ≤ j ∧ j ≤ 1024 ∧ i = .int .i64 j ∧ (R = -1 ∨ j ≤ R) ∧ Only [] (w.alloc (.cells #[.int .i64 s, .int .i64 u, .int .i64 t] 23)) wr) (fun i _ => (1024 - intOf i).toNat)
  case atStart => exact ⟨0, by omega, by omega, rfl, by have := HR.out; omega, Only.refl _ _⟩
  case round =>
    obtain ⟨j, j0, j1, rfl, hj, kr⟩ := hrel
    obtain ⟨c0, c1, c2⟩ := box3 kr
    by_cases hlt : j < 1024
    · by_cases hm : srv s u t j = v ∧ pos s u j = a
      · have hRj : j = R := by
          rcases HR.out with ⟨h1, h2, h3, h4⟩ | ⟨h1, h2⟩
          · rcases hj with hj | hj
            · omega
            · rcases Int.lt_or_le j R with hl | hl
              · exact absurd hm (h4 j j0 hl)
              · omega
          · exact absurd hm (h2 j j0 hlt)
        have m1 : (srv s u t j == v) = true := by simp [hm.1]
        have m2 : (pos s u j == a) = true := by simp [hm.2]
        clear hm hj
        subst hRj
        go_wp2_with fail
        refine (rwhere_any s u t j _ H.out j0 hlt).mono ?_; rintro e w2 ⟨rfl, k2⟩
        go_wp2
        go_ret
        exact ⟨rfl, (kr.trans k2).boxed⟩
      · have hn : R = -1 ∨ j + 1 ≤ R := by
          rcases hj with hj | hj
          · exact .inl hj
          · rcases HR.out with ⟨h1, h2, h3, h4⟩ | ⟨h1, h2⟩
            · refine .inr ?_
              rcases Int.lt_or_le j R with hl | hl
              · omega
              · exact absurd (by rw [show j = R by omega]; exact h3) hm
            · exact .inl h1
        have HN := Lib.hid hn
        clear hn hj
        by_cases m1 : srv s u t j = v
        · have q1 : (srv s u t j == v) = true := by simp [m1]
          have q2 : (pos s u j == a) = false := by simp; exact fun h => hm ⟨m1, h⟩
          clear m1 hm
          go_wp2_with fail
          refine (rwhere_any s u t j _ H.out j0 hlt).mono ?_; rintro e w2 ⟨rfl, k2⟩
          go_wp2_with fail
          go_roundw
          case rel => exact ⟨j + 1, by omega, by omega, by go_num, HN.out, kr.trans k2⟩
          case measure => simp [intOf]; omega
        · have q1 : (srv s u t j == v) = false := by simp [m1]
          clear m1 hm
          go_wp2_with fail
          refine (rwhere_any s u t j _ H.out j0 hlt).mono ?_; rintro e w2 ⟨rfl, k2⟩
          go_wp2_with fail
          go_roundw
          case rel => exact ⟨j + 1, by omega, by omega, by go_num, HN.out, kr.trans k2⟩
          case measure => simp [intOf]; omega
    · have hR1 : R = -1 := by
        rcases HR.out with ⟨h1, h2, h3, h4⟩ | ⟨h1, h2⟩
        · omega
        · exact h1
      clear hj
      subst hR1
      go_wp2
      go_ret
      exact ⟨rfl, kr.boxed⟩

theorem rback_ok (s u t v a : Int) (w : World) (h : Rt s u t) (v0 : 1 ≤ v) (v1 : v ≤ s) (a0 : 0 ≤ a) (hx : bck s u t v a < 1024) :
    Calls Try.prog 17 #[.agg #[.int .i64 s, .int .i64 u, .int .i64 t], .int .i64 v, .int .i64 a] w fun e w' => e = .returned (.int .i64 (bck s u t v a)) ∧ Only [] w w' := by
  obtain ⟨b0, b1, b2⟩ := where_bck (t := t) h.1 h.2.2.1 v0 v1 a0
  refine rback_any s u t v a _ w h (.inl ⟨b0, hx, ⟨b1, b2⟩, fun x x0 x1 hm => ?_⟩)
  have := where_inj (t := t) h.1 h.2.2.1 x0 b0 (by rw [hm.1, b1]) (by rw [hm.2, b2])
  omega

theorem rback_no (s u t v a : Int) (w : World) (h : Rt s u t) (hn : ¬ (1 ≤ v ∧ v ≤ s ∧ 0 ≤ a ∧ bck s u t v a < 1024)) :
    Calls Try.prog 17 #[.agg #[.int .i64 s, .int .i64 u, .int .i64 t], .int .i64 v, .int .i64 a] w fun e w' => e = .returned (.int .i64 (-1)) ∧ Only [] w w' := by
  refine rback_any s u t v a _ w h (.inr ⟨rfl, fun x x0 x1 hm => hn ?_⟩)
  obtain ⟨rfl, rfl⟩ := hm
  have hb := bck_where (t := t) h.1 h.2.2.1 x0
  exact ⟨(srv_rng h.1).1, (srv_rng h.1).2, (pos_row h.1 h.2.2.1 x0).1, by omega⟩

theorem rok_yes (o l : Int) (w : World) (o0 : 0 ≤ o) (l0 : 0 ≤ l) (h : l ≤ 1024 - o) :
    Calls Try.prog 19 #[.int .i64 o, .int .i64 l] w fun e w' => e = .returned (.bool true) ∧ w' = w := by
  have o1 : o ≤ 1024 := by omega
  go_enter Try.func19, Try.ntmps19
  go_wp2
  go_ret; exact ⟨rfl, rfl⟩

theorem rok_no (o l : Int) (w : World) (o8 : -9223372036854775808 ≤ o) (o9 : o ≤ 9223372036854775807) (h : ¬ (0 ≤ o ∧ 0 ≤ l ∧ l ≤ 1024 - o)) :
    Calls Try.prog 19 #[.int .i64 o, .int .i64 l] w fun e w' => e = .returned (.bool false) ∧ w' = w := by
  by_cases h0 : o < 0
  · have d0 : decide (0 ≤ o) = false := by simp; omega
    clear h h0
    go_enter Try.func19, Try.ntmps19
    go_wp2
    go_ret; exact ⟨rfl, rfl⟩
  · have d0 : decide (0 ≤ o) = true := by simp; omega
    by_cases h1 : 1024 < o
    · have d1 : decide (o ≤ 1024) = false := by simp; omega
      clear h h0 h1
      go_enter Try.func19, Try.ntmps19
      go_wp2
      go_ret; exact ⟨rfl, rfl⟩
    · have d1 : decide (o ≤ 1024) = true := by simp; omega
      by_cases h2 : l < 0
      · have d2 : decide (0 ≤ l) = false := by simp; omega
        clear h h2
        go_enter Try.func19, Try.ntmps19
        go_wp2
        go_ret; exact ⟨rfl, rfl⟩
      · have d2 : decide (0 ≤ l) = true := by simp; omega
        have d3 : decide (l ≤ 1024 - o) = false := by
          have : ¬ l ≤ 1024 - o := fun h3 => h ⟨by omega, by omega, h3⟩
          simp; omega
        have o0 : 0 ≤ o := by omega
        have o1 : o ≤ 1024 := by omega
        clear h h0 h1 h2
        go_enter Try.func19, Try.ntmps19
        go_wp2
        go_ret; exact ⟨rfl, rfl⟩

end Go.Proofs.Ytiadhmjmiaamcaa
