/- The walks of package plane, second part: steps, turns, servers, distances; the reference's Ok, Place and Same; the laws' own 'alive'. -/
import Derived.Test.YthmicabihpfeiaaWalks
namespace Go.Proofs.Ythmicabihpfeiaa
open Go.RowKit Go.Proofs.Ythmicabihpfeiaa.Fl

theorem sum_parts {x y a b : Nat} {c r p q : Int} (hx : Whole x c) (hy : Whole y r) (ha : Whole a p) (hb : Whole b q) (h1 : (c + p).natAbs < 9007199254740992) (h2 : (r + q).natAbs < 9007199254740992) :
    ∃ u v, Whole u (c + p) ∧ Whole v (r + q) ∧ ∀ (t : TypeId) (w : World), (binOp .add t (.complex .f64 x y) (.complex .f64 a b)).run Try.prog w = .ok (.complex .f64 u v) w := by
  obtain ⟨u, e1, hu⟩ := add_whole hx ha h1
  obtain ⟨v, e2, hv⟩ := add_whole hy hb h2
  refine ⟨u, v, hu, hv, fun t w => run_complex_sum w .add (.inl rfl) t .f64 x y a b u v ?_⟩
  have g1 : floatBits .add .f64 x a = some u := e1
  have g2 : floatBits .add .f64 y b = some v := e2
  simp [cSumBits, g1, g2]

theorem sub_parts {x y a b : Nat} {c r p q : Int} (hx : Whole x c) (hy : Whole y r) (ha : Whole a p) (hb : Whole b q) (h1 : (c - p).natAbs < 9007199254740992) (h2 : (r - q).natAbs < 9007199254740992) :
    ∃ u v, Whole u (c - p) ∧ Whole v (r - q) ∧ ∀ (t : TypeId) (w : World), (binOp .sub t (.complex .f64 x y) (.complex .f64 a b)).run Try.prog w = .ok (.complex .f64 u v) w := by
  obtain ⟨u, e1, hu⟩ := sub_whole hx ha h1
  obtain ⟨v, e2, hv⟩ := sub_whole hy hb h2
  refine ⟨u, v, hu, hv, fun t w => run_complex_sum w .sub (.inr rfl) t .f64 x y a b u v ?_⟩
  have g1 : floatBits .sub .f64 x a = some u := e1
  have g2 : floatBits .sub .f64 y b = some v := e2
  simp [cSumBits, g1, g2]

theorem whole_one : Whole 4607182418800017408 1 := by
  have h : (4607182418800017408 : Nat) = floatOfInt .f64 1 := by decide +kernel
  rw [h]; exact whole_ofInt (by decide)
theorem whole_two : Whole 4611686018427387904 2 := by
  have h : (4611686018427387904 : Nat) = floatOfInt .f64 2 := by decide +kernel
  rw [h]; exact whole_ofInt (by decide)
theorem whole_top : Whole 4746794007248502784 2147483648 := by
  have h : (4746794007248502784 : Nat) = floatOfInt .f64 2147483648 := by decide +kernel
  rw [h]; exact whole_ofInt (by decide)
theorem whole_last : Whole 4746794007244308480 2147483647 := by
  have h : (4746794007244308480 : Nat) = floatOfInt .f64 2147483647 := by decide +kernel
  rw [h]; exact whole_ofInt (by decide)
theorem whole_nought : Whole 0 0 := whole_zero false

/-- The place of the next unit. -/
theorem step_on (x y : Nat) (c r n : Int) (w : World) (h : At x y c r n) (hc : c + 1 < n) :
    ∃ u v, At u v (c + 1) r n ∧ Calls Try.prog 15 #[.complex .f64 x y, .int .i64 n] w fun e w' => e = .returned (.tuple #[.complex .f64 u v, .bool true]) ∧ w = w' := by
  have hat := h
  obtain ⟨hx, hy, c0, c1, r0, r1, n1, n2⟩ := h
  obtain ⟨u, v, hu, hv, s1⟩ := sum_parts hx hy whole_one whole_nought (by omega) (by omega)
  rw [Int.add_zero] at hv
  refine ⟨u, v, ⟨hu, hv, by omega, hc, r0, r1, n1, n2⟩, ?_⟩
  have g1 : (FloatKind.f64.format.order u (floatOfInt .f64 n) == some .eq) = false := by
    rw [eq_bool hu (whole_ofInt (by omega))]; simp; omega
  have g2 : (FloatKind.f64.format.order v 4746794007248502784 == some .eq) = false := by
    rw [eq_bool hv whole_top]; simp; omega
  have s2 := s1 24
  clear s1
  go_enter Try.func15, Try.ntmps15
  go_wp2_with fail
  refine (unit_yes x y c r n _ hat).mono ?_; rintro e w' ⟨rfl, rfl⟩
  go_wp2_with fail
  go_ret2; exact ⟨rfl, rfl⟩

theorem run_neg_float (b : Nat) : Op.unary .neg (.float .f64 b) = (pure (.float .f64 (Op.negFloat .f64 b)) : Sem Value) := rfl

theorem ret_int {k : IntKind} {a b : Int} (h : a = b) : Ending.returned (.int k a) = .returned (.int k b) := by rw [h]

theorem step_wrap (x y : Nat) (c r n : Int) (w : World) (h : At x y c r n) (hc : c + 1 = n) (hr : r + 1 < 2147483648) :
    ∃ u v, At u v 0 (r + 1) n ∧ Calls Try.prog 15 #[.complex .f64 x y, .int .i64 n] w fun e w' => e = .returned (.tuple #[.complex .f64 u v, .bool true]) ∧ w = w' := by
  have hat := h
  obtain ⟨hx, hy, c0, c1, r0, r1, n1, n2⟩ := h
  obtain ⟨u1, v1, hu1, hv1, s1⟩ := sum_parts hx hy whole_one whole_nought (by omega) (by omega)
  rw [Int.add_zero] at hv1
  obtain ⟨u, v, hu, hv, t1⟩ := sum_parts hu1 hv1 (whole_ofInt (z := -n) (by omega)) whole_one (by omega) (by omega)
  rw [hc, Int.add_right_neg] at hu
  refine ⟨u, v, ⟨hu, hv, by omega, by omega, by omega, hr, n1, n2⟩, ?_⟩
  have g1 : (FloatKind.f64.format.order u1 (floatOfInt .f64 n) == some .eq) = true := by
    rw [eq_bool hu1 (whole_ofInt (by omega))]; simp; omega
  have g2 : (FloatKind.f64.format.order v 4746794007248502784 == some .eq) = false := by
    rw [eq_bool hv whole_top]; simp; omega
  have hneg := neg_small n n1 n2
  have s2 := s1 24
  have t2 := t1 24
  have hn := run_neg_float (floatOfInt .f64 n)
  rw [hneg] at hn
  clear s1 t1 hc hneg
  go_enter Try.func15, Try.ntmps15
  go_wp2_with fail
  refine (unit_yes x y c r n _ hat).mono ?_; rintro e w' ⟨rfl, rfl⟩
  go_wp2_with fail
  go_ret2; exact ⟨rfl, rfl⟩

theorem step_end (x y : Nat) (c r n : Int) (w : World) (h : At x y c r n) (hc : c + 1 = n) (hr : r + 1 = 2147483648) :
    Calls Try.prog 15 #[.complex .f64 x y, .int .i64 n] w fun e w' => e = .returned (.tuple #[.complex .f64 0 0, .bool false]) ∧ w = w' := by
  have hat := h
  obtain ⟨hx, hy, c0, c1, r0, r1, n1, n2⟩ := h
  obtain ⟨u1, v1, hu1, hv1, s1⟩ := sum_parts hx hy whole_one whole_nought (by omega) (by omega)
  rw [Int.add_zero] at hv1
  obtain ⟨u, v, hu, hv, t1⟩ := sum_parts hu1 hv1 (whole_ofInt (z := -n) (by omega)) whole_one (by omega) (by omega)
  have g1 : (FloatKind.f64.format.order u1 (floatOfInt .f64 n) == some .eq) = true := by
    rw [eq_bool hu1 (whole_ofInt (by omega))]; simp; omega
  have g2 : (FloatKind.f64.format.order v 4746794007248502784 == some .eq) = true := by
    rw [eq_bool hv whole_top]; simp; omega
  have hneg := neg_small n n1 n2
  have s2 := s1 24
  have t2 := t1 24
  have hn := run_neg_float (floatOfInt .f64 n)
  rw [hneg] at hn
  clear s1 t1 hc hneg hr
  go_enter Try.func15, Try.ntmps15
  go_wp2_with fail
  refine (unit_yes x y c r n _ hat).mono ?_; rintro e w' ⟨rfl, rfl⟩
  go_wp2_with fail
  go_ret2; exact ⟨rfl, rfl⟩

theorem step_off (x y : Nat) (n : Int) (w : World) (h : Off x y n) :
    Calls Try.prog 15 #[.complex .f64 x y, .int .i64 n] w fun e w' => e = .returned (.tuple #[.complex .f64 0 0, .bool false]) ∧ w = w' := by
  go_enter Try.func15, Try.ntmps15
  go_wp2_with fail
  refine (unit_no x y n _ h).mono ?_; rintro e w' ⟨rfl, rfl⟩
  go_wp2_with fail
  go_ret2; exact ⟨rfl, rfl⟩

/-- The turn from 0 to n - 1. -/
theorem forward_any (t n : Int) (w : World) (t0 : -9223372036854775808 ≤ t) (t1 : t ≤ 9223372036854775807) (n1 : 1 ≤ n) (n2 : n ≤ 16) :
    Calls Try.prog 22 #[.int .i64 t, .int .i64 n] w fun e w' => e = .returned (.int .i64 (t % n)) ∧ w = w' := by
  by_cases h : 0 ≤ t
  · have a1 := Int.emod_nonneg t (by omega : n ≠ 0)
    go_enter Try.func22, Try.ntmps22
    go_wp2
    go_ret; exact ⟨rfl, rfl⟩
  · have a2 := Int.emod_nonneg t (by omega : n ≠ 0)
    have a3 := Int.emod_lt_of_pos t (by omega : 0 < n)
    have a4 : t.tmod n = -((-t) % n) := by
      have := Int.neg_tmod (-t) n
      rw [Int.neg_neg] at this
      rw [this, Int.tmod_eq_emod_of_nonneg (by omega)]
    have b2 := Int.emod_nonneg (-t) (by omega : n ≠ 0)
    have b3 := Int.emod_lt_of_pos (-t) (by omega : 0 < n)
    have hs : (t % n + (-t) % n) % n = 0 := by rw [← Int.add_emod, Int.add_right_neg]; rfl
    by_cases hd : t.tmod n < 0
    · have e1 : t.tmod n + n = t % n := by
        have : t % n + (-t) % n = n := by
          rcases Int.lt_or_le (t % n + (-t) % n) n with hl | hl
          · rw [Int.emod_eq_of_lt (by omega) hl] at hs; omega
          · have : (t % n + (-t) % n - n) % n = 0 := by rw [Int.sub_emod, hs, Int.emod_self]; rfl
            rw [Int.emod_eq_of_lt (by omega) (by omega)] at this; omega
        omega
      have E := Lib.hid e1
      have b1 : -n < t.tmod n := by omega
      clear e1 a4 hs a2 a3 b2 b3
      go_enter Try.func22, Try.ntmps22
      go_wp2
      go_ret; exact ⟨ret_int E.out, rfl⟩
    · have e1 : t.tmod n = t % n := by
        have : (-t) % n = 0 := by omega
        rw [this, Int.add_zero, Int.emod_emod] at hs
        omega
      have E := Lib.hid e1
      clear e1 a4 hs a2 a3 b2 b3
      go_enter Try.func22, Try.ntmps22
      go_wp2
      go_ret; exact ⟨ret_int E.out, rfl⟩

theorem turn_of (c s n : Int) (c0 : 0 ≤ c) (c1 : c < n) (s0 : 0 ≤ s) (s1 : s < n) : (c + s) % n = if n ≤ c + s then c + s - n else c + s := by
  by_cases h : n ≤ c + s
  · rw [if_pos h, ← Int.sub_emod_right, Int.emod_eq_of_lt (by omega) (by omega)]
  · rw [if_neg h, Int.emod_eq_of_lt (by omega) (by omega)]

theorem ge_num {b l : Nat} {k z : Int} (h : Whole b k) (hl : Whole l z) : (FloatKind.f64.format.order b l == some .gt || FloatKind.f64.format.order b l == some .eq) = decide (z ≤ k) := by
  rw [show FloatKind.f64.format.order b l = some (compare k z) from order_whole h hl]
  rcases Int.lt_trichotomy k z with hp | hp | hp
  · rw [Int.compare_eq_lt.2 hp]; simp [Int.not_le.2 hp]
  · rw [Int.compare_eq_eq.2 hp]; simp [hp]
  · rw [Int.compare_eq_gt.2 hp]; simp [Int.le_of_lt hp]

theorem turn_yes (x y : Nat) (c r t n : Int) (w : World) (t0 : -9223372036854775808 ≤ t) (t1 : t ≤ 9223372036854775807) (h : At x y c r n) :
    ∃ u v, At u v ((c + t) % n) r n ∧ Calls Try.prog 17 #[.complex .f64 x y, .int .i64 t, .int .i64 n] w fun e w' => e = .returned (.tuple #[.complex .f64 u v, .bool true]) ∧ w = w' := by
  have hat := h
  obtain ⟨hx, hy, c0, c1, r0, r1, n1, n2⟩ := h
  have s0 := Int.emod_nonneg t (by omega : n ≠ 0)
  have s1 := Int.emod_lt_of_pos t (by omega : 0 < n)
  have he : (c + t) % n = if n ≤ c + t % n then c + t % n - n else c + t % n := by
    rw [← turn_of c (t % n) n c0 c1 s0 s1, Int.add_emod_emod]
  obtain ⟨u1, v1, hu1, hv1, a1⟩ := sum_parts hx hy (whole_ofInt (z := t % n) (by omega)) whole_nought (by omega) (by omega)
  have hv0 := hv1
  rw [Int.add_zero] at hv0
  have a2 := a1 24
  have gd := ge_num hu1 (whole_ofInt (z := n) (by omega))
  by_cases hc : n ≤ c + t % n
  · obtain ⟨u, v, hu, hv, b1⟩ := sub_parts hu1 hv0 (whole_ofInt (z := n) (by omega)) whole_nought (by omega) (by omega)
    rw [Int.sub_zero] at hv
    rw [if_pos hc] at he
    refine ⟨u, v, ?_, ?_⟩
    · rw [he]; exact ⟨hu, hv, by omega, by omega, r0, r1, n1, n2⟩
    have b2 := b1 24
    rw [decide_eq_true hc] at gd
    clear a1 b1 he hv0 hv1 hc
    go_enter Try.func17, Try.ntmps17
    go_wp2_with fail
    refine (unit_yes x y c r n _ hat).mono ?_; rintro e w' ⟨rfl, rfl⟩
    go_wp2_with fail
    refine (forward_any t n _ t0 t1 n1 n2).mono ?_; rintro e w' ⟨rfl, rfl⟩
    go_wp2_with fail
    go_ret2; exact ⟨rfl, rfl⟩
  · rw [if_neg hc] at he
    refine ⟨u1, v1, ?_, ?_⟩
    · rw [he]; exact ⟨hu1, hv0, by omega, by omega, r0, r1, n1, n2⟩
    rw [decide_eq_false hc] at gd
    clear a1 he hv0 hv1 hc
    go_enter Try.func17, Try.ntmps17
    go_wp2_with fail
    refine (unit_yes x y c r n _ hat).mono ?_; rintro e w' ⟨rfl, rfl⟩
    go_wp2_with fail
    refine (forward_any t n _ t0 t1 n1 n2).mono ?_; rintro e w' ⟨rfl, rfl⟩
    go_wp2_with fail
    go_ret2; exact ⟨rfl, rfl⟩

theorem turn_off (x y : Nat) (t n : Int) (w : World) (h : Off x y n) :
    Calls Try.prog 17 #[.complex .f64 x y, .int .i64 t, .int .i64 n] w fun e w' => e = .returned (.tuple #[.complex .f64 0 0, .bool false]) ∧ w = w' := by
  go_enter Try.func17, Try.ntmps17
  go_wp2_with fail
  refine (unit_no x y n _ h).mono ?_; rintro e w' ⟨rfl, rfl⟩
  go_wp2_with fail
  go_ret2; exact ⟨rfl, rfl⟩

theorem server_yes (k t n : Int) (w : World) (t0 : -9223372036854775808 ≤ t) (t1 : t ≤ 9223372036854775807) (n1 : 1 ≤ n) (n2 : n ≤ 16) (k0 : 0 ≤ k) (k1 : k < n * 2147483648) :
    Calls Try.prog 18 #[.int .i64 k, .int .i64 t, .int .i64 n] w fun e w' => e = .returned (.tuple #[.int .i64 (1 + (k + t) % n), .int .i64 0]) ∧ Grown w w' := by
  have hat := at_place n1 n2 k0 k1
  have he : (k % n + t) % n = (k + t) % n := by rw [Int.emod_add_emod]
  have e0 := Int.emod_nonneg (k + t) (by omega : n ≠ 0)
  have e1 := Int.emod_lt_of_pos (k + t) (by omega : 0 < n)
  have E := Lib.hid he
  clear he
  go_enter Try.func18, Try.ntmps18
  go_wp2_with fail
  refine (place_yes k n _ n1 n2 k0 k1).mono ?_; rintro e w1 ⟨rfl, hg⟩
  go_wp2_with fail
  obtain ⟨u, v, hu, hc⟩ := turn_yes _ _ _ _ t n w1 t0 t1 hat
  rw [E.out] at hu
  refine hc.mono ?_; rintro e w' ⟨rfl, rfl⟩
  have g4 := conv_whole hu.1 (by omega) (by omega)
  clear hc hu
  go_wp2_with fail
  go_ret2; exact ⟨rfl, hg⟩

theorem server_no (k t n : Int) (w : World) (h : n < 1 ∨ 16 < n ∨ k < 0 ∨ n * 2147483648 ≤ k) :
    Calls Try.prog 18 #[.int .i64 k, .int .i64 t, .int .i64 n] w fun e w' => e = .returned (.tuple #[.int .i64 0, .int .i64 1]) ∧ w = w' := by
  go_enter Try.func18, Try.ntmps18
  go_wp2_with fail
  refine (place_no k n _ h).mono ?_; rintro e w1 ⟨rfl, rfl⟩
  clear h
  go_wp2_with fail
  go_ret2; exact ⟨rfl, rfl⟩

theorem between_yes (x y x' y' : Nat) (c r c' r' n : Int) (w : World) (h : At x y c r n) (h' : At x' y' c' r' n) :
    Calls Try.prog 16 #[.complex .f64 x y, .complex .f64 x' y', .int .i64 n] w fun e w' => e = .returned (.tuple #[.int .i64 (r' * n + c' - (r * n + c)), .bool true]) ∧ w = w' := by
  have ha := h
  have ha' := h'
  obtain ⟨hx, hy, c0, c1, r0, r1, n1, n2⟩ := h
  obtain ⟨hx', hy', c0', c1', r0', r1', _, _⟩ := h'
  have b1 := mul_bd r n r0 r1 n1 n2
  have b2 := mul_bd r' n r0' r1' n1 n2
  have d1 : -9223372036854775808 ≤ r' * n + c' - (r * n + c) := by omega
  have d2 : r' * n + c' - (r * n + c) ≤ 9223372036854775807 := by omega
  go_enter Try.func16, Try.ntmps16
  go_wp2_with fail
  refine (unit_yes x y c r n _ ha).mono ?_; rintro e w1 ⟨rfl, rfl⟩
  go_wp2_with fail
  refine (unit_yes x' y' c' r' n _ ha').mono ?_; rintro e w1 ⟨rfl, rfl⟩
  go_wp2_with fail
  go_ret2; exact ⟨rfl, rfl⟩

/-- May a unit be, by the reference? -/
theorem rok_yes (k n : Int) (w : World) (n1 : 1 ≤ n) (n2 : n ≤ 16) (k0 : 0 ≤ k) (k1 : k < n * 2147483648) :
    Calls Try.prog 12 #[.int .i64 k, .int .i64 n] w fun e w' => e = .returned (.bool true) ∧ w = w' := by
  have b0 : 0 ≤ k / n := Int.ediv_nonneg k0 (by omega)
  have b2 : k / n < 2147483648 := Int.ediv_lt_of_lt_mul (by omega) (by rw [Int.mul_comm]; exact k1)
  go_enter Try.func12, Try.ntmps12
  go_wp2_with fail
  go_ret; exact ⟨rfl, rfl⟩

theorem rok_no (k n : Int) (w : World) (hk : k ≤ 9223372036854775807) (h : n < 1 ∨ 16 < n ∨ k < 0 ∨ n * 2147483648 ≤ k) :
    Calls Try.prog 12 #[.int .i64 k, .int .i64 n] w fun e w' => e = .returned (.bool false) ∧ w = w' := by
  by_cases h1 : n < 1
  · have d1 : decide (1 ≤ n) = false := by simp; omega
    clear h
    go_enter Try.func12, Try.ntmps12
    go_wp2_with fail
    go_ret; exact ⟨rfl, rfl⟩
  by_cases h2 : 16 < n
  · have d1 : decide (1 ≤ n) = true := by simp; omega
    have d2 : decide (n ≤ 16) = false := by simp; omega
    clear h
    go_enter Try.func12, Try.ntmps12
    go_wp2_with fail
    go_ret; exact ⟨rfl, rfl⟩
  have n1 : 1 ≤ n := by omega
  have n2 : n ≤ 16 := by omega
  by_cases h3 : k < 0
  · have d3 : decide (0 ≤ k) = false := by simp; omega
    clear h h1 h2
    go_enter Try.func12, Try.ntmps12
    go_wp2_with fail
    go_ret; exact ⟨rfl, rfl⟩
  · have h4 : n * 2147483648 ≤ k := by omega
    have b2 : 2147483648 ≤ k / n := Int.le_ediv_of_mul_le (by omega) (by rw [Int.mul_comm]; exact h4)
    have b3 : k / n ≤ k := Int.ediv_le_self n (by omega)
    have d3 : decide (0 ≤ k) = true := by simp; omega
    have d4 : decide (k / n < 2147483648) = false := by simp; omega
    clear h h1 h2 h3
    go_enter Try.func12, Try.ntmps12
    go_wp2_with fail
    go_ret; exact ⟨rfl, rfl⟩

theorem rplace_any (k n : Int) (w : World) (n1 : 1 ≤ n) (n2 : n ≤ 16) (k0 : 0 ≤ k) (k1 : k < n * 2147483648) :
    Calls Try.prog 14 #[.int .i64 k, .int .i64 n] w fun e w' => e = .returned (.complex .f64 (floatOfInt .f64 (k % n)) (floatOfInt .f64 (k / n))) ∧ Grown w w' := by
  go_enter Try.func14, Try.ntmps14
  go_wp2_with fail
  go_region
  go_wp2
  go_ret; exact ⟨rfl, (Grown.refl _).drew⟩

/-- The same places. -/
theorem same_yes (x y x' y' : Nat) (c r n : Int) (w : World) (h : At x y c r n) (h' : At x' y' c r n) :
    Calls Try.prog 13 #[.complex .f64 x y, .complex .f64 x' y'] w fun e w' => e = .returned (.bool true) ∧ w = w' := by
  have g1 : (FloatKind.f64.format.order x x' == some .eq) = true := by rw [eq_bool h.1 h'.1]; simp
  have g2 : (FloatKind.f64.format.order y y' == some .eq) = true := by rw [eq_bool h.2.1 h'.2.1]; simp
  clear h h'
  go_enter Try.func13, Try.ntmps13
  go_wp2_with fail
  go_ret; exact ⟨rfl, rfl⟩

/-- What every right program answers. -/
theorem alive_any (w : World) :
    Calls Try.prog 8 #[] w fun e w' => e = .returned (.bool true) ∧ Grown w w' := by
  go_enter Try.func8, Try.ntmps8
  go_wp2_with fail
  refine (place_yes 7 3 _ (by omega) (by omega) (by omega) (by omega)).mono ?_; rintro e w1 ⟨rfl, hg1⟩
  go_wp2_with fail
  obtain ⟨u, v, hu, hc⟩ := step_wrap 4611686018427387904 0 2 0 3 w1 ⟨whole_two, whole_nought, by omega, by omega, by omega, by omega, by omega, by omega⟩ (by omega) (by omega)
  refine hc.mono ?_; rintro e w' ⟨rfl, rfl⟩
  clear hc
  go_wp2_with fail
  refine (server_yes 7 1 3 _ (by omega) (by omega) (by omega) (by omega) (by omega) (by omega)).mono ?_; rintro e w2 ⟨rfl, hg2⟩
  have g1 : (FloatKind.f64.format.order (floatOfInt .f64 (7 % 3)) 4607182418800017408 == some .eq) = true := by rw [eq_bool (whole_ofInt (by decide)) whole_one]; rfl
  have g2 : (FloatKind.f64.format.order (floatOfInt .f64 (7 / 3)) 4611686018427387904 == some .eq) = true := by rw [eq_bool (whole_ofInt (by decide)) whole_two]; rfl
  have g3 : (FloatKind.f64.format.order u 0 == some .eq) = true := by rw [eq_bool hu.1 whole_nought]; rfl
  have g4 : (FloatKind.f64.format.order v 4607182418800017408 == some .eq) = true := by rw [eq_bool hu.2.1 whole_one]; rfl
  go_wp2_with fail
  go_ret; exact ⟨rfl, Grown.trans hg1 hg2⟩

end Go.Proofs.Ythmicabihpfeiaa
