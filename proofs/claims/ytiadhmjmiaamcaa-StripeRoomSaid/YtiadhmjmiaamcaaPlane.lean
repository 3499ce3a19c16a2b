/- The walks of package plane, as far as package stripe and its laws call it: what each function returns, by the values of its floats. -/
import Derived.Test.YtiadhmjmiaamcaaChecked
import Derived.Test.YtiadhmjmiaamcaaFl
import Derived.Test.YtiadhmjmiaamcaaMem
import Derived.Tactics
import Derived.Tactics2
import Derived.StillTactics
import Derived.RegionTactic
import Derived.WalkKit
import Derived.WalkLawsBesides
import Derived.WalkSpells
import Derived.Outline
import Derived.Laws.Pointers
import Derived.Laws.Small
import Derived.Laws.Build
import Derived.Laws.Cover3
import Derived.Laws.ComplexArith
import Derived.KernelRfl
import Derived.Lib.Hide
import Derived.BigQuiet
namespace Go.Proofs.Ytiadhmjmiaamcaa
open Go.RowKit Go.Proofs.Ytiadhmjmiaamcaa.Fl

theorem columns_yes (n : Int) (w : World) (h1 : 1 ≤ n) (h2 : n ≤ 16) :
    Calls Try.prog 32 #[.int .i64 n] w fun e w' => e = .returned (.bool true) ∧ w = w' := by
  go_enter Try.func32, Try.ntmps32
  go_wp2
  all_goals (go_ret; exact ⟨rfl, rfl⟩)

theorem columns_no (n : Int) (w : World) (h : n < 1 ∨ 16 < n) :
    Calls Try.prog 32 #[.int .i64 n] w fun e w' => e = .returned (.bool false) ∧ w = w' := by
  rcases h with h | h
  · go_enter Try.func32, Try.ntmps32
    go_wp2
    all_goals (go_ret; exact ⟨rfl, rfl⟩)
  · have h1 : 1 ≤ n := by omega
    have h2 : decide (n ≤ 16) = false := by simp; omega
    go_enter Try.func32, Try.ntmps32
    go_wp2
    all_goals (go_ret; exact ⟨rfl, rfl⟩)

/-- 'int(x)' of a double that is cut to k. -/
theorem toIntVal {b : Nat} {k : Int} (h : (Ieee.double.read b).toInt .zero = some k) (h1 : -9223372036854775808 ≤ k) (h2 : k ≤ 9223372036854775807) :
    floatToIntVal .f64 b .i64 = some k := by
  unfold floatToIntVal
  have : (FloatKind.decode .f64 b).toInt .zero = some k := h
  rw [this]
  simp only
  rw [if_pos ⟨h1, h2⟩]

/-- 'int(x)' of a double that stands for a whole number. -/
theorem conv_whole {b : Nat} {k : Int} (h : Whole b k) (h1 : -9223372036854775808 ≤ k) (h2 : k ≤ 9223372036854775807) (w : World) :
    (convert 51 3 (.float .f64 b)).run Try.prog w = .ok (.int .i64 k) w :=
  run_convert_float_int w _ _ .f64 .i64 b k (by kernel_rfl) Try.underlying3 (toIntVal (toInt_whole h) h1 h2)

theorem ge_bool {b : Nat} {k : Int} (h : Whole b k) (h0 : 0 ≤ k) : (FloatKind.f64.format.order b 0 == some .gt || FloatKind.f64.format.order b 0 == some .eq) = true := by
  have := order_whole h (whole_zero false)
  rw [show FloatKind.f64.format.order b 0 = some (compare k 0) from this]
  rcases Int.lt_or_eq_of_le h0 with hp | hp
  · rw [Int.compare_eq_gt.2 hp]; rfl
  · rw [Int.compare_eq_eq.2 hp.symm]; rfl

theorem lt_bool {b l : Nat} {k z : Int} (h : Whole b k) (hl : Whole l z) (h0 : k < z) : (FloatKind.f64.format.order b l == some .lt) = true := by
  rw [show FloatKind.f64.format.order b l = some (compare k z) from order_whole h hl, Int.compare_eq_lt.2 h0]; rfl

theorem eq_bool {b l : Nat} {k z : Int} (h : Whole b k) (hl : Whole l z) : (FloatKind.f64.format.order b l == some .eq) = decide (k = z) := by
  rw [show FloatKind.f64.format.order b l = some (compare k z) from order_whole h hl]
  by_cases hk : k = z
  · rw [Int.compare_eq_eq.2 hk]; simp [hk]
  · simp [hk]

theorem ne_bool {b l : Nat} {k z : Int} (h : Whole b k) (hl : Whole l z) : (FloatKind.f64.format.order b l != some .eq) = decide (k ≠ z) := by
  unfold bne
  rw [eq_bool h hl]
  simp

set_option maxHeartbeats 400000 in
theorem whole_yes (b : Nat) (k z : Int) (w : World) (h : Whole b k) (h0 : 0 ≤ k) (h1 : k < z) (h2 : z ≤ 2147483648) :
    Calls Try.prog 34 #[.float .f64 b, .int .i64 z] w fun e w' => e = .returned (.tuple #[.int .i64 k, .bool true]) ∧ w = w' := by
  have hz : Whole (floatOfInt .f64 z) z := whole_ofInt (by omega)
  have hk : Whole (floatOfInt .f64 k) k := whole_ofInt (by omega)
  have g1 := ge_bool h h0
  have g2 := lt_bool h hz h1
  have g3 : (FloatKind.f64.format.order (floatOfInt .f64 k) b != some .eq) = false := by rw [ne_bool hk h]; simp
  have g4 := conv_whole h (by omega) (by omega)
  clear hz hk
  go_enter Try.func34, Try.ntmps34
  go_wp2
  go_ret2; exact ⟨rfl, rfl⟩

/-- What is no whole number from 0 to below z. -/
def Outside (b : Nat) (z : Int) : Prop := ∀ k : Int, 0 ≤ k → k < z → ¬ Whole b k

theorem outside_ways {b : Nat} {z : Int} (hz0 : 0 ≤ z) (h2 : z ≤ 2147483648) (h : Outside b z) :
    (FloatKind.f64.format.order b 0 == some .gt || FloatKind.f64.format.order b 0 == some .eq) = false ∨
    ((FloatKind.f64.format.order b 0 == some .gt || FloatKind.f64.format.order b 0 == some .eq) = true ∧ (FloatKind.f64.format.order b (floatOfInt .f64 z) == some .lt) = false) ∨
    ((FloatKind.f64.format.order b 0 == some .gt || FloatKind.f64.format.order b 0 == some .eq) = true ∧ (FloatKind.f64.format.order b (floatOfInt .f64 z) == some .lt) = true ∧
      ∃ k : Int, (Ieee.double.read b).toInt .zero = some k ∧ 0 ≤ k ∧ k < z ∧ (FloatKind.f64.format.order (floatOfInt .f64 k) b != some .eq) = true) := by
  have hz : Whole (floatOfInt .f64 z) z := whole_ofInt (by omega)
  cases hg : (FloatKind.f64.format.order b 0 == some .gt || FloatKind.f64.format.order b 0 == some .eq)
  · exact .inl rfl
  · cases hl : (FloatKind.f64.format.order b (floatOfInt .f64 z) == some .lt)
    · exact .inr (.inl ⟨rfl, rfl⟩)
    · refine .inr (.inr ⟨rfl, rfl, ?_⟩)
      have h0 : Ieee.double.order b 0 = some .gt ∨ Ieee.double.order b 0 = some .eq := by
        simp only [Bool.or_eq_true, beq_iff_eq] at hg; exact hg
      have h1 : Ieee.double.order b (floatOfInt .f64 z) = some .lt := by
        simp only [beq_iff_eq] at hl; exact hl
      obtain ⟨k, hk, hk0, hk1⟩ := toInt_range hz h0 h1
      refine ⟨k, hk, hk0, hk1, ?_⟩
      rw [bne_iff_ne]
      intro he
      exact h k hk0 hk1 (whole_of_eq (whole_ofInt (by omega)) (by omega) he)

theorem conv_cut {b : Nat} {k : Int} (h : (Ieee.double.read b).toInt .zero = some k) (h1 : -9223372036854775808 ≤ k) (h2 : k ≤ 9223372036854775807) (w : World) :
    (convert 51 3 (.float .f64 b)).run Try.prog w = .ok (.int .i64 k) w :=
  run_convert_float_int w _ _ .f64 .i64 b k (by kernel_rfl) Try.underlying3 (toIntVal h h1 h2)

set_option maxHeartbeats 400000 in
theorem whole_no (b : Nat) (z : Int) (w : World) (h0 : 0 ≤ z) (h2 : z ≤ 2147483648) (h : Outside b z) :
    Calls Try.prog 34 #[.float .f64 b, .int .i64 z] w fun e w' => e = .returned (.tuple #[.int .i64 0, .bool false]) ∧ w = w' := by
  rcases outside_ways h0 h2 h with g | ⟨g1, g2⟩ | ⟨g1, g2, k, hk, k0, k1, g3⟩
  · clear h
    go_enter Try.func34, Try.ntmps34
    go_wp2
    go_ret2; exact ⟨rfl, rfl⟩
  · clear h
    go_enter Try.func34, Try.ntmps34
    go_wp2
    go_ret2; exact ⟨rfl, rfl⟩
  · have g4 := conv_cut hk (by omega) (by omega)
    clear h hk
    go_enter Try.func34, Try.ntmps34
    go_wp2
    go_ret2; exact ⟨rfl, rfl⟩

/-- 'z' is the place of column c and row r, of n columns. -/
def At (x y : Nat) (c r n : Int) : Prop := Whole x c ∧ Whole y r ∧ 0 ≤ c ∧ c < n ∧ 0 ≤ r ∧ r < 2147483648 ∧ 1 ≤ n ∧ n ≤ 16

/-- 'z' is no place of n columns. -/
def Off (x y : Nat) (n : Int) : Prop := n < 1 ∨ 16 < n ∨ (1 ≤ n ∧ n ≤ 16 ∧ Outside x n) ∨ (1 ≤ n ∧ n ≤ 16 ∧ (∃ c : Int, Whole x c ∧ 0 ≤ c ∧ c < n) ∧ Outside y 2147483648)

theorem mul_bd (r n : Int) (h0 : 0 ≤ r) (h1 : r < 2147483648) (n1 : 1 ≤ n) (n2 : n ≤ 16) : 0 ≤ r * n ∧ r * n ≤ 34359738352 := by
  constructor
  · exact Int.mul_nonneg h0 (by omega)
  · calc r * n ≤ 2147483647 * n := Int.mul_le_mul_of_nonneg_right (by omega) (by omega)
      _ ≤ 2147483647 * 16 := Int.mul_le_mul_of_nonneg_left n2 (by decide)

set_option maxHeartbeats 400000 in
theorem unit_yes (x y : Nat) (c r n : Int) (w : World) (h : At x y c r n) :
    Calls Try.prog 30 #[.complex .f64 x y, .int .i64 n] w fun e w' => e = .returned (.tuple #[.int .i64 (r * n + c), .bool true]) ∧ w = w' := by
  obtain ⟨hx, hy, c0, c1, r0, r1, n1, n2⟩ := h
  have hb := mul_bd r n r0 r1 n1 n2
  go_enter Try.func30, Try.ntmps30
  go_wp2_with fail
  refine (columns_yes _ _ n1 n2).mono ?_; rintro e w' ⟨rfl, rfl⟩
  go_wp2_with fail
  refine (whole_yes x c n _ hx c0 c1 (by omega)).mono ?_; rintro e w' ⟨rfl, rfl⟩
  go_wp2_with fail
  refine (whole_yes y r 2147483648 _ hy r0 r1 (by omega)).mono ?_; rintro e w' ⟨rfl, rfl⟩
  go_wp2_with fail
  go_ret2; exact ⟨rfl, rfl⟩

set_option maxHeartbeats 400000 in
theorem unit_no (x y : Nat) (n : Int) (w : World) (h : Off x y n) :
    Calls Try.prog 30 #[.complex .f64 x y, .int .i64 n] w fun e w' => e = .returned (.tuple #[.int .i64 0, .bool false]) ∧ w = w' := by
  rcases h with h | h | ⟨n1, n2, h⟩ | ⟨n1, n2, ⟨c, hx, c0, c1⟩, h⟩
  · go_enter Try.func30, Try.ntmps30
    go_wp2_with fail
    refine (columns_no _ _ (.inl h)).mono ?_; rintro e w' ⟨rfl, rfl⟩
    go_wp2_with fail
    go_ret2; exact ⟨rfl, rfl⟩
  · go_enter Try.func30, Try.ntmps30
    go_wp2_with fail
    refine (columns_no _ _ (.inr h)).mono ?_; rintro e w' ⟨rfl, rfl⟩
    go_wp2_with fail
    go_ret2; exact ⟨rfl, rfl⟩
  · go_enter Try.func30, Try.ntmps30
    go_wp2_with fail
    refine (columns_yes _ _ n1 n2).mono ?_; rintro e w' ⟨rfl, rfl⟩
    go_wp2_with fail
    refine (whole_no x n _ (by omega) (by omega) h).mono ?_; rintro e w' ⟨rfl, rfl⟩
    go_wp2_with fail
    go_ret2; exact ⟨rfl, rfl⟩
  · go_enter Try.func30, Try.ntmps30
    go_wp2_with fail
    refine (columns_yes _ _ n1 n2).mono ?_; rintro e w' ⟨rfl, rfl⟩
    go_wp2_with fail
    refine (whole_yes x c n _ hx c0 c1 (by omega)).mono ?_; rintro e w' ⟨rfl, rfl⟩
    go_wp2_with fail
    refine (whole_no y 2147483648 _ (by omega) (by omega) h).mono ?_; rintro e w' ⟨rfl, rfl⟩
    go_wp2_with fail
    go_ret2; exact ⟨rfl, rfl⟩

/-- The place of a unit. -/
theorem at_place {k n : Int} (n1 : 1 ≤ n) (n2 : n ≤ 16) (k0 : 0 ≤ k) (k1 : k < n * 2147483648) :
    At (floatOfInt .f64 (k % n)) (floatOfInt .f64 (k / n)) (k % n) (k / n) n := by
  have a1 := Int.emod_nonneg k (by omega : n ≠ 0)
  have a2 := Int.emod_lt_of_pos k (by omega : 0 < n)
  have b1 : 0 ≤ k / n := Int.ediv_nonneg k0 (by omega)
  have b2 : k / n < 2147483648 := Int.ediv_lt_of_lt_mul (by omega) (by rw [Int.mul_comm]; exact k1)
  exact ⟨whole_ofInt (by omega), whole_ofInt (by omega), a1, a2, b1, b2, n1, n2⟩

theorem sum_parts {x y a b : Nat} {c r p q : Int} (hx : Whole x c) (hy : Whole y r) (ha : Whole a p) (hb : Whole b q) (h1 : (c + p).natAbs < 9007199254740992) (h2 : (r + q).natAbs < 9007199254740992) :
    ∃ u v, Whole u (c + p) ∧ Whole v (r + q) ∧ ∀ (t : TypeId) (w : World), (binOp .add t (.complex .f64 x y) (.complex .f64 a b)).run Try.prog w = .ok (.complex .f64 u v) w := by
  obtain ⟨u, e1, hu⟩ := add_whole hx ha h1
  obtain ⟨v, e2, hv⟩ := add_whole hy hb h2
  refine ⟨u, v, hu, hv, fun t w => run_complex_sum w .add (.inl rfl) t .f64 x y a b u v ?_⟩
  have g1 : floatBits .add .f64 x a = some u := e1
  have g2 : floatBits .add .f64 y b = some v := e2
  simp [cSumBits, g1, g2]

theorem sub_parts {x y a b : Nat} {c r p q : Int} (hx : Whole x c) (hy : Whole y r) (ha : Whole a p) (hb : Whole b q) (h1 : (c - p).natAbs < 9007199254740992) (h2 : (r - q).natAbs < 9007199254740992) :
    ∃ u v, Whole u (c - p) ∧ Whole v (r - q) ∧ ∀ (t : TypeId) (w : World), (binOp .sub t (.complex .f64 x y) (.complex .f64 a b)).run Try.prog w = .ok (.complex .f64 u v) w := by
  obtain ⟨u, e1, hu⟩ := sub_whole hx ha h1
  obtain ⟨v, e2, hv⟩ := sub_whole hy hb h2
  refine ⟨u, v, hu, hv, fun t w => run_complex_sum w .sub (.inr rfl) t .f64 x y a b u v ?_⟩
  have g1 : floatBits .sub .f64 x a = some u := e1
  have g2 : floatBits .sub .f64 y b = some v := e2
  simp [cSumBits, g1, g2]

theorem whole_one : Whole 4607182418800017408 1 := by
  have h : (4607182418800017408 : Nat) = floatOfInt .f64 1 := by decide +kernel
  rw [h]; exact whole_ofInt (by decide)
theorem whole_two : Whole 4611686018427387904 2 := by
  have h : (4611686018427387904 : Nat) = floatOfInt .f64 2 := by decide +kernel
  rw [h]; exact whole_ofInt (by decide)
theorem whole_top : Whole 4746794007248502784 2147483648 := by
  have h : (4746794007248502784 : Nat) = floatOfInt .f64 2147483648 := by decide +kernel
  rw [h]; exact whole_ofInt (by decide)
theorem whole_last : Whole 4746794007244308480 2147483647 := by
  have h : (4746794007244308480 : Nat) = floatOfInt .f64 2147483647 := by decide +kernel
  rw [h]; exact whole_ofInt (by decide)
theorem whole_nought : Whole 0 0 := whole_zero false

theorem run_neg_float (b : Nat) : Op.unary .neg (.float .f64 b) = (pure (.float .f64 (Op.negFloat .f64 b)) : Sem Value) := rfl

theorem ret_int {k : IntKind} {a b : Int} (h : a = b) : Ending.returned (.int k a) = .returned (.int k b) := by rw [h]

/-- The turn from 0 to n - 1. -/
theorem forward_any (t n : Int) (w : World) (t0 : -9223372036854775808 ≤ t) (t1 : t ≤ 9223372036854775807) (n1 : 1 ≤ n) (n2 : n ≤ 16) :
    Calls Try.prog 33 #[.int .i64 t, .int .i64 n] w fun e w' => e = .returned (.int .i64 (t % n)) ∧ w = w' := by
  by_cases h : 0 ≤ t
  · have a1 := Int.emod_nonneg t (by omega : n ≠ 0)
    go_enter Try.func33, Try.ntmps33
    go_wp2
    go_ret; exact ⟨rfl, rfl⟩
  · have a2 := Int.emod_nonneg t (by omega : n ≠ 0)
    have a3 := Int.emod_lt_of_pos t (by omega : 0 < n)
    have a4 : t.tmod n = -((-t) % n) := by
      have := Int.neg_tmod (-t) n
      rw [Int.neg_neg] at this
      rw [this, Int.tmod_eq_emod_of_nonneg (by omega)]
    have b2 := Int.emod_nonneg (-t) (by omega : n ≠ 0)
    have b3 := Int.emod_lt_of_pos (-t) (by omega : 0 < n)
    have hs : (t % n + (-t) % n) % n = 0 := by rw [← Int.add_emod, Int.add_right_neg]; rfl
    by_cases hd : t.tmod n < 0
    · have e1 : t.tmod n + n = t % n := by
        have : t % n + (-t) % n = n := by
          rcases Int.lt_or_le (t % n + (-t) % n) n with hl | hl
          · rw [Int.emod_eq_of_lt (by omega) hl] at hs; omega
          · have : (t % n + (-t) % n - n) % n = 0 := by rw [Int.sub_emod, hs, Int.emod_self]; rfl
            rw [Int.emod_eq_of_lt (by omega) (by omega)] at this; omega
        omega
      have E := Lib.hid e1
      have b1 : -n < t.tmod n := by omega
      clear e1 a4 hs a2 a3 b2 b3
      go_enter Try.func33, Try.ntmps33
      go_wp2
      go_ret; exact ⟨ret_int E.out, rfl⟩
    · have e1 : t.tmod n = t % n := by
        have : (-t) % n = 0 := by omega
        rw [this, Int.add_zero, Int.emod_emod] at hs
        omega
      have E := Lib.hid e1
      clear e1 a4 hs a2 a3 b2 b3
      go_enter Try.func33, Try.ntmps33
      go_wp2
      go_ret; exact ⟨ret_int E.out, rfl⟩

theorem turn_of (c s n : Int) (c0 : 0 ≤ c) (c1 : c < n) (s0 : 0 ≤ s) (s1 : s < n) : (c + s) % n = if n ≤ c + s then c + s - n else c + s := by
  by_cases h : n ≤ c + s
  · rw [if_pos h, ← Int.sub_emod_right, Int.emod_eq_of_lt (by omega) (by omega)]
  · rw [if_neg h, Int.emod_eq_of_lt (by omega) (by omega)]

theorem ge_num {b l : Nat} {k z : Int} (h : Whole b k) (hl : Whole l z) : (FloatKind.f64.format.order b l == some .gt || FloatKind.f64.format.order b l == some .eq) = decide (z ≤ k) := by
  rw [show FloatKind.f64.format.order b l = some (compare k z) from order_whole h hl]
  rcases Int.lt_trichotomy k z with hp | hp | hp
  · rw [Int.compare_eq_lt.2 hp]; simp [Int.not_le.2 hp]
  · rw [Int.compare_eq_eq.2 hp]; simp [hp]
  · rw [Int.compare_eq_gt.2 hp]; simp [Int.le_of_lt hp]

theorem turn_yes (x y : Nat) (c r t n : Int) (t0 : -9223372036854775808 ≤ t) (t1 : t ≤ 9223372036854775807) (h : At x y c r n) :
    ∃ u v, At u v ((c + t) % n) r n ∧ ∀ w : World, Calls Try.prog 29 #[.complex .f64 x y, .int .i64 t, .int .i64 n] w fun e w' => e = .returned (.tuple #[.complex .f64 u v, .bool true]) ∧ w = w' := by
  have hat := h
  obtain ⟨hx, hy, c0, c1, r0, r1, n1, n2⟩ := h
  have s0 := Int.emod_nonneg t (by omega : n ≠ 0)
  have s1 := Int.emod_lt_of_pos t (by omega : 0 < n)
  have he : (c + t) % n = if n ≤ c + t % n then c + t % n - n else c + t % n := by
    rw [← turn_of c (t % n) n c0 c1 s0 s1, Int.add_emod_emod]
  obtain ⟨u1, v1, hu1, hv1, a1⟩ := sum_parts hx hy (whole_ofInt (z := t % n) (by omega)) whole_nought (by omega) (by omega)
  have hv0 := hv1
  rw [Int.add_zero] at hv0
  have a2 := a1 48
  have gd := ge_num hu1 (whole_ofInt (z := n) (by omega))
  by_cases hc : n ≤ c + t % n
  · obtain ⟨u, v, hu, hv, b1⟩ := sub_parts hu1 hv0 (whole_ofInt (z := n) (by omega)) whole_nought (by omega) (by omega)
    rw [Int.sub_zero] at hv
    rw [if_pos hc] at he
    refine ⟨u, v, ?_, ?_⟩
    · rw [he]; exact ⟨hu, hv, by omega, by omega, r0, r1, n1, n2⟩
    have b2 := b1 48
    rw [decide_eq_true hc] at gd
    clear a1 b1 he hv0 hv1 hc
    intro w
    go_enter Try.func29, Try.ntmps29
    go_wp2_with fail
    refine (unit_yes x y c r n _ hat).mono ?_; rintro e w' ⟨rfl, rfl⟩
    go_wp2_with fail
    refine (forward_any t n _ t0 t1 n1 n2).mono ?_; rintro e w' ⟨rfl, rfl⟩
    go_wp2_with fail
    go_ret2; exact ⟨rfl, rfl⟩
  · rw [if_neg hc] at he
    refine ⟨u1, v1, ?_, ?_⟩
    · rw [he]; exact ⟨hu1, hv0, by omega, by omega, r0, r1, n1, n2⟩
    rw [decide_eq_false hc] at gd
    clear a1 he hv0 hv1 hc
    intro w
    go_enter Try.func29, Try.ntmps29
    go_wp2_with fail
    refine (unit_yes x y c r n _ hat).mono ?_; rintro e w' ⟨rfl, rfl⟩
    go_wp2_with fail
    refine (forward_any t n _ t0 t1 n1 n2).mono ?_; rintro e w' ⟨rfl, rfl⟩
    go_wp2_with fail
    go_ret2; exact ⟨rfl, rfl⟩

theorem turn_off (x y : Nat) (t n : Int) (w : World) (h : Off x y n) :
    Calls Try.prog 29 #[.complex .f64 x y, .int .i64 t, .int .i64 n] w fun e w' => e = .returned (.tuple #[.complex .f64 0 0, .bool false]) ∧ w = w' := by
  go_enter Try.func29, Try.ntmps29
  go_wp2_with fail
  refine (unit_no x y n _ h).mono ?_; rintro e w' ⟨rfl, rfl⟩
  go_wp2_with fail
  go_ret2; exact ⟨rfl, rfl⟩

theorem place_yes (k n : Int) (w : World) (n1 : 1 ≤ n) (n2 : n ≤ 16) (k0 : 0 ≤ k) (k1 : k < n * 2147483648) :
    Calls Try.prog 28 #[.int .i64 k, .int .i64 n] w fun e w' => e = .returned (.tuple #[.complex .f64 (floatOfInt .f64 (k % n)) (floatOfInt .f64 (k / n)), .int .i64 0]) ∧ ∃ m, w' = w.drewN m := by
  go_enter Try.func28, Try.ntmps28
  go_wp2_with fail
  refine (columns_yes _ _ n1 n2).mono ?_; rintro e w' ⟨rfl, rfl⟩
  go_wp2_with fail
  go_region
  go_wp2
  go_ret2; exact ⟨rfl, 1, rfl⟩

/-- A row that is too far. -/
theorem outside_far {r : Int} (h1 : 2147483648 ≤ r) (h2 : r ≤ 9223372036854775807) : Outside (floatOfInt .f64 r) 2147483648 := by
  intro k k0 k1 hw
  by_cases h : r < 9007199254740992
  · have := whole_inj hw (whole_ofInt (z := r) (by omega))
    omega
  · exact far (by omega) h2 k hw

end Go.Proofs.Ytiadhmjmiaamcaa
