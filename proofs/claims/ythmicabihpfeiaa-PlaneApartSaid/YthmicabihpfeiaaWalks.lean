/- The walks of package plane and of its reference: what each function returns, by the values of its floats. -/
import Derived.Test.YthmicabihpfeiaaChecked
import Derived.Test.YthmicabihpfeiaaFl
import Derived.Tactics
import Derived.Tactics2
import Derived.StillTactics
import Derived.RegionTactic
import Derived.WalkKit
import Derived.WalkLawsBesides
import Derived.WalkSpells
import Derived.Outline
import Derived.Laws.Pointers
import Derived.Laws.Small
import Derived.Laws.Build
import Derived.Laws.Cover3
import Derived.Laws.ComplexArith
import Derived.KernelRfl
import Derived.Lib.Hide
namespace Go.Proofs.Ythmicabihpfeiaa
open Go.RowKit Go.Proofs.Ythmicabihpfeiaa.Fl

theorem columns_yes (n : Int) (w : World) (h1 : 1 ≤ n) (h2 : n ≤ 16) :
    Calls Try.prog 19 #[.int .i64 n] w fun e w' => e = .returned (.bool true) ∧ w = w' := by
  go_enter Try.func19, Try.ntmps19
  go_wp2
  all_goals (go_ret; exact ⟨rfl, rfl⟩)

theorem columns_no (n : Int) (w : World) (h : n < 1 ∨ 16 < n) :
    Calls Try.prog 19 #[.int .i64 n] w fun e w' => e = .returned (.bool false) ∧ w = w' := by
  rcases h with h | h
  · go_enter Try.func19, Try.ntmps19
    go_wp2
    all_goals (go_ret; exact ⟨rfl, rfl⟩)
  · have h1 : 1 ≤ n := by omega
    have h2 : decide (n ≤ 16) = false := by simp; omega
    go_enter Try.func19, Try.ntmps19
    go_wp2
    all_goals (go_ret; exact ⟨rfl, rfl⟩)

/-- 'int(x)' of a double that is cut to k. -/
theorem toIntVal {b : Nat} {k : Int} (h : (Ieee.double.read b).toInt .zero = some k) (h1 : -9223372036854775808 ≤ k) (h2 : k ≤ 9223372036854775807) :
    floatToIntVal .f64 b .i64 = some k := by
  unfold floatToIntVal
  have : (FloatKind.decode .f64 b).toInt .zero = some k := h
  rw [this]
  simp only
  rw [if_pos ⟨h1, h2⟩]

/-- 'int(x)' of a double that stands for a whole number. -/
theorem conv_whole {b : Nat} {k : Int} (h : Whole b k) (h1 : -9223372036854775808 ≤ k) (h2 : k ≤ 9223372036854775807) (w : World) :
    (convert 22 3 (.float .f64 b)).run Try.prog w = .ok (.int .i64 k) w :=
  run_convert_float_int w _ _ .f64 .i64 b k (by kernel_rfl) Try.underlying3 (toIntVal (toInt_whole h) h1 h2)

theorem ge_bool {b : Nat} {k : Int} (h : Whole b k) (h0 : 0 ≤ k) : (FloatKind.f64.format.order b 0 == some .gt || FloatKind.f64.format.order b 0 == some .eq) = true := by
  have := order_whole h (whole_zero false)
  rw [show FloatKind.f64.format.order b 0 = some (compare k 0) from this]
  rcases Int.lt_or_eq_of_le h0 with hp | hp
  · rw [Int.compare_eq_gt.2 hp]; rfl
  · rw [Int.compare_eq_eq.2 hp.symm]; rfl

theorem lt_bool {b l : Nat} {k z : Int} (h : Whole b k) (hl : Whole l z) (h0 : k < z) : (FloatKind.f64.format.order b l == some .lt) = true := by
  rw [show FloatKind.f64.format.order b l = some (compare k z) from order_whole h hl, Int.compare_eq_lt.2 h0]; rfl

theorem eq_bool {b l : Nat} {k z : Int} (h : Whole b k) (hl : Whole l z) : (FloatKind.f64.format.order b l == some .eq) = decide (k = z) := by
  rw [show FloatKind.f64.format.order b l = some (compare k z) from order_whole h hl]
  by_cases hk : k = z
  · rw [Int.compare_eq_eq.2 hk]; simp [hk]
  · simp [hk]

theorem ne_bool {b l : Nat} {k z : Int} (h : Whole b k) (hl : Whole l z) : (FloatKind.f64.format.order b l != some .eq) = decide (k ≠ z) := by
  unfold bne
  rw [eq_bool h hl]
  simp

set_option maxHeartbeats 400000 in
theorem whole_yes (b : Nat) (k z : Int) (w : World) (h : Whole b k) (h0 : 0 ≤ k) (h1 : k < z) (h2 : z ≤ 2147483648) :
    Calls Try.prog 20 #[.float .f64 b, .int .i64 z] w fun e w' => e = .returned (.tuple #[.int .i64 k, .bool true]) ∧ w = w' := by
  have hz : Whole (floatOfInt .f64 z) z := whole_ofInt (by omega)
  have hk : Whole (floatOfInt .f64 k) k := whole_ofInt (by omega)
  have g1 := ge_bool h h0
  have g2 := lt_bool h hz h1
  have g3 : (FloatKind.f64.format.order (floatOfInt .f64 k) b != some .eq) = false := by rw [ne_bool hk h]; simp
  have g4 := conv_whole h (by omega) (by omega)
  clear hz hk
  go_enter Try.func20, Try.ntmps20
  go_wp2
  go_ret2; exact ⟨rfl, rfl⟩

/-- What is no whole number from 0 to below z. -/
def Outside (b : Nat) (z : Int) : Prop := ∀ k : Int, 0 ≤ k → k < z → ¬ Whole b k

theorem outside_ways {b : Nat} {z : Int} (hz0 : 0 ≤ z) (h2 : z ≤ 2147483648) (h : Outside b z) :
    (FloatKind.f64.format.order b 0 == some .gt || FloatKind.f64.format.order b 0 == some .eq) = false ∨
    ((FloatKind.f64.format.order b 0 == some .gt || FloatKind.f64.format.order b 0 == some .eq) = true ∧ (FloatKind.f64.format.order b (floatOfInt .f64 z) == some .lt) = false) ∨
    ((FloatKind.f64.format.order b 0 == some .gt || FloatKind.f64.format.order b 0 == some .eq) = true ∧ (FloatKind.f64.format.order b (floatOfInt .f64 z) == some .lt) = true ∧
      ∃ k : Int, (Ieee.double.read b).toInt .zero = some k ∧ 0 ≤ k ∧ k < z ∧ (FloatKind.f64.format.order (floatOfInt .f64 k) b != some .eq) = true) := by
  have hz : Whole (floatOfInt .f64 z) z := whole_ofInt (by omega)
  cases hg : (FloatKind.f64.format.order b 0 == some .gt || FloatKind.f64.format.order b 0 == some .eq)
  · exact .inl rfl
  · cases hl : (FloatKind.f64.format.order b (floatOfInt .f64 z) == some .lt)
    · exact .inr (.inl ⟨rfl, rfl⟩)
    · refine .inr (.inr ⟨rfl, rfl, ?_⟩)
      have h0 : Ieee.double.order b 0 = some .gt ∨ Ieee.double.order b 0 = some .eq := by
        simp only [Bool.or_eq_true, beq_iff_eq] at hg; exact hg
      have h1 : Ieee.double.order b (floatOfInt .f64 z) = some .lt := by
        simp only [beq_iff_eq] at hl; exact hl
      obtain ⟨k, hk, hk0, hk1⟩ := toInt_range hz h0 h1
      refine ⟨k, hk, hk0, hk1, ?_⟩
      rw [bne_iff_ne]
      intro he
      exact h k hk0 hk1 (whole_of_eq (whole_ofInt (by omega)) (by omega) he)

theorem conv_cut {b : Nat} {k : Int} (h : (Ieee.double.read b).toInt .zero = some k) (h1 : -9223372036854775808 ≤ k) (h2 : k ≤ 9223372036854775807) (w : World) :
    (convert 22 3 (.float .f64 b)).run Try.prog w = .ok (.int .i64 k) w :=
  run_convert_float_int w _ _ .f64 .i64 b k (by kernel_rfl) Try.underlying3 (toIntVal h h1 h2)

set_option maxHeartbeats 400000 in
theorem whole_no (b : Nat) (z : Int) (w : World) (h0 : 0 ≤ z) (h2 : z ≤ 2147483648) (h : Outside b z) :
    Calls Try.prog 20 #[.float .f64 b, .int .i64 z] w fun e w' => e = .returned (.tuple #[.int .i64 0, .bool false]) ∧ w = w' := by
  rcases outside_ways h0 h2 h with g | ⟨g1, g2⟩ | ⟨g1, g2, k, hk, k0, k1, g3⟩
  · clear h
    go_enter Try.func20, Try.ntmps20
    go_wp2
    go_ret2; exact ⟨rfl, rfl⟩
  · clear h
    go_enter Try.func20, Try.ntmps20
    go_wp2
    go_ret2; exact ⟨rfl, rfl⟩
  · have g4 := conv_cut hk (by omega) (by omega)
    clear h hk
    go_enter Try.func20, Try.ntmps20
    go_wp2
    go_ret2; exact ⟨rfl, rfl⟩

set_option maxHeartbeats 400000 in
theorem rwhole_yes (b : Nat) (k z : Int) (w : World) (h : Whole b k) (h0 : 0 ≤ k) (h1 : k < z) (h2 : z ≤ 2147483648) :
    Calls Try.prog 21 #[.float .f64 b, .int .i64 z] w fun e w' => e = .returned (.int .i64 k) ∧ w = w' := by
  have hz : Whole (floatOfInt .f64 z) z := whole_ofInt (by omega)
  have hk : Whole (floatOfInt .f64 k) k := whole_ofInt (by omega)
  have g1 := ge_bool h h0
  have g2 := lt_bool h hz h1
  have g3 : (FloatKind.f64.format.order (floatOfInt .f64 k) b != some .eq) = false := by rw [ne_bool hk h]; simp
  have g4 := conv_whole h (by omega) (by omega)
  clear hz hk
  go_enter Try.func21, Try.ntmps21
  go_wp2
  go_ret; exact ⟨rfl, rfl⟩

set_option maxHeartbeats 400000 in
theorem rwhole_no (b : Nat) (z : Int) (w : World) (h0 : 0 ≤ z) (h2 : z ≤ 2147483648) (h : Outside b z) :
    Calls Try.prog 21 #[.float .f64 b, .int .i64 z] w fun e w' => e = .returned (.int .i64 (-1)) ∧ w = w' := by
  rcases outside_ways h0 h2 h with g | ⟨g1, g2⟩ | ⟨g1, g2, k, hk, k0, k1, g3⟩
  · clear h
    go_enter Try.func21, Try.ntmps21
    go_wp2
    go_ret; exact ⟨rfl, rfl⟩
  · clear h
    go_enter Try.func21, Try.ntmps21
    go_wp2
    go_ret; exact ⟨rfl, rfl⟩
  · have g4 := conv_cut hk (by omega) (by omega)
    clear h hk
    go_enter Try.func21, Try.ntmps21
    go_wp2
    go_ret; exact ⟨rfl, rfl⟩

/-- 'z' is the place of column c and row r, of n columns. -/
def At (x y : Nat) (c r n : Int) : Prop := Whole x c ∧ Whole y r ∧ 0 ≤ c ∧ c < n ∧ 0 ≤ r ∧ r < 2147483648 ∧ 1 ≤ n ∧ n ≤ 16

/-- 'z' is no place of n columns. -/
def Off (x y : Nat) (n : Int) : Prop := n < 1 ∨ 16 < n ∨ (1 ≤ n ∧ n ≤ 16 ∧ Outside x n) ∨ (1 ≤ n ∧ n ≤ 16 ∧ (∃ c : Int, Whole x c ∧ 0 ≤ c ∧ c < n) ∧ Outside y 2147483648)

theorem at_or_off (x y : Nat) (n : Int) : (∃ c r : Int, At x y c r n) ∨ Off x y n := by
  by_cases h1 : n < 1
  · exact .inr (.inl h1)
  by_cases h2 : 16 < n
  · exact .inr (.inr (.inl h2))
  by_cases h3 : ∃ c : Int, Whole x c ∧ 0 ≤ c ∧ c < n
  · by_cases h4 : ∃ r : Int, Whole y r ∧ 0 ≤ r ∧ r < 2147483648
    · obtain ⟨c, a1, a2, a3⟩ := h3
      obtain ⟨r, b1, b2, b3⟩ := h4
      exact .inl ⟨c, r, a1, b1, a2, a3, b2, b3, by omega, by omega⟩
    · exact .inr (.inr (.inr (.inr ⟨by omega, by omega, h3, fun k k0 k1 hw => h4 ⟨k, hw, k0, k1⟩⟩)))
  · exact .inr (.inr (.inr (.inl ⟨by omega, by omega, fun k k0 k1 hw => h3 ⟨k, hw, k0, k1⟩⟩)))

theorem mul_bd (r n : Int) (h0 : 0 ≤ r) (h1 : r < 2147483648) (n1 : 1 ≤ n) (n2 : n ≤ 16) : 0 ≤ r * n ∧ r * n ≤ 34359738352 := by
  constructor
  · exact Int.mul_nonneg h0 (by omega)
  · calc r * n ≤ 2147483647 * n := Int.mul_le_mul_of_nonneg_right (by omega) (by omega)
      _ ≤ 2147483647 * 16 := Int.mul_le_mul_of_nonneg_left n2 (by decide)

set_option maxHeartbeats 400000 in
theorem unit_yes (x y : Nat) (c r n : Int) (w : World) (h : At x y c r n) :
    Calls Try.prog 10 #[.complex .f64 x y, .int .i64 n] w fun e w' => e = .returned (.tuple #[.int .i64 (r * n + c), .bool true]) ∧ w = w' := by
  obtain ⟨hx, hy, c0, c1, r0, r1, n1, n2⟩ := h
  have hb := mul_bd r n r0 r1 n1 n2
  go_enter Try.func10, Try.ntmps10
  go_wp2_with fail
  refine (columns_yes _ _ n1 n2).mono ?_; rintro e w' ⟨rfl, rfl⟩
  go_wp2_with fail
  refine (whole_yes x c n _ hx c0 c1 (by omega)).mono ?_; rintro e w' ⟨rfl, rfl⟩
  go_wp2_with fail
  refine (whole_yes y r 2147483648 _ hy r0 r1 (by omega)).mono ?_; rintro e w' ⟨rfl, rfl⟩
  go_wp2_with fail
  go_ret2; exact ⟨rfl, rfl⟩

set_option maxHeartbeats 400000 in
theorem unit_no (x y : Nat) (n : Int) (w : World) (h : Off x y n) :
    Calls Try.prog 10 #[.complex .f64 x y, .int .i64 n] w fun e w' => e = .returned (.tuple #[.int .i64 0, .bool false]) ∧ w = w' := by
  rcases h with h | h | ⟨n1, n2, h⟩ | ⟨n1, n2, ⟨c, hx, c0, c1⟩, h⟩
  · go_enter Try.func10, Try.ntmps10
    go_wp2_with fail
    refine (columns_no _ _ (.inl h)).mono ?_; rintro e w' ⟨rfl, rfl⟩
    go_wp2_with fail
    go_ret2; exact ⟨rfl, rfl⟩
  · go_enter Try.func10, Try.ntmps10
    go_wp2_with fail
    refine (columns_no _ _ (.inr h)).mono ?_; rintro e w' ⟨rfl, rfl⟩
    go_wp2_with fail
    go_ret2; exact ⟨rfl, rfl⟩
  · go_enter Try.func10, Try.ntmps10
    go_wp2_with fail
    refine (columns_yes _ _ n1 n2).mono ?_; rintro e w' ⟨rfl, rfl⟩
    go_wp2_with fail
    refine (whole_no x n _ (by omega) (by omega) h).mono ?_; rintro e w' ⟨rfl, rfl⟩
    go_wp2_with fail
    go_ret2; exact ⟨rfl, rfl⟩
  · go_enter Try.func10, Try.ntmps10
    go_wp2_with fail
    refine (columns_yes _ _ n1 n2).mono ?_; rintro e w' ⟨rfl, rfl⟩
    go_wp2_with fail
    refine (whole_yes x c n _ hx c0 c1 (by omega)).mono ?_; rintro e w' ⟨rfl, rfl⟩
    go_wp2_with fail
    refine (whole_no y 2147483648 _ (by omega) (by omega) h).mono ?_; rintro e w' ⟨rfl, rfl⟩
    go_wp2_with fail
    go_ret2; exact ⟨rfl, rfl⟩

theorem Grown.trans {a b c : World} (h : Grown a b) (g : Grown b c) : Grown a c :=
  ⟨World.keptBut_trans h.1 (World.keptBut_mono (fun _ f => f.elim) g.1), fun x => (g.2.1 x).trans (h.2.1 x), Nat.le_trans h.2.2 g.2.2⟩

theorem Grown.of_eq {a b : World} (h : a = b) : Grown a b := h ▸ Grown.refl a

theorem runit_yes (x y : Nat) (c r n : Int) (w : World) (h : At x y c r n) :
    Calls Try.prog 11 #[.complex .f64 x y, .int .i64 n] w fun e w' => e = .returned (.int .i64 (r * n + c)) ∧ w = w' := by
  obtain ⟨hx, hy, c0, c1, r0, r1, n1, n2⟩ := h
  have hb := mul_bd r n r0 r1 n1 n2
  go_enter Try.func11, Try.ntmps11
  go_wp2_with fail
  refine (rwhole_yes x c n _ hx c0 c1 (by omega)).mono ?_; rintro e w' ⟨rfl, rfl⟩
  go_wp2_with fail
  refine (rwhole_yes y r 2147483648 _ hy r0 r1 (by omega)).mono ?_; rintro e w' ⟨rfl, rfl⟩
  go_wp2_with fail
  go_ret; exact ⟨rfl, rfl⟩

/-- What the reference's Whole answers: a number in range, or -1. -/
theorem rwhole_any (b : Nat) (z : Int) (w : World) (h0 : 0 ≤ z) (h2 : z ≤ 2147483648) :
    ∃ v : Int, -1 ≤ v ∧ v < 2147483648 ∧ Calls Try.prog 21 #[.float .f64 b, .int .i64 z] w fun e w' => e = .returned (.int .i64 v) ∧ w = w' := by
  by_cases h : ∃ k : Int, Whole b k ∧ 0 ≤ k ∧ k < z
  · obtain ⟨k, hk, k0, k1⟩ := h
    exact ⟨k, by omega, by omega, rwhole_yes b k z w hk k0 k1 h2⟩
  · exact ⟨-1, by omega, by omega, rwhole_no b z w h0 h2 fun k k0 k1 hw => h ⟨k, hw, k0, k1⟩⟩

theorem runit_no (x y : Nat) (n : Int) (w : World) (h : Off x y n) :
    Calls Try.prog 11 #[.complex .f64 x y, .int .i64 n] w fun e w' => e = .returned (.int .i64 (-1)) ∧ w = w' := by
  rcases h with h | h | ⟨n1, n2, h⟩ | ⟨n1, n2, ⟨c, hx, c0, c1⟩, h⟩
  · have h1 : decide (n < 1) = true := by simp; omega
    go_enter Try.func11, Try.ntmps11
    go_wp2_with fail
    go_ret; exact ⟨rfl, rfl⟩
  · have h1 : decide (n < 1) = false := by simp; omega
    have h2 : decide (16 < n) = true := by simp; omega
    go_enter Try.func11, Try.ntmps11
    go_wp2_with fail
    go_ret; exact ⟨rfl, rfl⟩
  · obtain ⟨v, v1, v2, hv⟩ := rwhole_any y 2147483648 w (by omega) (by omega)
    have H := Lib.hid hv
    clear hv
    go_enter Try.func11, Try.ntmps11
    go_wp2_with fail
    refine (rwhole_no x n _ (by omega) (by omega) h).mono ?_; rintro e w' ⟨rfl, rfl⟩
    go_wp2_with fail
    refine Calls.mono H.out ?_; rintro e w' ⟨rfl, rfl⟩
    go_wp2_with fail
    go_ret; exact ⟨rfl, rfl⟩
  · go_enter Try.func11, Try.ntmps11
    go_wp2_with fail
    refine (rwhole_yes x c n _ hx c0 c1 (by omega)).mono ?_; rintro e w' ⟨rfl, rfl⟩
    go_wp2_with fail
    refine (rwhole_no y 2147483648 _ (by omega) (by omega) h).mono ?_; rintro e w' ⟨rfl, rfl⟩
    go_wp2_with fail
    go_ret; exact ⟨rfl, rfl⟩

theorem place_yes (k n : Int) (w : World) (n1 : 1 ≤ n) (n2 : n ≤ 16) (k0 : 0 ≤ k) (k1 : k < n * 2147483648) :
    Calls Try.prog 9 #[.int .i64 k, .int .i64 n] w fun e w' => e = .returned (.tuple #[.complex .f64 (floatOfInt .f64 (k % n)) (floatOfInt .f64 (k / n)), .int .i64 0]) ∧ Grown w w' := by
  go_enter Try.func9, Try.ntmps9
  go_wp2_with fail
  refine (columns_yes _ _ n1 n2).mono ?_; rintro e w' ⟨rfl, rfl⟩
  go_wp2_with fail
  go_region
  go_wp2
  go_ret2; exact ⟨rfl, (Grown.refl _).drew⟩

theorem place_no (k n : Int) (w : World) (h : n < 1 ∨ 16 < n ∨ k < 0 ∨ n * 2147483648 ≤ k) :
    Calls Try.prog 9 #[.int .i64 k, .int .i64 n] w fun e w' => e = .returned (.tuple #[.complex .f64 0 0, .int .i64 1]) ∧ w = w' := by
  by_cases h1 : n < 1 ∨ 16 < n
  · go_enter Try.func9, Try.ntmps9
    go_wp2_with fail
    refine (columns_no _ _ h1).mono ?_; rintro e w' ⟨rfl, rfl⟩
    go_wp2_with fail
    go_ret2; exact ⟨rfl, rfl⟩
  · have n1 : 1 ≤ n := by omega
    have n2 : n ≤ 16 := by omega
    clear h1
    by_cases k0 : k < 0
    · clear h
      go_enter Try.func9, Try.ntmps9
      go_wp2_with fail
      refine (columns_yes _ _ n1 n2).mono ?_; rintro e w' ⟨rfl, rfl⟩
      go_wp2_with fail
      go_ret2; exact ⟨rfl, rfl⟩
    · have k1 : n * 2147483648 ≤ k := by omega
      have k2 : decide (k < 0) = false := by simp; omega
      clear h
      go_enter Try.func9, Try.ntmps9
      go_wp2_with fail
      refine (columns_yes _ _ n1 n2).mono ?_; rintro e w' ⟨rfl, rfl⟩
      go_wp2_with fail
      go_ret2; exact ⟨rfl, rfl⟩

/-- The place of a unit. -/
theorem at_place {k n : Int} (n1 : 1 ≤ n) (n2 : n ≤ 16) (k0 : 0 ≤ k) (k1 : k < n * 2147483648) :
    At (floatOfInt .f64 (k % n)) (floatOfInt .f64 (k / n)) (k % n) (k / n) n := by
  have a1 := Int.emod_nonneg k (by omega : n ≠ 0)
  have a2 := Int.emod_lt_of_pos k (by omega : 0 < n)
  have b1 : 0 ≤ k / n := Int.ediv_nonneg k0 (by omega)
  have b2 : k / n < 2147483648 := Int.ediv_lt_of_lt_mul (by omega) (by rw [Int.mul_comm]; exact k1)
  exact ⟨whole_ofInt (by omega), whole_ofInt (by omega), a1, a2, b1, b2, n1, n2⟩

end Go.Proofs.Ythmicabihpfeiaa
