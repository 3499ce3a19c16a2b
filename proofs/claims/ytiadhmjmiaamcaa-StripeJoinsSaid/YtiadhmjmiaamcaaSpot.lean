/- The walks of package stripe: may a map be; where a byte lies. -/
import Derived.Test.YtiadhmjmiaamcaaPlane
namespace Go.Proofs.Ytiadhmjmiaamcaa
open Go.RowKit Go.Proofs.Ytiadhmjmiaamcaa.Fl

/-- May a map be? -/
def Rt (s u t : Int) : Prop := 1 ≤ s ∧ s ≤ 16 ∧ 1 ≤ u ∧ u ≤ 64 ∧ 0 ≤ t ∧ t < s

theorem rt_ways {s u t : Int} (h : ¬ Rt s u t) : s < 1 ∨ (1 ≤ s ∧ 16 < s) ∨ (1 ≤ s ∧ s ≤ 16 ∧ u < 1) ∨ (1 ≤ s ∧ s ≤ 16 ∧ 1 ≤ u ∧ 64 < u) ∨ (1 ≤ s ∧ s ≤ 16 ∧ 1 ≤ u ∧ u ≤ 64 ∧ t < 0) ∨
    (1 ≤ s ∧ s ≤ 16 ∧ 1 ≤ u ∧ u ≤ 64 ∧ 0 ≤ t ∧ s ≤ t) := by unfold Rt at h; omega

/-- The server of a byte, and its place in the object there. -/
def srv (s u t x : Int) : Int := 1 + (x / u + t) % s
def pos (s u x : Int) : Int := x / u / s * u + x % u

theorem right_yes (s u t : Int) (w : World) (h : Rt s u t) :
    Calls Try.prog 15 #[.agg #[.int .i64 s, .int .i64 u, .int .i64 t]] w fun e w' => e = .returned (.bool true) ∧ Only [] w w' := by
  obtain ⟨s1, s2, u1, u2, t1, t2⟩ := h
  go_enter Try.func15, Try.ntmps15
  go_wp2
  go_ret; exact ⟨rfl, (Only.refl [] w).alloc _⟩

theorem right_no (s u t : Int) (w : World) (h : ¬ Rt s u t) :
    Calls Try.prog 15 #[.agg #[.int .i64 s, .int .i64 u, .int .i64 t]] w fun e w' => e = .returned (.bool false) ∧ Only [] w w' := by
  rcases rt_ways h with h1 | ⟨a1, h1⟩ | ⟨a1, a2, h1⟩ | ⟨a1, a2, a3, h1⟩ | ⟨a1, a2, a3, a4, h1⟩ | ⟨a1, a2, a3, a4, a5, h1⟩
  · have d1 : decide (1 ≤ s) = false := by simp; omega
    clear h h1
    go_enter Try.func15, Try.ntmps15
    go_wp2
    go_ret; exact ⟨rfl, (Only.refl [] w).alloc _⟩
  · have d1 : decide (s ≤ 16) = false := by simp; omega
    clear h h1
    go_enter Try.func15, Try.ntmps15
    go_wp2
    go_ret; exact ⟨rfl, (Only.refl [] w).alloc _⟩
  · have d1 : decide (1 ≤ u) = false := by simp; omega
    clear h h1
    go_enter Try.func15, Try.ntmps15
    go_wp2
    go_ret; exact ⟨rfl, (Only.refl [] w).alloc _⟩
  · have d1 : decide (u ≤ 64) = false := by simp; omega
    clear h h1
    go_enter Try.func15, Try.ntmps15
    go_wp2
    go_ret; exact ⟨rfl, (Only.refl [] w).alloc _⟩
  · have d1 : decide (0 ≤ t) = false := by simp; omega
    clear h h1
    go_enter Try.func15, Try.ntmps15
    go_wp2
    go_ret; exact ⟨rfl, (Only.refl [] w).alloc _⟩
  · have d1 : decide (t < s) = false := by simp; omega
    clear h h1
    go_enter Try.func15, Try.ntmps15
    go_wp2
    go_ret; exact ⟨rfl, (Only.refl [] w).alloc _⟩

theorem rright_yes (s u t : Int) (w : World) (h : Rt s u t) :
    Calls Try.prog 14 #[.agg #[.int .i64 s, .int .i64 u, .int .i64 t]] w fun e w' => e = .returned (.bool true) ∧ Only [] w w' := by
  obtain ⟨s1, s2, u1, u2, t1, t2⟩ := h
  go_enter Try.func14, Try.ntmps14
  go_wp2
  go_ret; exact ⟨rfl, (Only.refl [] w).alloc _⟩

theorem rright_no (s u t : Int) (w : World) (h : ¬ Rt s u t) :
    Calls Try.prog 14 #[.agg #[.int .i64 s, .int .i64 u, .int .i64 t]] w fun e w' => e = .returned (.bool false) ∧ Only [] w w' := by
  rcases rt_ways h with h1 | ⟨a1, h1⟩ | ⟨a1, a2, h1⟩ | ⟨a1, a2, a3, h1⟩ | ⟨a1, a2, a3, a4, h1⟩ | ⟨a1, a2, a3, a4, a5, h1⟩
  · have d1 : decide (1 ≤ s) = false := by simp; omega
    clear h h1
    go_enter Try.func14, Try.ntmps14
    go_wp2
    go_ret; exact ⟨rfl, (Only.refl [] w).alloc _⟩
  · have d1 : decide (s ≤ 16) = false := by simp; omega
    clear h h1
    go_enter Try.func14, Try.ntmps14
    go_wp2
    go_ret; exact ⟨rfl, (Only.refl [] w).alloc _⟩
  · have d1 : decide (1 ≤ u) = false := by simp; omega
    clear h h1
    go_enter Try.func14, Try.ntmps14
    go_wp2
    go_ret; exact ⟨rfl, (Only.refl [] w).alloc _⟩
  · have d1 : decide (u ≤ 64) = false := by simp; omega
    clear h h1
    go_enter Try.func14, Try.ntmps14
    go_wp2
    go_ret; exact ⟨rfl, (Only.refl [] w).alloc _⟩
  · have d1 : decide (0 ≤ t) = false := by simp; omega
    clear h h1
    go_enter Try.func14, Try.ntmps14
    go_wp2
    go_ret; exact ⟨rfl, (Only.refl [] w).alloc _⟩
  · have d1 : decide (t < s) = false := by simp; omega
    clear h h1
    go_enter Try.func14, Try.ntmps14
    go_wp2
    go_ret; exact ⟨rfl, (Only.refl [] w).alloc _⟩

/-- Bounds of a byte's unit and place. -/
theorem spot_bds {s u x : Int} (s1 : 1 ≤ s) (u1 : 1 ≤ u) (u2 : u ≤ 64) (x0 : 0 ≤ x) (x1 : x < 1024) :
    0 ≤ x / u ∧ x / u ≤ 1023 ∧ 0 ≤ x / u / s ∧ x / u / s ≤ 1023 ∧ 0 ≤ x / u / s * u ∧ x / u / s * u ≤ 1023 ∧ 0 ≤ x % u ∧ x % u < u ∧ x / u * u ≤ x := by
  have k0 : 0 ≤ x / u := Int.ediv_nonneg x0 (by omega)
  have k1 : x / u ≤ x := Int.ediv_le_self u x0
  have r0 : 0 ≤ x / u / s := Int.ediv_nonneg k0 (by omega)
  have r1 : x / u / s ≤ x / u := Int.ediv_le_self s k0
  have m0 : 0 ≤ x / u / s * u := Int.mul_nonneg r0 (by omega)
  have m1 : x / u / s * u ≤ x / u * u := Int.mul_le_mul_of_nonneg_right r1 (by omega)
  have m2 : x / u * u ≤ x := Int.ediv_mul_le x (by omega)
  exact ⟨k0, by omega, r0, by omega, m0, by omega, Int.emod_nonneg x (by omega), Int.emod_lt_of_pos x (by omega), m2⟩

theorem spot_any (s u t x : Int) (w : World) (h : Rt s u t) (x0 : 0 ≤ x) (x1 : x < 1024) :
    Calls Try.prog 24 #[.agg #[.int .i64 s, .int .i64 u, .int .i64 t], .int .i64 x] w fun e w' => e = .returned (.tuple #[.int .i64 (srv s u t x), .int .i64 (pos s u x)]) ∧ Only [] w w' := by
  obtain ⟨s1, s2, u1, u2, t1, t2⟩ := h
  obtain ⟨k0, k1, r0, r1, m0, m1, e0, e1, _⟩ := spot_bds s1 u1 u2 x0 x1
  have c0 := Int.emod_nonneg (x / u + t) (show s ≠ 0 by omega)
  have c1 := Int.emod_lt_of_pos (x / u + t) (show 0 < s by omega)
  have hat := at_place (k := x / u) s1 s2 k0 (by omega)
  have he : (x / u % s + t) % s = (x / u + t) % s := by rw [Int.emod_add_emod]
  obtain ⟨p, q, hpq, hturn⟩ := turn_yes _ _ _ _ t s (by omega) (by omega) hat
  rw [he] at hpq
  have g1 := conv_whole hpq.1 (by omega) (by omega)
  have g2 := conv_whole hpq.2.1 (by omega) (by omega)
  have T := Lib.hid hturn
  clear hturn hpq hat he
  unfold srv pos
  go_enter Try.func24, Try.ntmps24
  go_wp2_with fail
  go_quiet ((with_reducible refine Calls.quiet_of (place_yes (x / u) s _ s1 s2 k0 (by omega))))
  go_wp2_with fail
  refine (T.out _).mono ?_; rintro e w' ⟨rfl, rfl⟩
  go_wp2_with fail
  go_region
  go_wp2
  go_ret2
  exact ⟨rfl, (((Only.refl [] w).alloc _).drewN _).drew⟩

end Go.Proofs.Ytiadhmjmiaamcaa
