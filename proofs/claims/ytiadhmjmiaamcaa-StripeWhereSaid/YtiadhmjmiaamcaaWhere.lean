/- The walks of package stripe: Where, serves, unit, Back. -/
import Derived.Test.YtiadhmjmiaamcaaSpot
import Derived.Deep.RegionHeld3
import Derived.OwnWalk
namespace Go.Proofs.Ytiadhmjmiaamcaa
open Go.RowKit Go.Proofs.Ytiadhmjmiaamcaa.Fl

theorem Only.undrew {S : List Nat} {w w' : World} (h : Only S w.drew w') : Only S w w' := ⟨h.os, h.tape, h.output, h.size, h.block⟩

/-- A map that was boxed, later on. -/
theorem box3 {w w1 : World} {a b c : Value} {ty : TypeId} (k : Only [] (w.alloc (.cells #[a, b, c] ty)) w1) :
    w1.cell? ⟨w.heap.size, 0, none⟩ = some a ∧ w1.cell? ⟨w.heap.size, 1, none⟩ = some b ∧ w1.cell? ⟨w.heap.size, 2, none⟩ = some c := by
  have bq := (Blk.new w ty #[a, b, c]).kept k (by simp)
  have c0 := bq.cell 0
  have c1 := bq.cell 1
  have c2 := bq.cell 2
  simp only [List.getElem?_toArray, List.getElem?_cons_zero, List.getElem?_cons_succ] at c0 c1 c2
  exact ⟨c0, c1, c2⟩

theorem Only.boxed {w w1 : World} {o : Obj} (k : Only [] (w.alloc o) w1) : Only [] w w1 := ((Only.refl [] w).alloc o).trans k

theorem where_ok (s u t x : Int) (w : World) (h : Rt s u t) (x0 : 0 ≤ x) (x1 : x < 1024) :
    Calls Try.prog 12 #[.agg #[.int .i64 s, .int .i64 u, .int .i64 t], .int .i64 x] w fun e w' => e = .returned (.tuple #[.int .i64 (srv s u t x), .int .i64 (pos s u x), .int .i64 0]) ∧ Only [] w w' := by
  go_enter Try.func12, Try.ntmps12
  go_wp2_with fail
  refine (right_yes s u t _ h).mono ?_; rintro e w1 ⟨rfl, k1⟩
  obtain ⟨c0, c1, c2⟩ := box3 k1
  go_wp2_with fail
  refine (spot_any s u t x _ h x0 x1).mono ?_; rintro e w2 ⟨rfl, k2⟩
  go_wp2_with fail
  go_ret3
  exact ⟨rfl, (k1.trans k2).boxed⟩

theorem where_no (s u t x : Int) (w : World) (h : ¬ (Rt s u t ∧ 0 ≤ x ∧ x < 1024)) :
    Calls Try.prog 12 #[.agg #[.int .i64 s, .int .i64 u, .int .i64 t], .int .i64 x] w fun e w' => e = .returned (.tuple #[.int .i64 0, .int .i64 0, .int .i64 1]) ∧ Only [] w w' := by
  by_cases hr : Rt s u t
  · by_cases h0 : x < 0
    · clear h
      go_enter Try.func12, Try.ntmps12
      go_wp2_with fail
      refine (right_yes s u t _ hr).mono ?_; rintro e w1 ⟨rfl, k1⟩
      go_wp2_with fail
      go_ret3
      exact ⟨rfl, k1.boxed⟩
    · have d0 : decide (x < 0) = false := by simp; omega
      have d1 : decide (1024 ≤ x) = true := by
        have : ¬ x < 1024 := fun h1 => h ⟨hr, by omega, h1⟩
        simp; omega
      clear h h0
      go_enter Try.func12, Try.ntmps12
      go_wp2_with fail
      refine (right_yes s u t _ hr).mono ?_; rintro e w1 ⟨rfl, k1⟩
      go_wp2_with fail
      go_ret3
      exact ⟨rfl, k1.boxed⟩
  · clear h
    go_enter Try.func12, Try.ntmps12
    go_wp2_with fail
    refine (right_no s u t _ hr).mono ?_; rintro e w1 ⟨rfl, k1⟩
    go_wp2_with fail
    go_ret3
    exact ⟨rfl, k1.boxed⟩

theorem quo_i64 {a u : Int} (a0 : 0 ≤ a) (a1 : a ≤ 9223372036854775807) (u1 : 1 ≤ u) : u ≠ 0 ∧ IntKind.i64.wrap (a.tdiv u) = a / u := by
  have k0 : 0 ≤ a / u := Int.ediv_nonneg a0 (by omega)
  have k1 : a / u ≤ a := Int.ediv_le_self u a0
  refine ⟨by omega, ?_⟩
  rw [Int.tdiv_eq_ediv_of_nonneg a0, IntKind.wrap_i64]
  omega

theorem serves_yes (s u t v : Int) (w : World) (h : Rt s u t) (v0 : 1 ≤ v) (v1 : v ≤ s) :
    Calls Try.prog 25 #[.agg #[.int .i64 s, .int .i64 u, .int .i64 t], .int .i64 v] w fun e w' => e = .returned (.bool true) ∧ Only [] w w' := by
  go_enter Try.func25, Try.ntmps25
  go_wp2_with fail
  refine (right_yes s u t _ h).mono ?_; rintro e w1 ⟨rfl, k1⟩
  obtain ⟨c0, c1, c2⟩ := box3 k1
  go_wp2_with fail
  go_ret
  exact ⟨rfl, k1.boxed⟩

theorem serves_no (s u t v : Int) (w : World) (h : ¬ (Rt s u t ∧ 1 ≤ v ∧ v ≤ s)) :
    Calls Try.prog 25 #[.agg #[.int .i64 s, .int .i64 u, .int .i64 t], .int .i64 v] w fun e w' => e = .returned (.bool false) ∧ Only [] w w' := by
  by_cases hr : Rt s u t
  · by_cases h0 : v < 1
    · have d0 : decide (1 ≤ v) = false := by simp; omega
      clear h h0
      go_enter Try.func25, Try.ntmps25
      go_wp2_with fail
      refine (right_yes s u t _ hr).mono ?_; rintro e w1 ⟨rfl, k1⟩
      obtain ⟨c0, c1, c2⟩ := box3 k1
      go_wp2_with fail
      go_ret
      exact ⟨rfl, k1.boxed⟩
    · have d0 : decide (1 ≤ v) = true := by simp; omega
      have d1 : decide (v ≤ s) = false := by
        have : ¬ v ≤ s := fun h1 => h ⟨hr, by omega, h1⟩
        simp; omega
      clear h h0
      go_enter Try.func25, Try.ntmps25
      go_wp2_with fail
      refine (right_yes s u t _ hr).mono ?_; rintro e w1 ⟨rfl, k1⟩
      obtain ⟨c0, c1, c2⟩ := box3 k1
      go_wp2_with fail
      go_ret
      exact ⟨rfl, k1.boxed⟩
  · clear h
    go_enter Try.func25, Try.ntmps25
    go_wp2_with fail
    refine (right_no s u t _ hr).mono ?_; rintro e w1 ⟨rfl, k1⟩
    go_wp2_with fail
    go_ret
    exact ⟨rfl, k1.boxed⟩

theorem unit_ok (s u t v r : Int) (w : World) (h : Rt s u t) (v0 : 1 ≤ v) (v1 : v ≤ s) (r0 : 0 ≤ r) (r1 : r < 2147483648) :
    Calls Try.prog 26 #[.agg #[.int .i64 s, .int .i64 u, .int .i64 t], .int .i64 v, .int .i64 r] w fun e w' => e = .returned (.tuple #[.int .i64 (r * s + (v - 1 + -t) % s), .bool true]) ∧ Only [] w w' := by
  obtain ⟨s1, s2, u1, u2, t1, t2⟩ := h
  have hat : At (floatOfInt .f64 (v - 1)) (floatOfInt .f64 r) (v - 1) r s := ⟨whole_ofInt (by omega), whole_ofInt (by omega), by omega, by omega, r0, r1, s1, s2⟩
  obtain ⟨p, q, hpq, hturn⟩ := turn_yes _ _ _ _ (-t) s (by omega) (by omega) hat
  have T := Lib.hid hturn
  have P := Lib.hid hpq
  clear hturn hpq hat
  go_enter Try.func26, Try.ntmps26
  go_wp2_with fail
  refine (T.out _).mono ?_; rintro e w' ⟨rfl, rfl⟩
  go_wp2_with fail
  refine (unit_yes p q _ r s _ P.out).mono ?_; rintro e w' ⟨rfl, rfl⟩
  go_wp2_with fail
  go_ret2
  exact ⟨rfl, (Only.refl [] w).alloc _⟩

theorem unit_far (s u t v r : Int) (w : World) (h : Rt s u t) (v0 : 1 ≤ v) (v1 : v ≤ s) (r0 : 2147483648 ≤ r) (r1 : r ≤ 9223372036854775807) :
    Calls Try.prog 26 #[.agg #[.int .i64 s, .int .i64 u, .int .i64 t], .int .i64 v, .int .i64 r] w fun e w' => e = .returned (.tuple #[.int .i64 0, .bool false]) ∧ Only [] w w' := by
  obtain ⟨s1, s2, u1, u2, t1, t2⟩ := h
  have hoff : Off (floatOfInt .f64 (v - 1)) (floatOfInt .f64 r) s := .inr (.inr (.inr ⟨s1, s2, ⟨v - 1, whole_ofInt (by omega), by omega, by omega⟩, outside_far r0 r1⟩))
  go_enter Try.func26, Try.ntmps26
  go_wp2_with fail
  refine (turn_off _ _ (-t) s _ hoff).mono ?_; rintro e w' ⟨rfl, rfl⟩
  go_wp2_with fail
  go_ret2
  exact ⟨rfl, (Only.refl [] w).alloc _⟩

/-- The byte that lies there. -/
def bck (s u t v a : Int) : Int := (a / u * s + (v - 1 + -t) % s) * u + a % u

theorem bck_bds {s u t v a : Int} (h : Rt s u t) (a0 : 0 ≤ a) (r1 : a / u < 2147483648) :
    0 ≤ a / u ∧ 0 ≤ a % u ∧ a % u < u ∧ 0 ≤ (v - 1 + -t) % s ∧ (v - 1 + -t) % s < s ∧ 0 ≤ a / u * s ∧ a / u * s ≤ 34359738352 ∧ 0 ≤ (a / u * s + (v - 1 + -t) % s) * u ∧ (a / u * s + (v - 1 + -t) % s) * u ≤ 2199023257600 := by
  obtain ⟨s1, s2, u1, u2, t1, t2⟩ := h
  have k0 : 0 ≤ a / u := Int.ediv_nonneg a0 (by omega)
  have c0 := Int.emod_nonneg (v - 1 + -t) (show s ≠ 0 by omega)
  have c1 := Int.emod_lt_of_pos (v - 1 + -t) (show 0 < s by omega)
  obtain ⟨m0, m1⟩ := mul_bd (a / u) s k0 r1 s1 s2
  have n0 : 0 ≤ (a / u * s + (v - 1 + -t) % s) * u := Int.mul_nonneg (by omega) (by omega)
  have n1 : (a / u * s + (v - 1 + -t) % s) * u ≤ 34359738400 * u := Int.mul_le_mul_of_nonneg_right (by omega) (by omega)
  exact ⟨k0, Int.emod_nonneg a (by omega), Int.emod_lt_of_pos a (by omega), c0, c1, m0, m1, n0, by omega⟩

theorem bck_row {s u t v a : Int} (h : Rt s u t) (a0 : 0 ≤ a) (hx : bck s u t v a < 1024) : a / u < 2147483648 := by
  obtain ⟨s1, s2, u1, u2, t1, t2⟩ := h
  have k0 : 0 ≤ a / u := Int.ediv_nonneg a0 (by omega)
  have c0 := Int.emod_nonneg (v - 1 + -t) (show s ≠ 0 by omega)
  have e0 := Int.emod_nonneg a (show u ≠ 0 by omega)
  have m0 : a / u * 1 ≤ a / u * s := Int.mul_le_mul_of_nonneg_left s1 k0
  have m1 : (a / u * s + (v - 1 + -t) % s) * 1 ≤ (a / u * s + (v - 1 + -t) % s) * u := Int.mul_le_mul_of_nonneg_left u1 (by omega)
  unfold bck at hx
  omega

set_option maxHeartbeats 1000000 in
theorem back_near (s u t v a : Int) (w : World) (h : Rt s u t) (v0 : 1 ≤ v) (v1 : v ≤ s) (a0 : 0 ≤ a) (a1 : a ≤ 9223372036854775807) (r1 : a / u < 2147483648) (X E : Int)
    (hX : (bck s u t v a < 1024 ∧ X = bck s u t v a ∧ E = 0) ∨ (1024 ≤ bck s u t v a ∧ X = 0 ∧ E = 1)) :
    Calls Try.prog 13 #[.agg #[.int .i64 s, .int .i64 u, .int .i64 t], .int .i64 v, .int .i64 a] w fun e w' => e = .returned (.tuple #[.int .i64 X, .int .i64 E]) ∧ Only [] w w' := by
  have hr := h
  obtain ⟨s1, s2, u1, u2, t1, t2⟩ := h
  obtain ⟨k0, e0, e1, c0, c1, m0, m1, n0, n1⟩ := bck_bds (v := v) hr a0 r1
  unfold bck at hX
  obtain ⟨q0, q1⟩ := quo_i64 a0 a1 u1
  have R := Lib.hid hr
  have HX := Lib.hid hX
  clear hX hr
  go_enter Try.func13, Try.ntmps13
  go_wp2_with fail
  refine (serves_yes s u t v _ R.out v0 v1).mono ?_; rintro e w1 ⟨rfl, k1⟩
  obtain ⟨d0, d1, d2⟩ := box3 k1
  go_wp2_with fail
  go_region_held3 (fun w' => w'.cell? ⟨w.heap.size, 0, none⟩ = some (.int .i64 s) ∧ w'.cell? ⟨w.heap.size, 1, none⟩ = some (.int .i64 u) ∧ w'.cell? ⟨w.heap.size, 2, none⟩ = some (.int .i64 t))
    (first | exact ⟨d0, d1, d2⟩ | exact box3 (k1.trans k2))
    (first | (go_at_call 26; refine (unit_ok s u t v (a / u) _ R.out v0 v1 k0 r1).mono ?_; rintro e w2 ⟨rfl, k2⟩; replace k2 := k2.undrew))
  obtain ⟨d0, d1, d2⟩ := box3 (k1.trans k2)
  go_wp2_with fail
  go_quiet (fail)
  rcases HX.out with ⟨h1, rfl, rfl⟩ | ⟨h1, rfl, rfl⟩
  · go_wp2
    go_ret2
    exact ⟨rfl, (k1.trans k2).boxed.drewN _⟩
  · go_wp2
    go_ret2
    exact ⟨rfl, (k1.trans k2).boxed.drewN _⟩

theorem back_ok (s u t v a : Int) (w : World) (h : Rt s u t) (v0 : 1 ≤ v) (v1 : v ≤ s) (a0 : 0 ≤ a) (a1 : a ≤ 9223372036854775807) (hx : bck s u t v a < 1024) :
    Calls Try.prog 13 #[.agg #[.int .i64 s, .int .i64 u, .int .i64 t], .int .i64 v, .int .i64 a] w fun e w' => e = .returned (.tuple #[.int .i64 (bck s u t v a), .int .i64 0]) ∧ Only [] w w' :=
  back_near s u t v a w h v0 v1 a0 a1 (bck_row h a0 hx) _ _ (.inl ⟨hx, rfl, rfl⟩)

theorem back_no (s u t v a : Int) (w : World) (a1 : a ≤ 9223372036854775807) (h : ¬ (Rt s u t ∧ 1 ≤ v ∧ v ≤ s ∧ 0 ≤ a ∧ bck s u t v a < 1024)) :
    Calls Try.prog 13 #[.agg #[.int .i64 s, .int .i64 u, .int .i64 t], .int .i64 v, .int .i64 a] w fun e w' => e = .returned (.tuple #[.int .i64 0, .int .i64 1]) ∧ Only [] w w' := by
  by_cases hs : Rt s u t ∧ 1 ≤ v ∧ v ≤ s
  · obtain ⟨hr, v0, v1⟩ := hs
    by_cases h0 : a < 0
    · clear h
      go_enter Try.func13, Try.ntmps13
      go_wp2_with fail
      refine (serves_yes s u t v _ hr v0 v1).mono ?_; rintro e w1 ⟨rfl, k1⟩
      go_wp2_with fail
      go_ret2
      exact ⟨rfl, k1.boxed⟩
    · have a0 : 0 ≤ a := by omega
      by_cases h1 : a / u < 2147483648
      · have hx : 1024 ≤ bck s u t v a := by
          have : ¬ bck s u t v a < 1024 := fun hx => h ⟨hr, v0, v1, a0, hx⟩
          omega
        exact back_near s u t v a w hr v0 v1 a0 a1 h1 _ _ (.inr ⟨hx, rfl, rfl⟩)
      · have R := Lib.hid hr
        obtain ⟨s1, s2, u1, u2, t1, t2⟩ := hr
        have k1' : 2147483648 ≤ a / u := by omega
        have k2' : a / u ≤ a := Int.ediv_le_self u a0
        have e0 := Int.emod_nonneg a (show u ≠ 0 by omega)
        have e1 := Int.emod_lt_of_pos a (show 0 < u by omega)
        obtain ⟨q0, q1⟩ := quo_i64 a0 a1 u1
        clear h h0 h1
        go_enter Try.func13, Try.ntmps13
        go_wp2_with fail
        refine (serves_yes s u t v _ R.out v0 v1).mono ?_; rintro e w1 ⟨rfl, k1⟩
        obtain ⟨d0, d1, d2⟩ := box3 k1
        go_wp2_with fail
        go_region_held3 (fun w' => w'.cell? ⟨w.heap.size, 0, none⟩ = some (.int .i64 s) ∧ w'.cell? ⟨w.heap.size, 1, none⟩ = some (.int .i64 u) ∧ w'.cell? ⟨w.heap.size, 2, none⟩ = some (.int .i64 t))
          (first | exact ⟨d0, d1, d2⟩ | exact box3 (k1.trans k2))
          (first | (go_at_call 26; refine (unit_far s u t v (a / u) _ R.out v0 v1 k1' (by omega)).mono ?_; rintro e w2 ⟨rfl, k2⟩; replace k2 := k2.undrew))
        obtain ⟨d0, d1, d2⟩ := box3 (k1.trans k2)
        go_wp2_with fail
        go_quiet (fail)
        go_wp2
        go_ret2
        exact ⟨rfl, (k1.trans k2).boxed.drewN _⟩
  · clear h
    go_enter Try.func13, Try.ntmps13
    go_wp2_with fail
    refine (serves_no s u t v _ hs).mono ?_; rintro e w1 ⟨rfl, k1⟩
    go_wp2_with fail
    go_ret2
    exact ⟨rfl, k1.boxed⟩

end Go.Proofs.Ytiadhmjmiaamcaa
