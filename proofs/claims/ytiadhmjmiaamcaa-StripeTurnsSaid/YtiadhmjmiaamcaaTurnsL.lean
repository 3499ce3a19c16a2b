/- StripeTurns: by another turn each byte lies where it lay, on the server so many further round. -/
import Derived.Test.YtiadhmjmiaamcaaApartL
namespace Go.Proofs.Ytiadhmjmiaamcaa
open Go.RowKit Go.Proofs.Ytiadhmjmiaamcaa.Fl

set_option maxHeartbeats 1000000 in
theorem blk3 {w : World} {g : Nat} {ty : TypeId} {a b c : Value} (h : Blk w g ty #[a, b, c]) : w.cell? ⟨g, 0, none⟩ = some a ∧ w.cell? ⟨g, 1, none⟩ = some b ∧ w.cell? ⟨g, 2, none⟩ = some c := by
  have c0 := h.cell 0
  have c1 := h.cell 1
  have c2 := h.cell 2
  simp only [List.getElem?_toArray, List.getElem?_cons_zero, List.getElem?_cons_succ] at c0 c1 c2
  exact ⟨c0, c1, c2⟩

theorem turn_far (s u t t' x : Int) : (srv s u t' x - srv s u t x - (t' - t)).tmod s = 0 := by
  have h1 := Int.mul_ediv_add_emod (x / u + t') s
  have h2 := Int.mul_ediv_add_emod (x / u + t) s
  have e : srv s u t' x - srv s u t x - (t' - t) = s * ((x / u + t) / s - (x / u + t') / s) := by
    rw [Int.mul_sub]
    unfold srv
    omega
  rw [e, Int.mul_tmod_right]

set_option maxHeartbeats 1000000 in
theorem stripeTurns_walk (w : World) (s u t t' x : Int) :
    Calls Try.prog 9 #[.agg #[.int .i64 s, .int .i64 u, .int .i64 t], .int .i64 t', .int .i64 x] w fun e w' => e = .returned (.bool true) ∧ Only [] w w' := by
  by_cases hx : Rt s u t ∧ 0 ≤ x ∧ x < 1024
  · obtain ⟨hr, x0, x1⟩ := hx
    have R := Lib.hid hr
    by_cases hr' : Rt s u t'
    · have R' := Lib.hid hr'
      have q := turn_far s u t t' x
      have h1 := srv_rng (u := u) (t := t) (x := x) hr.1
      have h2 := srv_rng (u := u) (t := t') (x := x) hr.1
      have hp : pos s u x = pos s u x := rfl
      obtain ⟨s1, s2, u1, u2, t1, t2⟩ := hr
      obtain ⟨_, _, _, _, t1', t2'⟩ := hr'
      go_enter Try.func9, Try.ntmps9
      go_wp2_with fail
      refine (alive_any _).mono ?_; rintro e w1 ⟨rfl, j1⟩
      have k1 := j1
      obtain ⟨c0, c1, c2⟩ := box3 k1
      have j2 : Only [] w1 (w1.alloc (.cells #[.int .i64 s, .int .i64 u, .int .i64 t'] 23)) := (Only.refl [] w1).alloc _
      have b2 : Blk (w1.alloc (.cells #[.int .i64 s, .int .i64 u, .int .i64 t'] 23)) w1.heap.size 23 #[.int .i64 s, .int .i64 u, .int .i64 t'] := Blk.new w1 _ _
      have k2 := k1.trans j2
      have e := box3 k2
      obtain ⟨e0, e1, e2⟩ := e
      go_wp2_with fail
      refine (where_ok s u t x _ R.out x0 x1).mono ?_; rintro e w3 ⟨rfl, j3⟩
      have k3 := k2.trans j3
      clear c0 c1 c2 e0 e1 e2
      obtain ⟨c0, c1, c2⟩ := box3 k3
      have b3 := b2.kept j3 (by simp)
      obtain ⟨d0, d1, d2⟩ := blk3 b3
      go_wp2_with fail
      refine (where_ok s u t' x _ R'.out x0 x1).mono ?_; rintro e w4 ⟨rfl, j4⟩
      have k4 := k3.trans j4
      clear c0 c1 c2 d0 d1 d2
      obtain ⟨c0, c1, c2⟩ := box3 k4
      obtain ⟨d0, d1, d2⟩ := blk3 (b3.kept j4 (by simp))
      clear b2 b3
      go_wp2_with fail
      refine (alive_any _).mono ?_; rintro e w5 ⟨rfl, j5⟩
      have k5 := k4.trans j5
      clear c0 c1 c2
      obtain ⟨c0, c1, c2⟩ := box3 k5
      go_wp2
      go_ret
      exact ⟨rfl, k5.boxed⟩
    · have Y := Lib.hid (show ¬ (Rt s u t' ∧ 0 ≤ x ∧ x < 1024) from fun h => hr' h.1)
      clear hr hr'
      go_enter Try.func9, Try.ntmps9
      go_wp2_with fail
      refine (alive_any _).mono ?_; rintro e w1 ⟨rfl, j1⟩
      have k1 := j1
      obtain ⟨c0, c1, c2⟩ := box3 k1
      have j2 : Only [] w1 (w1.alloc (.cells #[.int .i64 s, .int .i64 u, .int .i64 t'] 23)) := (Only.refl [] w1).alloc _
      have b2 : Blk (w1.alloc (.cells #[.int .i64 s, .int .i64 u, .int .i64 t'] 23)) w1.heap.size 23 #[.int .i64 s, .int .i64 u, .int .i64 t'] := Blk.new w1 _ _
      have k2 := k1.trans j2
      have e := box3 k2
      obtain ⟨e0, e1, e2⟩ := e
      go_wp2_with fail
      refine (where_ok s u t x _ R.out x0 x1).mono ?_; rintro e w3 ⟨rfl, j3⟩
      have k3 := k2.trans j3
      clear c0 c1 c2 e0 e1 e2
      obtain ⟨c0, c1, c2⟩ := box3 k3
      have b3 := b2.kept j3 (by simp)
      obtain ⟨d0, d1, d2⟩ := blk3 b3
      go_wp2_with fail
      refine (where_no s u t' x _ Y.out).mono ?_; rintro e w4 ⟨rfl, j4⟩
      have k4 := k3.trans j4
      clear c0 c1 c2 d0 d1 d2
      obtain ⟨c0, c1, c2⟩ := box3 k4
      obtain ⟨d0, d1, d2⟩ := blk3 (b3.kept j4 (by simp))
      clear b2 b3
      go_wp2_with fail
      refine (alive_any _).mono ?_; rintro e w5 ⟨rfl, j5⟩
      have k5 := k4.trans j5
      clear c0 c1 c2
      obtain ⟨c0, c1, c2⟩ := box3 k5
      go_wp2
      go_ret
      exact ⟨rfl, k5.boxed⟩
  · have X := Lib.hid hx
    obtain ⟨S, A, E, h⟩ := where_some s u t' x
    have H := Lib.hid h
    clear h hx
    go_enter Try.func9, Try.ntmps9
    go_wp2_with fail
    refine (alive_any _).mono ?_; rintro e w1 ⟨rfl, j1⟩
    have k1 := j1
    obtain ⟨c0, c1, c2⟩ := box3 k1
    have j2 : Only [] w1 (w1.alloc (.cells #[.int .i64 s, .int .i64 u, .int .i64 t'] 23)) := (Only.refl [] w1).alloc _
    have b2 : Blk (w1.alloc (.cells #[.int .i64 s, .int .i64 u, .int .i64 t'] 23)) w1.heap.size 23 #[.int .i64 s, .int .i64 u, .int .i64 t'] := Blk.new w1 _ _
    have k2 := k1.trans j2
    have e := box3 k2
    obtain ⟨e0, e1, e2⟩ := e
    go_wp2_with fail
    refine (where_no s u t x _ X.out).mono ?_; rintro e w3 ⟨rfl, j3⟩
    have k3 := k2.trans j3
    clear c0 c1 c2 e0 e1 e2
    obtain ⟨c0, c1, c2⟩ := box3 k3
    have b3 := b2.kept j3 (by simp)
    obtain ⟨d0, d1, d2⟩ := blk3 b3
    go_wp2_with fail
    refine (H.out _).mono ?_; rintro e w4 ⟨rfl, j4⟩
    have k4 := k3.trans j4
    clear c0 c1 c2 d0 d1 d2
    obtain ⟨c0, c1, c2⟩ := box3 k4
    obtain ⟨d0, d1, d2⟩ := blk3 (b3.kept j4 (by simp))
    clear b2 b3
    go_wp2_with fail
    refine (alive_any _).mono ?_; rintro e w5 ⟨rfl, j5⟩
    have k5 := k4.trans j5
    clear c0 c1 c2
    obtain ⟨c0, c1, c2⟩ := box3 k5
    go_wp2
    go_ret
    exact ⟨rfl, k5.boxed⟩

end Go.Proofs.Ytiadhmjmiaamcaa
