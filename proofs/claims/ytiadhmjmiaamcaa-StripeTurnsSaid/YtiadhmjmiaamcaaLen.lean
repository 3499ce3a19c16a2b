/- How long a server's object is: by definition (lenR), in one formula (lenC), by the program, by the document. -/
import Derived.Test.YtiadhmjmiaamcaaRef6
namespace Go.Proofs.Ytiadhmjmiaamcaa
open Go.RowKit Go.Proofs.Ytiadhmjmiaamcaa.Fl

/-- L is one more than the last place that holds a byte below n. -/
def IsLen (s u t v n L : Int) : Prop := (∀ x, 0 ≤ x → x < n → srv s u t x = v → pos s u x < L) ∧ (L = 0 ∨ ∃ x, 0 ≤ x ∧ x < n ∧ srv s u t x = v ∧ pos s u x + 1 = L)

theorem IsLen.nonneg {s u t v n L : Int} (s1 : 1 ≤ s) (u1 : 1 ≤ u) (h : IsLen s u t v n L) : 0 ≤ L := by
  rcases h.2 with h | ⟨x, x0, x1, h1, h2⟩
  · omega
  · have := (pos_row s1 u1 x0).1; omega

theorem IsLen.eq {s u t v n L L' : Int} (s1 : 1 ≤ s) (u1 : 1 ≤ u) (h : IsLen s u t v n L) (h' : IsLen s u t v n L') : L = L' := by
  have a := h.nonneg s1 u1
  have a' := h'.nonneg s1 u1
  have b : L ≤ L' := by
    rcases h.2 with h | ⟨x, x0, x1, h1, h2⟩
    · omega
    · have := h'.1 x x0 x1 h1; omega
  have b' : L' ≤ L := by
    rcases h'.2 with h | ⟨x, x0, x1, h1, h2⟩
    · omega
    · have := h.1 x x0 x1 h1; omega
  omega

/-- A byte's place is not beyond the byte. -/
theorem pos_le {s u x : Int} (_s1 : 1 ≤ s) (u1 : 1 ≤ u) (x0 : 0 ≤ x) : pos s u x ≤ x := by
  have k0 : 0 ≤ x / u := Int.ediv_nonneg x0 (by omega)
  have r1 : x / u / s ≤ x / u := Int.ediv_le_self s k0
  have m1 : x / u / s * u ≤ x / u * u := Int.mul_le_mul_of_nonneg_right r1 (by omega)
  have := split_mul x u
  unfold pos
  omega

/-- On one server places rise with the bytes. -/
theorem pos_mono {s u t x y : Int} (s1 : 1 ≤ s) (u1 : 1 ≤ u) (_x0 : 0 ≤ x) (h : x < y) (hs : srv s u t x = srv s u t y) : pos s u x < pos s u y := by
  have hk : x / u ≤ y / u := Int.ediv_le_ediv (by omega) (by omega)
  have hr : x / u / s ≤ y / u / s := Int.ediv_le_ediv (by omega) hk
  have e1 := Int.emod_lt_of_pos x (show 0 < u by omega)
  have f0 := Int.emod_nonneg y (show u ≠ 0 by omega)
  rcases Int.lt_or_eq_of_le hr with hl | he
  · have m : (x / u / s + 1) * u ≤ y / u / s * u := Int.mul_le_mul_of_nonneg_right (by omega) (by omega)
    rw [Int.add_mul] at m
    unfold pos
    omega
  · have hm : x / u % s = y / u % s := by rw [← srv_back (t := t), ← srv_back (t := t), hs]
    have hq : x / u = y / u := by rw [← split_mul (x / u) s, ← split_mul (y / u) s, he, hm]
    have a := split_mul x u
    have b := split_mul y u
    rw [hq] at a
    unfold pos
    rw [he]
    omega

/-- The length, byte by byte. -/
def lenR (s u t v : Int) : Nat → Int
  | 0 => 0
  | n + 1 => if srv s u t n = v ∧ lenR s u t v n ≤ pos s u n then pos s u n + 1 else lenR s u t v n

theorem lenR_is {s u t v : Int} (s1 : 1 ≤ s) (u1 : 1 ≤ u) (n : Nat) : IsLen s u t v n (lenR s u t v n) := by
  induction n with
  | zero => exact ⟨fun x h1 h2 _ => by omega, .inl rfl⟩
  | succ n ih =>
    have hn : (0 : Int) ≤ n := by omega
    have h0 := ih.nonneg s1 u1
    obtain ⟨ih1, ih2⟩ := ih
    rw [lenR]
    split
    · rename_i hc
      refine ⟨fun x x0 x1 hx => ?_, .inr ⟨n, hn, by omega, hc.1, rfl⟩⟩
      rcases Int.lt_or_eq_of_le (show x ≤ n by omega) with hl | rfl
      · have := ih1 x x0 hl hx; omega
      · omega
    · rename_i hc
      refine ⟨fun x x0 x1 hx => ?_, ih2.imp id fun ⟨x, x0, x1, h1, h2⟩ => ⟨x, x0, by omega, h1, h2⟩⟩
      rcases Int.lt_or_eq_of_le (show x ≤ n by omega) with hl | rfl
      · exact ih1 x x0 hl hx
      · have : ¬ lenR s u t v n ≤ pos s u n := fun h => hc ⟨hx, h⟩
        omega

theorem lenR_bd {s u t v : Int} (s1 : 1 ≤ s) (u1 : 1 ≤ u) (n : Nat) : 0 ≤ lenR s u t v n ∧ lenR s u t v n ≤ n := by
  have h := lenR_is (t := t) (v := v) s1 u1 n
  refine ⟨h.nonneg s1 u1, ?_⟩
  rcases h.2 with h | ⟨x, x0, x1, h1, h2⟩
  · omega
  · have := pos_le s1 u1 x0; omega

theorem lenR_mono {s u t v : Int} (n : Nat) : lenR s u t v n ≤ lenR s u t v (n + 1) := by
  rw [lenR]
  split
  · rename_i h; omega
  · exact Int.le_refl _

/-- The units of a file. -/
theorem units_iff {u n q : Int} (u1 : 1 ≤ u) : q ≤ (n + u - 1) / u - 1 ↔ q * u < n := by
  have h := Int.le_ediv_iff_mul_le (c := u) (a := q + 1) (b := n + u - 1) (by omega)
  rw [Int.add_mul] at h
  omega

def lastU (s u t v n : Int) : Int := ((n + u - 1) / u - 1 - (v - 1 + -t) % s) / s * s + (v - 1 + -t) % s
def endU (s u t v n : Int) : Int := if n - lastU s u t v n * u < u then n - lastU s u t v n * u else u
/-- The length in one formula. -/
def lenC (s u t v n : Int) : Int := if (n + u - 1) / u ≤ (v - 1 + -t) % s then 0 else ((n + u - 1) / u - 1 - (v - 1 + -t) % s) / s * u + endU s u t v n

theorem lenC_is {s u t v n : Int} (s1 : 1 ≤ s) (u1 : 1 ≤ u) (v0 : 1 ≤ v) (v1 : v ≤ s) : IsLen s u t v n (lenC s u t v n) := by
  have hc0 := Int.emod_nonneg (v - 1 + -t) (show s ≠ 0 by omega)
  have hc1 := Int.emod_lt_of_pos (v - 1 + -t) (show 0 < s by omega)
  have hun : ∀ q, q ≤ (n + u - 1) / u - 1 ↔ q * u < n := fun q => units_iff u1
  have hbk : ∀ a, 0 ≤ a → 0 ≤ bck s u t v a ∧ srv s u t (bck s u t v a) = v ∧ pos s u (bck s u t v a) = a := fun a a0 => where_bck s1 u1 v0 v1 a0
  have hb : ∀ a, bck s u t v a = (a / u * s + (v - 1 + -t) % s) * u + a % u := fun a => rfl
  have hsb : ∀ x, srv s u t x = v → x / u % s = (v - 1 + -t) % s := fun x hx => by rw [← srv_back (t := t), hx]
  unfold lenC endU lastU
  generalize (v - 1 + -t) % s = c at *
  generalize (n + u - 1) / u = N at *
  have key : ∀ x, 0 ≤ x → x < n → srv s u t x = v → x / u = x / u / s * s + c ∧ x / u ≤ N - 1 := fun x x0 x1 hx => by
    have h1 := split_mul (x / u) s
    rw [hsb x hx] at h1
    refine ⟨h1.symm, (hun _).2 ?_⟩
    have := split_mul x u
    have := Int.emod_nonneg x (show u ≠ 0 by omega)
    omega
  by_cases hN : N ≤ c
  · rw [if_pos hN]
    refine ⟨fun x x0 x1 hx => ?_, .inl rfl⟩
    obtain ⟨h1, h2⟩ := key x x0 x1 hx
    have r0 : 0 ≤ x / u / s * s := Int.mul_nonneg (Int.ediv_nonneg (Int.ediv_nonneg x0 (by omega)) (by omega)) (by omega)
    omega
  · rw [if_neg hN]
    have hrow : (N - 1 - c) / s * s ≤ N - 1 - c := Int.ediv_mul_le _ (by omega)
    have hR : ∀ r, r * s ≤ N - 1 - c → r ≤ (N - 1 - c) / s := fun r h => (Int.le_ediv_iff_mul_le (by omega)).2 h
    have hR0 : 0 ≤ (N - 1 - c) / s := Int.ediv_nonneg (by omega) (by omega)
    generalize (N - 1 - c) / s = R at *
    have hlast : (R * s + c) * u < n := (hun _).1 (by omega)
    obtain ⟨m, hm⟩ : ∃ m, m = if n - (R * s + c) * u < u then n - (R * s + c) * u else u := ⟨_, rfl⟩
    rw [← hm]
    have m1 : 1 ≤ m ∧ m ≤ u ∧ (R * s + c) * u + m ≤ n := by
      rw [hm]; split <;> omega
    refine ⟨fun x x0 x1 hx => ?_, .inr ?_⟩
    · obtain ⟨h1, h2⟩ := key x x0 x1 hx
      have e1 := Int.emod_lt_of_pos x (show 0 < u by omega)
      have hxs := split_mul x u
      have hr : x / u / s ≤ R := hR _ (by omega)
      unfold pos
      rcases Int.lt_or_eq_of_le hr with hl | he
      · have hmul : (x / u / s + 1) * u ≤ R * u := Int.mul_le_mul_of_nonneg_right (by omega) (by omega)
        rw [Int.add_mul] at hmul
        omega
      · rw [he] at h1 ⊢
        rw [h1] at hxs
        rw [hm]
        split <;> omega
    · have ha : 0 ≤ R * u + (m - 1) := by have := Int.mul_nonneg hR0 (show 0 ≤ u by omega); omega
      obtain ⟨b0, b1, b2⟩ := hbk _ ha
      have d1 : (R * u + (m - 1)) / u = R := by rw [Int.add_comm, Int.add_mul_ediv_right _ _ (by omega), Int.ediv_eq_zero_of_lt (by omega) (by omega)]; omega
      have d2 : (R * u + (m - 1)) % u = m - 1 := by rw [Int.add_comm, Int.add_mul_emod_self_right, Int.emod_eq_of_lt (by omega) (by omega)]
      refine ⟨_, b0, ?_, b1, by rw [b2]; omega⟩
      rw [hb, d1, d2]
      omega

theorem lenC_eq {s u t v : Int} (s1 : 1 ≤ s) (u1 : 1 ≤ u) (v0 : 1 ≤ v) (v1 : v ≤ s) (n : Nat) : lenC s u t v n = lenR s u t v n :=
  (lenC_is s1 u1 v0 v1).eq s1 u1 (lenR_is s1 u1 n)

set_option maxHeartbeats 1000000 in
theorem rlength_any (s u t v : Int) (n : Nat) (N : Int) (hN : N = n) (w : World) (h : Rt s u t) (n1 : N ≤ 1024) :
    Calls Try.prog 23 #[.agg #[.int .i64 s, .int .i64 u, .int .i64 t], .int .i64 v, .int .i64 N] w fun e w' => e = .returned (.int .i64 (lenR s u t v n)) ∧ Only [] w w' := by
  have H := Lib.hid h
  have HN := Lib.hid hN
  have hb : ∀ j, 0 ≤ lenR s u t v j ∧ lenR s u t v j ≤ j := fun j => lenR_bd h.1 h.2.2.1 j
  have HB := Lib.hid hb
  clear h hN hb
  go_enter Try.func23, Try.ntmps23
  go_wp2_with fail
  go_loopw [7, 8] (fun m i wr => ∃ j : Nat, (j : Int) ≤ N ∧ m = .int .i64 (lenR s u t v j) ∧ i = .int .i64 j ∧ Only [] (w.alloc (.cells #[.int .i64 s, .int .i64 u, .int .i64 t] 23)) wr) (fun _ i _ => (N - intOf i).toNat)
  case atStart => exact ⟨0, by have := HN.out; omega, rfl, rfl, Only.refl _ _⟩
  case round =>
    obtain ⟨j, j1, rfl, rfl, kr⟩ := hrel
    obtain ⟨c0, c1, c2⟩ := box3 kr
    obtain ⟨b0, b1⟩ := HB.out j
    by_cases hlt : (j : Int) < N
    · have hp0 := (pos_row (x := j) H.out.1 H.out.2.2.1 (by omega)).1
      have hp1 := pos_le (x := j) H.out.1 H.out.2.2.1 (by omega)
      have hstep : lenR s u t v (j + 1) = if srv s u t j = v ∧ lenR s u t v j ≤ pos s u j then pos s u j + 1 else lenR s u t v j := rfl
      by_cases m1 : srv s u t j = v
      · have q1 : (srv s u t j == v) = true := by simp [m1]
        by_cases m2 : lenR s u t v j ≤ pos s u j
        · rw [if_pos ⟨m1, m2⟩] at hstep
          replace hstep := Lib.hid hstep
          clear m1
          go_wp2_with fail
          refine (rwhere_any s u t j _ H.out (by omega) (by omega)).mono ?_; rintro e w2 ⟨rfl, k2⟩
          go_wp2_with fail
          go_roundw
          case rel => exact ⟨j + 1, by omega, by rw [hstep.out], by go_num, kr.trans k2⟩
          case measure => simp [intOf]; omega
        · rw [if_neg (fun h => m2 h.2)] at hstep
          replace hstep := Lib.hid hstep
          have q2 : decide (lenR s u t v j ≤ pos s u j) = false := by simp; omega
          clear m1 m2
          go_wp2_with fail
          refine (rwhere_any s u t j _ H.out (by omega) (by omega)).mono ?_; rintro e w2 ⟨rfl, k2⟩
          go_wp2_with fail
          go_roundw
          case rel => exact ⟨j + 1, by omega, by rw [hstep.out], by go_num, kr.trans k2⟩
          case measure => simp [intOf]; omega
      · rw [if_neg (fun h => m1 h.1)] at hstep
        replace hstep := Lib.hid hstep
        have q1 : (srv s u t j == v) = false := by simp [m1]
        clear m1
        go_wp2_with fail
        refine (rwhere_any s u t j _ H.out (by omega) (by omega)).mono ?_; rintro e w2 ⟨rfl, k2⟩
        go_wp2_with fail
        go_roundw
        case rel => exact ⟨j + 1, by omega, by rw [hstep.out], by go_num, kr.trans k2⟩
        case measure => simp [intOf]; omega
    · have hj : j = n := by have := HN.out; omega
      subst hj
      go_wp2
      go_ret
      exact ⟨rfl, kr.boxed⟩

theorem len_no (s u t v n : Int) (w : World) (h : ¬ (Rt s u t ∧ 1 ≤ v ∧ v ≤ s ∧ 0 ≤ n ∧ n ≤ 1024)) :
    Calls Try.prog 22 #[.agg #[.int .i64 s, .int .i64 u, .int .i64 t], .int .i64 v, .int .i64 n] w fun e w' => e = .returned (.tuple #[.int .i64 0, .int .i64 1]) ∧ Only [] w w' := by
  by_cases hs : Rt s u t ∧ 1 ≤ v ∧ v ≤ s
  · obtain ⟨hr, v0, v1⟩ := hs
    by_cases h0 : n < 0
    · clear h
      go_enter Try.func22, Try.ntmps22
      go_wp2_with fail
      refine (serves_yes s u t v _ hr v0 v1).mono ?_; rintro e w1 ⟨rfl, k1⟩
      go_wp2_with fail
      go_ret2
      exact ⟨rfl, k1.boxed⟩
    · have d0 : decide (n < 0) = false := by simp; omega
      have d1 : decide (1024 < n) = true := by
        have : ¬ n ≤ 1024 := fun h1 => h ⟨hr, v0, v1, by omega, h1⟩
        simp; omega
      clear h h0
      go_enter Try.func22, Try.ntmps22
      go_wp2_with fail
      refine (serves_yes s u t v _ hr v0 v1).mono ?_; rintro e w1 ⟨rfl, k1⟩
      go_wp2_with fail
      go_ret2
      exact ⟨rfl, k1.boxed⟩
  · clear h
    go_enter Try.func22, Try.ntmps22
    go_wp2_with fail
    refine (serves_no s u t v _ hs).mono ?_; rintro e w1 ⟨rfl, k1⟩
    go_wp2_with fail
    go_ret2
    exact ⟨rfl, k1.boxed⟩

theorem unit_zero (s u t v : Int) (w : World) (h : Rt s u t) (v0 : 1 ≤ v) (v1 : v ≤ s) :
    Calls Try.prog 26 #[.agg #[.int .i64 s, .int .i64 u, .int .i64 t], .int .i64 v, .int .i64 0] w fun e w' => e = .returned (.tuple #[.int .i64 ((v - 1 + -t) % s), .bool true]) ∧ Only [] w w' := by
  have := unit_ok s u t v 0 w h v0 v1 (by omega) (by omega)
  rw [Int.zero_mul, Int.zero_add] at this
  exact this

set_option maxHeartbeats 1000000 in
theorem len_ok (s u t v n : Int) (w : World) (h : Rt s u t) (v0 : 1 ≤ v) (v1 : v ≤ s) (n0 : 0 ≤ n) (n1 : n ≤ 1024) :
    Calls Try.prog 22 #[.agg #[.int .i64 s, .int .i64 u, .int .i64 t], .int .i64 v, .int .i64 n] w fun e w' => e = .returned (.tuple #[.int .i64 (lenC s u t v n), .int .i64 0]) ∧ Only [] w w' := by
  have R := Lib.hid h
  obtain ⟨s1, s2, u1, u2, t1, t2⟩ := h
  have N0 : 0 ≤ (n + u - 1) / u := Int.ediv_nonneg (by omega) (by omega)
  have N1 : (n + u - 1) / u ≤ n + u - 1 := Int.ediv_le_self u (by omega)
  have c0 := Int.emod_nonneg (v - 1 + -t) (show s ≠ 0 by omega)
  have c1 := Int.emod_lt_of_pos (v - 1 + -t) (show 0 < s by omega)
  have hun : ∀ q, q ≤ (n + u - 1) / u - 1 ↔ q * u < n := fun q => units_iff u1
  have HU := fun w => unit_zero s u t v w R.out v0 v1
  have HV := fun r w => unit_ok s u t v r w R.out v0 v1
  unfold lenC endU lastU
  obtain ⟨c, hc⟩ : ∃ c, c = (v - 1 + -t) % s := ⟨_, rfl⟩
  obtain ⟨N, hN⟩ : ∃ N, N = (n + u - 1) / u := ⟨_, rfl⟩
  rw [← hc] at c0 c1 HU HV ⊢
  rw [← hN] at N0 N1 hun ⊢
  replace hc := Lib.hid hc
  by_cases hNc : N ≤ c
  · rw [if_pos hNc]
    replace hun := Lib.hid hun
    replace hN := Lib.hid hN
    replace HU := Lib.hid HU
    replace HV := Lib.hid HV
    go_enter Try.func22, Try.ntmps22
    go_wp2_with fail
    refine (serves_yes s u t v _ R.out v0 v1).mono ?_; rintro e w1 ⟨rfl, k1⟩
    obtain ⟨d0, d1, d2⟩ := box3 k1
    go_wp2_with fail
    rw [← hN.out]
    refine (HU.out _).mono ?_; rintro e w2 ⟨rfl, k2⟩
    go_wp2_with fail
    go_ret2
    exact ⟨rfl, (k1.trans k2).boxed⟩
  · rw [if_neg hNc]
    have hrow : (N - 1 - c) / s * s ≤ N - 1 - c := Int.ediv_mul_le _ (by omega)
    have hr0 : 0 ≤ (N - 1 - c) / s := Int.ediv_nonneg (by omega) (by omega)
    have hr1 : (N - 1 - c) / s ≤ N - 1 - c := Int.ediv_le_self s (by omega)
    have hg1 := conv_whole (whole_ofInt (z := (N - 1 - c) / s) (by omega)) (by omega) (by omega)
    have hpl := fun w => place_yes (N - 1 - c) s w s1 s2 (by omega) (by omega)
    obtain ⟨row, hrw⟩ : ∃ r, r = (N - 1 - c) / s := ⟨_, rfl⟩
    rw [← hrw] at hrow hr0 hr1 hg1 hpl ⊢
    have hHV := fun w => HV row w hr0 (by omega)
    have l0 : 0 ≤ row * s := Int.mul_nonneg hr0 (by omega)
    have l1 : (row * s + c) * u < n := (hun _).1 (by omega)
    have l2 : 0 ≤ (row * s + c) * u := Int.mul_nonneg (by omega) (by omega)
    have l3 : 0 ≤ row * u := Int.mul_nonneg hr0 (by omega)
    have l4 : row * u ≤ (row * s + c) * u := Int.mul_le_mul_of_nonneg_right (by have : row * 1 ≤ row * s := Int.mul_le_mul_of_nonneg_left s1 hr0; omega) (by omega)
    replace hun := Lib.hid hun
    replace hN := Lib.hid hN
    replace hrw := Lib.hid hrw
    replace HU := Lib.hid HU
    replace hpl := Lib.hid hpl
    replace hHV := Lib.hid hHV
    clear HV
    have g5 : decide (N ≤ c) = false := by simp; omega
    by_cases hmn : n - (row * s + c) * u < u
    all_goals
      go_enter Try.func22, Try.ntmps22
      go_wp2_with fail
      refine (serves_yes s u t v _ R.out v0 v1).mono ?_; rintro e w1 ⟨rfl, k1⟩
      obtain ⟨d0, d1, d2⟩ := box3 k1
      go_wp2_with fail
      rw [← hN.out]
      refine (HU.out _).mono ?_; rintro e w2 ⟨rfl, k2⟩
      obtain ⟨d0, d1, d2⟩ := box3 (k1.trans k2)
      go_wp2_with fail
      refine (hpl.out _).mono ?_; rintro e w3 ⟨rfl, m, rfl⟩
      go_wp2_with fail
      refine (hHV.out _).mono ?_; rintro e w4 ⟨rfl, k4⟩
      have k5 := ((k1.trans k2).drewN m).trans k4
      obtain ⟨d0, d1, d2⟩ := box3 k5
      go_wp2_with fail
      go_ret2
      exact ⟨by simp, k5.boxed⟩

end Go.Proofs.Ytiadhmjmiaamcaa
