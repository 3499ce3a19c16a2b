/- StripeJoins: the fragments of two requests, one behind the other, are those of the whole, cut at that place. -/
import Derived.Test.YtiadhmjmiaamcaaWholeL
namespace Go.Proofs.Ytiadhmjmiaamcaa
open Go.RowKit Go.Proofs.Ytiadhmjmiaamcaa.Fl

theorem div_next {u a : Int} (u1 : 1 ≤ u) : ((a + 1) % u = 0 ∧ (a + 1) / u = a / u + 1) ∨ ((a + 1) % u ≠ 0 ∧ (a + 1) / u = a / u) := by
  have e0 := Int.emod_nonneg a (show u ≠ 0 by omega)
  have e1 := Int.emod_lt_of_pos a (show 0 < u by omega)
  rcases Int.lt_or_eq_of_le (show a % u + 1 ≤ u by omega) with h | h
  · obtain ⟨h1, h2⟩ := same_unit u1 (by decide) h
    exact .inr ⟨by omega, h1⟩
  · have p := split_mul a u
    have e : a + 1 = (a / u + 1) * u := by rw [Int.add_mul]; omega
    exact .inl ⟨by rw [e, Int.mul_emod_left], by rw [e, Int.mul_ediv_cancel _ (by omega)]⟩

/-- How many fragments there are. -/
theorem frs_count {s u t o : Int} (u1 : 1 ≤ u) (j : Nat) : ((frs s u t o (j + 1)).length : Int) = (o + j) / u - o / u + 1 := by
  induction j with
  | zero =>
    rw [frs, if_pos (.inr rfl)]
    simp [frs]
  | succ j ih =>
    rw [frs]
    have hd := div_next (a := o + j) u1
    rw [show o + (j : Int) + 1 = o + ((j + 1 : Nat) : Int) by omega] at hd
    rcases hd with ⟨h1, h2⟩ | ⟨h1, h2⟩
    · rw [if_pos (.inl h1), List.length_append, h2]
      simp
      omega
    · rw [if_neg (fun h => h.elim h1 (frs_some _ (by omega))), bump_length, h2]
      exact ih

theorem joins_count {s u t o : Int} (u1 : 1 ≤ u) (F G : Nat) :
    ((frs s u t o F).length : Int) + (frs s u t (o + F) G).length - (frs s u t o (F + G)).length = 0 ∨
    (((frs s u t o F).length : Int) + (frs s u t (o + F) G).length - (frs s u t o (F + G)).length = 1 ∧ 0 < F ∧ 0 < G ∧ (o + F) % u ≠ 0) := by
  rcases Nat.eq_zero_or_pos F with rfl | hF
  · left
    rw [Nat.zero_add, show o + ((0 : Nat) : Int) = o by omega]
    simp [frs]
  rcases Nat.eq_zero_or_pos G with rfl | hG
  · left
    rw [Nat.add_zero]
    simp [frs]
  obtain ⟨f, rfl⟩ : ∃ f, F = f + 1 := ⟨F - 1, by omega⟩
  obtain ⟨g, rfl⟩ : ∃ g, G = g + 1 := ⟨G - 1, by omega⟩
  have h1 := frs_count (s := s) (t := t) (o := o) u1 f
  have h2 := frs_count (s := s) (t := t) (o := o + ((f + 1 : Nat) : Int)) u1 g
  have h3 := frs_count (s := s) (t := t) (o := o) u1 (f + 1 + g)
  rw [show f + 1 + g + 1 = f + 1 + (g + 1) by omega] at h3
  rw [show o + ((f + 1 + g : Nat) : Int) = o + ((f + 1 : Nat) : Int) + g by omega] at h3
  have hd := div_next (a := o + f) u1
  rw [show o + (f : Int) + 1 = o + ((f + 1 : Nat) : Int) by omega] at hd
  rw [h1, h2, h3]
  rcases hd with ⟨e1, e2⟩ | ⟨e1, e2⟩
  · left; omega
  · right
    exact ⟨by omega, by omega, by omega, e1⟩

set_option maxRecDepth 100000 in
set_option maxHeartbeats 4000000 in
theorem stripeJoins_walk (w : World) (s u t o f g : Int) (o8 : -9223372036854775808 ≤ o) (o9 : o ≤ 9223372036854775807) :
    Calls Try.prog 10 #[.agg #[.int .i64 s, .int .i64 u, .int .i64 t], .int .i64 o, .int .i64 f, .int .i64 g] w fun e w' => e = .returned (.bool true) ∧ Only [] w w' := by
  by_cases h0 : f < 0
  · go_enter Try.func10, Try.ntmps10
    go_wp2_with fail
    refine (alive_any _).mono ?_; rintro e w1 ⟨rfl, j1⟩
    have k1 := j1
    obtain ⟨c0, c1, c2⟩ := box3 k1
    go_wp2_with fail
    refine (alive_any _).mono ?_; rintro e w2 ⟨rfl, j2⟩
    have k2 := k1.trans j2
    clear c0 c1 c2
    obtain ⟨c0, c1, c2⟩ := box3 k2
    go_wp2
    go_ret
    exact ⟨rfl, k2.boxed⟩
  have d0 : decide (f < 0) = false := by simp; omega
  by_cases h1 : 1024 < f
  · have d1 : decide (1024 < f) = true := by simp; omega
    clear h0 h1
    go_enter Try.func10, Try.ntmps10
    go_wp2_with fail
    refine (alive_any _).mono ?_; rintro e w1 ⟨rfl, j1⟩
    have k1 := j1
    obtain ⟨c0, c1, c2⟩ := box3 k1
    go_wp2_with fail
    refine (alive_any _).mono ?_; rintro e w2 ⟨rfl, j2⟩
    have k2 := k1.trans j2
    clear c0 c1 c2
    obtain ⟨c0, c1, c2⟩ := box3 k2
    go_wp2
    go_ret
    exact ⟨rfl, k2.boxed⟩
  have d1 : decide (1024 < f) = false := by simp; omega
  by_cases h2 : g < 0
  · clear h0 h1
    go_enter Try.func10, Try.ntmps10
    go_wp2_with fail
    refine (alive_any _).mono ?_; rintro e w1 ⟨rfl, j1⟩
    have k1 := j1
    obtain ⟨c0, c1, c2⟩ := box3 k1
    go_wp2_with fail
    refine (alive_any _).mono ?_; rintro e w2 ⟨rfl, j2⟩
    have k2 := k1.trans j2
    clear c0 c1 c2
    obtain ⟨c0, c1, c2⟩ := box3 k2
    go_wp2
    go_ret
    exact ⟨rfl, k2.boxed⟩
  have d2 : decide (g < 0) = false := by simp; omega
  by_cases h3 : 1024 < g
  · have d3 : decide (1024 < g) = true := by simp; omega
    clear h0 h1 h2 h3
    go_enter Try.func10, Try.ntmps10
    go_wp2_with fail
    refine (alive_any _).mono ?_; rintro e w1 ⟨rfl, j1⟩
    have k1 := j1
    obtain ⟨c0, c1, c2⟩ := box3 k1
    go_wp2_with fail
    refine (alive_any _).mono ?_; rintro e w2 ⟨rfl, j2⟩
    have k2 := k1.trans j2
    clear c0 c1 c2
    obtain ⟨c0, c1, c2⟩ := box3 k2
    go_wp2
    go_ret
    exact ⟨rfl, k2.boxed⟩
  have d3 : decide (1024 < g) = false := by simp; omega
  have f0 : 0 ≤ f := by omega
  have f1 : f ≤ 1024 := by omega
  have g0 : 0 ≤ g := by omega
  have g1 : g ≤ 1024 := by omega
  clear h0 h1 h2 h3
  by_cases hk : Rt s u t ∧ 0 ≤ o ∧ 0 ≤ f + g ∧ o + (f + g) ≤ 1024
  · obtain ⟨hr, o0, _, hofg⟩ := hk
    have R := Lib.hid hr
    obtain ⟨s1, s2, u1, u2, t1, t2⟩ := hr
    have hcount := joins_count (s := s) (t := t) (o := o) u1 f.toNat g.toNat
    have N1 : f + g = ((f.toNat + g.toNat : Nat) : Int) := by omega
    have N2 : f = (f.toNat : Int) := by omega
    have N3 : g = (g.toNat : Int) := by omega
    have hch1 := frs_chain (s := s) (t := t) (o := o) u1 (f.toNat + g.toNat)
    have hch2 := frs_chain (s := s) (t := t) (o := o) u1 f.toNat
    have hch3 := frs_chain (s := s) (t := t) (o := o + f) u1 g.toNat
    have hok : ∀ o' x, Okay s u t o' x → 1 ≤ x.len ∧ x.len ≤ u := fun o' x h => okay_len u1 h
    have hle : ∀ o' (L : List Fg) a b, Chain (Okay s u t o') a L b → a ≤ b := fun o' L a b h => chain_le (fun x hx => by have := hx.2.2.1; omega) h
    have hl1 := frs_length (s := s) (u := u) (t := t) (o := o) (f.toNat + g.toNat)
    have hl2 := frs_length (s := s) (u := u) (t := t) (o := o) f.toNat
    have hl3 := frs_length (s := s) (u := u) (t := t) (o := o + f) g.toNat
    have hmore : ((frs s u t o f.toNat).length : Int) + (frs s u t (o + f) g.toNat).length - (frs s u t o (f.toNat + g.toNat)).length = 0 ∨ (((frs s u t o f.toNat).length : Int) + (frs s u t (o + f) g.toNat).length - (frs s u t o (f.toNat + g.toNat)).length = 1 ∧ 0 < f ∧ 0 < g ∧ (o + f) % u ≠ 0) := by
      rw [← N2] at hcount
      exact hcount.imp id (fun h => ⟨h.1, by omega, by omega, h.2.2.2⟩)
    rw [← N1] at hch1
    rw [← N2] at hch2
    rw [← N3] at hch3
    replace N1 := Lib.hid N1
    replace N2 := Lib.hid N2
    replace N3 := Lib.hid N3
    clear hcount
    generalize hL1 : frs s u t o (f.toNat + g.toNat) = L1 at *
    generalize hL2 : frs s u t o f.toNat = L2 at *
    generalize hL3 : frs s u t (o + f) g.toNat = L3 at *
    obtain ⟨n1, hn1⟩ : ∃ n, n = L1.length := ⟨_, rfl⟩
    obtain ⟨n2, hn2⟩ : ∃ n, n = L2.length := ⟨_, rfl⟩
    obtain ⟨n3, hn3⟩ : ∃ n, n = L3.length := ⟨_, rfl⟩
    rw [← hn1, ← hn2, ← hn3] at hmore
    rw [← hn1] at hl1
    rw [← hn2] at hl2
    rw [← hn3] at hl3
    have b1 : n1 ≤ 1024 := by have := N1.out; omega
    have b2 : n2 ≤ 1024 := by have := N2.out; omega
    have b3 : n3 ≤ 1024 := by have := N3.out; omega
    clear hl1 hl2 hl3
    replace hL1 := Lib.hid hL1
    replace hL2 := Lib.hid hL2
    replace hL3 := Lib.hid hL3
    replace hn1 := Lib.hid hn1
    replace hn2 := Lib.hid hn2
    replace hn3 := Lib.hid hn3
    replace hch1 := Lib.hid hch1
    replace hch2 := Lib.hid hch2
    replace hch3 := Lib.hid hch3
    replace hmore := Lib.hid hmore
    replace hok := Lib.hid hok
    replace hle := Lib.hid hle
    go_enter Try.func10, Try.ntmps10
    go_wp2_with fail
    refine (alive_any _).mono ?_; rintro e w1 ⟨rfl, j1⟩
    have k1 := j1
    obtain ⟨c0, c1, c2⟩ := box3 k1
    go_wp2_with fail
    refine (frags_ok s u t o (f + g) (f.toNat + g.toNat) N1.out _ R.out (by omega) (by omega) (by omega)).mono ?_; rintro e w2 ⟨v, rfl, hm⟩
    rw [hL1.out] at hm
    have k2 := k1.trans hm.only
    clear c0 c1 c2
    obtain ⟨c0, c1, c2⟩ := box3 k2
    obtain ⟨A2, q2, rfl, el2, _, hA2, _⟩ := hm.shape fgE_length
    rw [← hn1.out]
    clear hm
    go_wp2_with fail
    refine (frags_ok s u t o f f.toNat N2.out _ R.out (by omega) (by omega) (by omega)).mono ?_; rintro e w3 ⟨v, rfl, hm⟩
    rw [hL2.out] at hm
    have k3 := k2.trans hm.only
    clear c0 c1 c2
    obtain ⟨c0, c1, c2⟩ := box3 k3
    have el2 := el2.kept hm.only (by simp)
    obtain ⟨A3, q3, rfl, el3, _, hA3, _⟩ := hm.shape fgE_length
    rw [← hn2.out]
    clear hm
    go_wp2_with fail
    refine (frags_ok s u t (o + f) g g.toNat N3.out _ R.out (by omega) (by omega) (by omega)).mono ?_; rintro e w4 ⟨v, rfl, hm⟩
    rw [hL3.out] at hm
    have k4 := k3.trans hm.only
    clear c0 c1 c2
    obtain ⟨c0, c1, c2⟩ := box3 k4
    have el2 := el2.kept hm.only (by simp)
    have el3 := el3.kept hm.only (by simp)
    obtain ⟨A4, q4, rfl, el4, _, hA4, _⟩ := hm.shape fgE_length
    rw [← hn3.out]
    clear hm
    replace el2 := Lib.hid el2
    replace el3 := Lib.hid el3
    replace el4 := Lib.hid el4
    clear hA2 hA3 hA4
    go_wp2_with fail
    go_loopw [15, 16] (fun p q wr => ∃ (i : Nat) (a : Int), i ≤ n1 ∧ p = .int .i64 (a) ∧ q = .int .i64 i ∧ 0 ≤ a ∧ Hid (Chain (Okay s u t o) a (L1.drop i) (f + g)) ∧ w4 = wr) (fun _ q _ => n1 - (intOf q).toNat)
    case atStart => exact ⟨0, 0, by omega, rfl, rfl, by omega, Lib.hid (by rw [List.drop_zero]; exact hch1.out), rfl⟩
    case round =>
      obtain ⟨i, a, hi, rfl, rfl, a0, hc, rfl⟩ := hrel
      have ha := hle.out _ _ _ _ hc.out
      by_cases hlt : i < n1
      · have hi' : i < L1.length := by have := hn1.out; omega
        obtain ⟨hat, hok1, hnext⟩ := chain_get hi' hc.out
        obtain ⟨z1, z2⟩ := hok.out _ _ hok1
        have ha2 := hle.out _ _ _ _ hnext
        obtain ⟨gg, oo, rfl, _, hel⟩ := el2.out.get hi'
        have x3 := (fgs_at hel hi').2.2.2
        clear hel hat hok1 hc
        generalize hx : L1[i].len = x at *
        replace hx := Lib.hid hx
        replace hnext := Lib.hid hnext
        go_wp2_with fail
        go_roundw
        case rel => exact ⟨i + 1, a + x, by omega, by go_num, by go_num, by omega, hnext, trivial⟩
        case measure => simp [intOf]; omega
      · have hal : (f + g) = a := by
          have h := hc.out
          rw [List.drop_eq_nil_of_le (by have := hn1.out; omega)] at h
          exact h.symm
        clear hc ha
        subst hal
        go_wp2_with fail
        go_loopw [17, 18] (fun p q wr => ∃ (i : Nat) (a : Int), i ≤ n2 ∧ p = .int .i64 (a) ∧ q = .int .i64 i ∧ 0 ≤ a ∧ Hid (Chain (Okay s u t o) a (L2.drop i) f) ∧ w4 = wr) (fun _ q _ => n2 - (intOf q).toNat)
        case atStart => exact ⟨0, 0, by omega, rfl, rfl, by omega, Lib.hid (by rw [List.drop_zero]; exact hch2.out), rfl⟩
        case round =>
          obtain ⟨i, a, hi, rfl, rfl, a0, hc, rfl⟩ := hrel
          have ha := hle.out _ _ _ _ hc.out
          by_cases hlt : i < n2
          · have hi' : i < L2.length := by have := hn2.out; omega
            obtain ⟨hat, hok1, hnext⟩ := chain_get hi' hc.out
            obtain ⟨z1, z2⟩ := hok.out _ _ hok1
            have ha2 := hle.out _ _ _ _ hnext
            obtain ⟨gg, oo, rfl, _, hel⟩ := el3.out.get hi'
            have x3 := (fgs_at hel hi').2.2.2
            clear hel hat hok1 hc
            generalize hx : L2[i].len = x at *
            replace hx := Lib.hid hx
            replace hnext := Lib.hid hnext
            go_wp2_with fail
            go_roundw
            case rel => exact ⟨i + 1, a + x, by omega, by go_num, by go_num, by omega, hnext, trivial⟩
            case measure => simp [intOf]; omega
          · have hal : f = a := by
              have h := hc.out
              rw [List.drop_eq_nil_of_le (by have := hn2.out; omega)] at h
              exact h.symm
            clear hc ha
            subst hal
            go_wp2_with fail
            go_loopw [17, 19] (fun p q wr => ∃ (i : Nat) (a : Int), i ≤ n3 ∧ p = .int .i64 (f + a) ∧ q = .int .i64 i ∧ 0 ≤ a ∧ Hid (Chain (Okay s u t (o + f)) a (L3.drop i) g) ∧ w4 = wr) (fun _ q _ => n3 - (intOf q).toNat)
            case atStart => exact ⟨0, 0, by omega, by go_num, rfl, by omega, Lib.hid (by rw [List.drop_zero]; exact hch3.out), rfl⟩
            case round =>
              obtain ⟨i, a, hi, rfl, rfl, a0, hc, rfl⟩ := hrel
              have ha := hle.out _ _ _ _ hc.out
              by_cases hlt : i < n3
              · have hi' : i < L3.length := by have := hn3.out; omega
                obtain ⟨hat, hok1, hnext⟩ := chain_get hi' hc.out
                obtain ⟨z1, z2⟩ := hok.out _ _ hok1
                have ha2 := hle.out _ _ _ _ hnext
                obtain ⟨gg, oo, rfl, _, hel⟩ := el4.out.get hi'
                have x3 := (fgs_at hel hi').2.2.2
                clear hel hat hok1 hc
                generalize hx : L3[i].len = x at *
                replace hx := Lib.hid hx
                replace hnext := Lib.hid hnext
                go_wp2_with fail
                go_roundw
                case rel => exact ⟨i + 1, a + x, by omega, by go_num, by go_num, by omega, hnext, trivial⟩
                case measure => simp [intOf]; omega
              · have hal : g = a := by
                  have h := hc.out
                  rw [List.drop_eq_nil_of_le (by have := hn3.out; omega)] at h
                  exact h.symm
                clear hc ha
                subst hal
                go_wp2_with fail
                refine (alive_any _).mono ?_; rintro e w5 ⟨rfl, j5⟩
                have k5 := k4.trans j5
                clear c0 c1 c2
                obtain ⟨c0, c1, c2⟩ := box3 k5
                rcases hmore.out with hm | ⟨hm, m1, m2, m3⟩
                · have q0 : ((n2 : Int) + n3 - n1 == 0) = true := by simp; omega
                  clear hm
                  go_wp2
                  go_ret
                  exact ⟨rfl, k5.boxed⟩
                · have q0 : ((n2 : Int) + n3 - n1 == 0) = false := by simp; omega
                  have q1 : ((n2 : Int) + n3 - n1 == 1) = true := by simp; omega
                  have q2 : ((o + f) % u != 0) = true := by simp; exact m3
                  clear hm m3
                  go_wp2
                  go_ret
                  exact ⟨rfl, k5.boxed⟩
  · have X := Lib.hid hk
    clear hk
    go_enter Try.func10, Try.ntmps10
    go_wp2_with fail
    refine (alive_any _).mono ?_; rintro e w1 ⟨rfl, j1⟩
    have k1 := j1
    obtain ⟨c0, c1, c2⟩ := box3 k1
    go_wp2_with fail
    refine (frags_no s u t o (f + g) _ X.out (by omega)).mono ?_; rintro e w2 ⟨rfl, j2⟩
    have k2 := k1.trans j2
    clear c0 c1 c2
    obtain ⟨c0, c1, c2⟩ := box3 k2
    go_wp2_with fail
    refine (alive_any _).mono ?_; rintro e w3 ⟨rfl, j3⟩
    have k3 := k2.trans j3
    clear c0 c1 c2
    obtain ⟨c0, c1, c2⟩ := box3 k3
    go_wp2
    go_ret
    exact ⟨rfl, k3.boxed⟩

end Go.Proofs.Ytiadhmjmiaamcaa
