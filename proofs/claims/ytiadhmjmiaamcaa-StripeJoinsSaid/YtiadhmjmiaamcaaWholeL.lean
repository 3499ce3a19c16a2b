/- StripeWhole: fragments, put together, are the request. -/
import Derived.Test.YtiadhmjmiaamcaaAlive6
namespace Go.Proofs.Ytiadhmjmiaamcaa
open Go.RowKit Go.Proofs.Ytiadhmjmiaamcaa.Fl

theorem same_unit {u a k : Int} (u1 : 1 ≤ u) (k0 : 0 ≤ k) (h : a % u + k < u) : (a + k) / u = a / u ∧ (a + k) % u = a % u + k := by
  have e0 := Int.emod_nonneg a (show u ≠ 0 by omega)
  have h1 := rem_add u1 k0 h
  refine ⟨?_, h1⟩
  have p := split_mul a u
  have q := split_mul (a + k) u
  rw [h1] at q
  have hmul : (a + k) / u * u = a / u * u := by omega
  exact Int.eq_of_mul_eq_mul_right (show u ≠ 0 by omega) hmul

theorem srv_add {s u t a k : Int} (u1 : 1 ≤ u) (k0 : 0 ≤ k) (h : a % u + k < u) : srv s u t (a + k) = srv s u t a ∧ pos s u (a + k) = pos s u a + k := by
  obtain ⟨h1, h2⟩ := same_unit u1 k0 h
  unfold srv pos
  rw [h1, h2]
  exact ⟨rfl, by omega⟩

theorem chain_le {P : Fg → Prop} (hP : ∀ f, P f → 0 ≤ f.len) {l : List Fg} : ∀ {a b : Int}, Chain P a l b → a ≤ b := by
  induction l with
  | nil => intro a b h; have h : a = b := h; omega
  | cons f r ih => intro a b h; have := ih h.2.2; have := hP f h.2.1; omega

theorem chain_get {P : Fg → Prop} {l : List Fg} {a b : Int} {i : Nat} (hi : i < l.length) (h : Chain P a (l.drop i) b) : l[i].at_ = a ∧ P l[i] ∧ Chain P (a + l[i].len) (l.drop (i + 1)) b := by
  rw [List.drop_eq_getElem_cons hi] at h
  exact h

set_option maxRecDepth 100000 in
set_option maxHeartbeats 4000000 in
theorem stripeWhole_walk (w : World) (s u t o l : Int) (l9 : l ≤ 9223372036854775807) :
    Calls Try.prog 6 #[.agg #[.int .i64 s, .int .i64 u, .int .i64 t], .int .i64 o, .int .i64 l] w fun e w' => e = .returned (.bool true) ∧ Only [] w w' := by
  by_cases hk : Rt s u t ∧ 0 ≤ o ∧ 0 ≤ l ∧ o + l ≤ 1024
  · obtain ⟨hr, o0, l0, hol⟩ := hk
    have R := Lib.hid hr
    obtain ⟨s1, s2, u1, u2, t1, t2⟩ := hr
    have N := Lib.hid (show l = (l.toNat : Int) by omega)
    have hch := frs_chain (s := s) (t := t) (o := o) u1 l.toNat
    rw [← N.out] at hch
    have hlen : (frs s u t o l.toNat).length ≤ 1024 := Nat.le_trans (frs_length _) (by omega)
    have hchle : ∀ i a, Chain (Okay s u t o) a ((frs s u t o l.toNat).drop i) l → a ≤ l := fun i a h => chain_le (fun f hf => by have := hf.2.2.1; omega) h
    generalize hL : frs s u t o l.toNat = L at *
    replace hL := Lib.hid hL
    replace hch := Lib.hid hch
    replace hchle := Lib.hid hchle
    obtain ⟨n, hn⟩ : ∃ n, n = L.length := ⟨_, rfl⟩
    rw [← hn] at hlen
    replace hn := Lib.hid hn
    go_enter Try.func6, Try.ntmps6
    go_wp2_with fail
    refine (alive_any _).mono ?_; rintro e w1 ⟨rfl, k1⟩
    obtain ⟨c0, c1, c2⟩ := box3 k1
    go_wp2_with fail
    refine (frags_ok s u t o l l.toNat N.out _ R.out o0 l0 hol).mono ?_; rintro e w2 ⟨v, rfl, hm⟩
    rw [hL.out] at hm
    have k2 := k1.trans hm.only
    clear c0 c1 c2
    obtain ⟨c0, c1, c2⟩ := box3 k2
    obtain ⟨A, c, rfl, hel, _, _, _⟩ := hm.shape fgE_length
    clear hm
    rw [← hn.out]
    replace hel := Lib.hid hel
    go_wp2_with fail
    go_loopw [9, 10] (fun p q wr => ∃ (i : Nat) (a : Int), i ≤ n ∧ p = .int .i64 a ∧ q = .int .i64 i ∧ 0 ≤ a ∧ Hid (Chain (Okay s u t o) a (L.drop i) l) ∧ Only [] w2 wr) (fun _ q _ => n - (intOf q).toNat)
    case atStart => exact ⟨0, 0, by omega, rfl, rfl, by omega, Lib.hid (by rw [List.drop_zero]; exact hch.out), Only.refl _ _⟩
    case round =>
      obtain ⟨i, a, hi, rfl, rfl, a0, hc, kr⟩ := hrel
      clear c0 c1 c2
      have k3 := k2.trans kr
      obtain ⟨c0, c1, c2⟩ := box3 k3
      by_cases hlt : i < n
      · have hi' : i < L.length := by have := hn.out; omega
        obtain ⟨hat, hok, hnext⟩ := chain_get hi' hc.out
        obtain ⟨g, oo, rfl, _, hel'⟩ := (hel.out.kept kr (by simp)).get hi'
        obtain ⟨d0, d1, d2, d3⟩ := fgs_at hel' hi'
        clear hel'
        have hle2 := hchle.out _ _ hnext
        generalize L[i] = f at *
        obtain ⟨f0, f1, f2, f3⟩ := f
        simp only at d0 d1 d2 d3 hat hnext hle2
        subst hat
        obtain ⟨p1, p2, p3, p4, p5⟩ := hok
        simp only at p1 p2 p3 p4 p5
        have e0 := Int.emod_nonneg (o + f2) (show u ≠ 0 by omega)
        have q3 : f3 ≤ u := by omega
        have b1 : 0 ≤ f1 := by rw [p2]; exact (pos_row s1 u1 (by omega)).1
        have b2 : f1 ≤ 1024 := by have := pos_le (x := o + f2) s1 u1 (by omega); omega
        have hW : ∀ k : Int, 0 ≤ k → k < f3 → ∀ w, Calls Try.prog 12 #[.agg #[.int .i64 s, .int .i64 u, .int .i64 t], .int .i64 (o + f2 + k)] w fun e w' => e = .returned (.tuple #[.int .i64 f0, .int .i64 (f1 + k), .int .i64 0]) ∧ Only [] w w' := fun k k0 k1 w => by
          have h := where_ok s u t (o + f2 + k) w R.out (by omega) (by omega)
          obtain ⟨h1, h2⟩ := srv_add (s := s) (t := t) (a := o + f2) u1 k0 (by omega)
          rw [h1, h2, ← p1, ← p2] at h
          exact h
        replace hW := Lib.hid hW
        replace hnext := Lib.hid hnext
        clear p1 p2 p4 e0 hc
        obtain ⟨wo, hwo⟩ : ∃ x : World, x = wr := ⟨_, rfl⟩
        subst hwo
        have kal : Only [] wo (wo.alloc (.cells #[.int .i64 f0, .int .i64 f1, .int .i64 f2, .int .i64 f3] 43)) := (Only.refl [] wo).alloc _
        have bal : Blk (wo.alloc (.cells #[.int .i64 f0, .int .i64 f1, .int .i64 f2, .int .i64 f3] 43)) wo.heap.size 43 #[.int .i64 f0, .int .i64 f1, .int .i64 f2, .int .i64 f3] := Blk.new wo _ _
        have ka := k3.trans kal
        have kb := kr.trans kal
        obtain ⟨x0, x1, x2⟩ := box3 ka
        go_wp2_with fail
        generalize wo.alloc (.cells #[.int .i64 f0, .int .i64 f1, .int .i64 f2, .int .i64 f3] 43) = wa at *
        go_loopw [12] (fun q wr => ∃ k : Int, 0 ≤ k ∧ k ≤ f3 ∧ q = .int .i64 k ∧ Only [] wa wr) (fun q _ => (f3 - intOf q).toNat)
        case atStart => exact ⟨0, by omega, by omega, rfl, Only.refl _ _⟩
        case round =>
          obtain ⟨k, k0, kf, rfl, ki⟩ := hrel
          have kc := ka.trans ki
          clear c0 c1 c2 d0 d1 d2 d3 x0 x1 x2
          obtain ⟨c0, c1, c2⟩ := box3 kc
          have b4 := bal.kept ki (by simp)
          have d0 := b4.cell 0
          have d1 := b4.cell 1
          have d2 := b4.cell 2
          have d3 := b4.cell 3
          simp only [List.getElem?_toArray, List.getElem?_cons_zero, List.getElem?_cons_succ] at d0 d1 d2 d3
          by_cases hkl : k < f3
          · go_wp2_with fail
            refine (hW.out k k0 hkl _).mono ?_; rintro e w6 ⟨rfl, j6⟩
            have k6 := ki.trans j6
            clear d0 d1 d2 d3
            have b5 := bal.kept k6 (by simp)
            have d0 := b5.cell 0
            have d1 := b5.cell 1
            have d2 := b5.cell 2
            have d3 := b5.cell 3
            simp only [List.getElem?_toArray, List.getElem?_cons_zero, List.getElem?_cons_succ] at d0 d1 d2 d3
            clear b4 b5
            go_wp2_with fail
            go_roundw
            case rel => exact ⟨k + 1, by omega, by omega, by go_num, k6⟩
            case measure => simp [intOf]; omega
          · clear b4
            obtain rfl : k = f3 := by omega
            clear hkl kf
            have q5 : decide (k < k) = false := by simp
            replace hW := Lib.hid hW
            go_wp2_with fail
            go_roundw
            case rel => exact ⟨i + 1, f2 + k, by omega, by go_num, by go_num, by omega, hnext, kb.trans ki⟩
            case measure => simp [intOf]; omega
      · have hin : i = n := by omega
        have hal : a = l := by
          have h := hc.out
          rw [List.drop_eq_nil_of_le (by have := hn.out; omega)] at h
          exact h
        clear hc
        subst hal
        go_wp2_with fail
        refine (alive_any _).mono ?_; rintro e w4 ⟨rfl, j4⟩
        have k4 := k3.trans j4
        go_wp2
        go_ret
        exact ⟨rfl, k4.boxed⟩
  · have X := Lib.hid hk
    clear hk
    go_enter Try.func6, Try.ntmps6
    go_wp2_with fail
    refine (alive_any _).mono ?_; rintro e w1 ⟨rfl, j1⟩
    have k1 := j1
    obtain ⟨c0, c1, c2⟩ := box3 k1
    go_wp2_with fail
    refine (frags_no s u t o l _ X.out l9).mono ?_; rintro e w2 ⟨rfl, j2⟩
    have k2 := k1.trans j2
    clear c0 c1 c2
    obtain ⟨c0, c1, c2⟩ := box3 k2
    go_wp2_with fail
    refine (alive_any _).mono ?_; rintro e w3 ⟨rfl, j3⟩
    have k3 := k2.trans j3
    clear c0 c1 c2
    obtain ⟨c0, c1, c2⟩ := box3 k3
    go_wp2
    go_ret
    exact ⟨rfl, k3.boxed⟩

end Go.Proofs.Ytiadhmjmiaamcaa
