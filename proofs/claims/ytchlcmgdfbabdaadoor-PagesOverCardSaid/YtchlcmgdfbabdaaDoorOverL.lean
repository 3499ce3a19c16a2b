/- PagesOver: the walk. -/
import Derived.Test.YtchlcmgdfbabdaaDoorOpen7
import Derived.Test.YtchlcmgdfbabdaaDoorYes7
import Derived.Test.YtchlcmgdfbabdaaDoorRr7
import Derived.Test.YtchlcmgdfbabdaaDoorRef8
import Derived.Laws.Concat
namespace Go.Proofs.YtchlcmgdfbabdaaDoor.Pgs
open Go.RowKit

set_option maxRecDepth 100000 in
set_option maxHeartbeats 2000000 in
theorem pagesOver_walk (w : World) (A : Option Addr) (c n : Nat) (o : List Pg) (hn : n = o.length) (hA : Els pgE 2 w A o) (hl : n ≤ 9223372036854775807) (off second : Int) (a b : List UInt8) :
    Calls Tryd.prog 8 #[.slice A n c, .int .i64 off, .int .i64 second, .string (strOf a), .string (strOf b)] w fun e w' => e = .returned (.bool true) ∧ Only [] w w' := by
  by_cases hfew : ¬ (n ≤ 200 ∧ a.length ≤ 2000 ∧ b.length ≤ 2000)
  · have hsz := strOf_size a
    have hsz' := strOf_size b
    have hg : decide ((200 : Int) < (n : Int)) = true ∨ (decide ((200 : Int) < (n : Int)) = false ∧ decide ((2000 : Int) < ((strOf a).size : Int)) = true) ∨ (decide ((200 : Int) < (n : Int)) = false ∧ decide ((2000 : Int) < ((strOf a).size : Int)) = false ∧ decide ((2000 : Int) < ((strOf b).size : Int)) = true) := by
      by_cases h1 : 200 < n
      · exact .inl (decide_eq_true (by omega))
      · by_cases h2 : 2000 < a.length
        · exact .inr (.inl ⟨decide_eq_false (by omega), decide_eq_true (by omega)⟩)
        · exact .inr (.inr ⟨decide_eq_false (by omega), decide_eq_false (by omega), decide_eq_true (by omega)⟩)
    generalize strOf a = s at *
    generalize strOf b = t at *
    clear hsz hsz' hfew hn
    rcases hg with hg | ⟨hg, hg'⟩ | ⟨hg, hg', hg2⟩
    all_goals
      go_enter Tryd.func8, Tryd.ntmps8
      have kk := Only.refl [] w
      go_wp2_with fail
      refine (alive_any _).mono ?_; rintro e w1 ⟨rfl, k1⟩
      replace hA := hA.kept k1 (by simp)
      replace kk := kk.trans k1
      clear k1
      go_wp2_with fail
      refine (alive_any _).mono ?_; rintro e w2 ⟨rfl, k2⟩
      replace hA := hA.kept k2 (by simp)
      replace kk := kk.trans k2
      clear k2
      have kk := Lib.hid kk
      go_wp2
      go_ret
      exact ⟨rfl, kk.out⟩
  · obtain ⟨hn2, ha2, hb2⟩ : n ≤ 200 ∧ a.length ≤ 2000 ∧ b.length ≤ 2000 := by omega
    have hg : decide ((200 : Int) < (n : Int)) = false := decide_eq_false (by omega)
    have hg' : decide ((2000 : Int) < ((strOf a).size : Int)) = false := decide_eq_false (by rw [strOf_size]; omega)
    have hg2 : decide ((2000 : Int) < ((strOf b).size : Int)) = false := decide_eq_false (by rw [strOf_size]; omega)
    have hsz : ((strOf a).size : Int) = a.length := by rw [strOf_size]
    have hsz' : ((strOf b).size : Int) = b.length := by rw [strOf_size]
    obtain ⟨m, hm0⟩ : ∃ m, m = (putL o off a).length := ⟨_, rfl⟩
    obtain ⟨m', hm1⟩ : ∃ m, m = (putL (putL o off a) second b).length := ⟨_, rfl⟩
    have hlen := right_len (putL_right o off a)
    have hlen' := right_len (putL_right (putL o off a) second b)
    have h1 := fun W (h : Els pgE 2 W A o) => put_any W A c n o hn h hl off a (by omega)
    have h2 := fun W (B : Option Addr) (cb : Nat) (h : Els pgE 2 W B (putL o off a)) => put_any W B cb m (putL o off a) hm0 h (by omega) second b (by omega)
    cases hp : okPut o off a with
    | false =>
      rw [hp] at h1
      unfold errB at h1 h2
      obtain ⟨e2, he2⟩ : ∃ e2 : Int, e2 = (if okPut (putL o off a) second b = true then 0 else 1) := ⟨_, rfl⟩
      rw [← he2] at h2
      replace he2 := Lib.hid he2
      replace hp := Lib.hid hp
      replace hlen := Lib.hid hlen
      replace hlen' := Lib.hid hlen'
      replace hm0 := Lib.hid hm0
      replace hm1 := Lib.hid hm1
      have h1 := Lib.hid h1
      have h2 := Lib.hid h2
      rename_i h1' h2'
      clear h1' h2' 
      generalize strOf a = s at *
      generalize strOf b = t at *
      clear hfew hn2 ha2 hb2 hn hsz hsz' 
      go_enter Tryd.func8, Tryd.ntmps8
      have kk := Only.refl [] w
      go_wp2_with fail
      refine (alive_any _).mono ?_; rintro e w1 ⟨rfl, k1⟩
      replace hA := hA.kept k1 (by simp)
      replace kk := kk.trans k1
      clear k1
      go_wp2_with fail
      refine (h1.out _ hA).mono ?_; rintro e w2 ⟨v, rfl, hm⟩
      have k2 := hm.only
      obtain ⟨Aa, ca, rfl, ea, _, _⟩ := mine_shape hm
      clear hm
      replace hA := hA.kept k2 (by simp)
      replace kk := kk.trans k2
      clear k2
      rw [← hm0.out]
      go_wp2_with fail
      refine (h2.out _ _ _ ea).mono ?_; rintro e w3 ⟨v, rfl, hm⟩
      have k3 := hm.only
      obtain ⟨Ab, cb, rfl, eb, _, _⟩ := mine_shape hm
      clear hm
      replace hA := hA.kept k3 (by simp)
      replace ea := ea.kept k3 (by simp)
      replace kk := kk.trans k3
      clear k3
      rw [← hm1.out]
      go_wp2_with fail
      refine (alive_any _).mono ?_; rintro e w4 ⟨rfl, k4⟩
      replace hA := hA.kept k4 (by simp)
      replace ea := ea.kept k4 (by simp)
      replace eb := eb.kept k4 (by simp)
      replace kk := kk.trans k4
      clear k4
      have kk := Lib.hid kk
      go_wp2
      go_ret
      exact ⟨rfl, kk.out⟩
    | true =>
      rw [hp] at h1
      cases hq : okPut (putL o off a) second b with
      | false =>
        rw [hq] at h2
        unfold errB at h1 h2
        replace hp := Lib.hid hp
        replace hq := Lib.hid hq
        replace hlen := Lib.hid hlen
        replace hlen' := Lib.hid hlen'
        replace hm0 := Lib.hid hm0
        replace hm1 := Lib.hid hm1
        have h1 := Lib.hid h1
        have h2 := Lib.hid h2
        rename_i h1' h2'
        clear h1' h2' 
        generalize strOf a = s at *
        generalize strOf b = t at *
        clear hfew hn2 ha2 hb2 hn hsz hsz' 
        go_enter Tryd.func8, Tryd.ntmps8
        have kk := Only.refl [] w
        go_wp2_with fail
        refine (alive_any _).mono ?_; rintro e w1 ⟨rfl, k1⟩
        replace hA := hA.kept k1 (by simp)
        replace kk := kk.trans k1
        clear k1
        go_wp2_with fail
        refine (h1.out _ hA).mono ?_; rintro e w2 ⟨v, rfl, hm⟩
        have k2 := hm.only
        obtain ⟨Aa, ca, rfl, ea, _, _⟩ := mine_shape hm
        clear hm
        replace hA := hA.kept k2 (by simp)
        replace kk := kk.trans k2
        clear k2
        rw [← hm0.out]
        go_wp2_with fail
        refine (h2.out _ _ _ ea).mono ?_; rintro e w3 ⟨v, rfl, hm⟩
        have k3 := hm.only
        obtain ⟨Ab, cb, rfl, eb, _, _⟩ := mine_shape hm
        clear hm
        replace hA := hA.kept k3 (by simp)
        replace ea := ea.kept k3 (by simp)
        replace kk := kk.trans k3
        clear k3
        rw [← hm1.out]
        go_wp2_with fail
        refine (alive_any _).mono ?_; rintro e w4 ⟨rfl, k4⟩
        replace hA := hA.kept k4 (by simp)
        replace ea := ea.kept k4 (by simp)
        replace eb := eb.kept k4 (by simp)
        replace kk := kk.trans k4
        clear k4
        have kk := Lib.hid kk
        go_wp2
        go_ret
        exact ⟨rfl, kk.out⟩
      | true =>
        obtain ⟨p1, p2, p3, p4⟩ := put_facts hp
        obtain ⟨q1, q2, q3, q4⟩ := put_facts hq
        rw [hq] at h2
        unfold errB at h1 h2
        have h3 := fun W (B : Option Addr) (cb : Nat) (h : Els pgE 2 W B (putL (putL o off a) second b)) => bytes_any W B cb m' (putL (putL o off a) second b) hm1 h (by omega) second b.length (by omega)
        rw [put_there hq, okBytes_of (putL_right _ _ _) q2 (by omega) q3] at h3
        unfold errB at h3
        have hw1 : IntKind.i64.wrap (second + ((strOf b).size : Int)) = second + ((strOf b).size : Int) := by rw [IntKind.wrap_i64]; omega
        have hw2 : IntKind.i64.wrap (off + ((strOf a).size : Int)) = off + ((strOf a).size : Int) := by rw [IntKind.wrap_i64]; omega
        have hswap := put_swap hp hq
        rw [← hsz, ← hsz'] at hswap
        rw [← hsz'] at h3
        have h4 := fun W (h : Els pgE 2 W A o) => put_any W A c n o hn h hl second b (by omega)
        obtain ⟨m2, hm2⟩ : ∃ m, m = (putL o second b).length := ⟨_, rfl⟩
        obtain ⟨m3, hm3⟩ : ∃ m, m = (putL (putL o second b) off a).length := ⟨_, rfl⟩
        have hlen2 := right_len (putL_right o second b)
        have hlen3 := right_len (putL_right (putL o second b) off a)
        have h5 := fun W (B : Option Addr) (cb : Nat) (h : Els pgE 2 W B (putL o second b)) => put_any W B cb m2 (putL o second b) hm2 h (by omega) off a (by omega)
        have same1 := fun W (B C : Option Addr) (cb cc : Nat) (he : putL (putL o second b) off a = putL (putL o off a) second b) (hb : Els pgE 2 W B (putL (putL o second b) off a)) (hc : Els pgE 2 W C (putL (putL o off a) second b)) => same_yes W B C cb cc m3 m' (putL (putL o off a) second b) (by rw [hm3, he]) hm1 (by rw [he] at hb; exact hb) hc (by omega)
        replace hlen2 := Lib.hid hlen2
        replace hlen3 := Lib.hid hlen3
        replace hm2 := Lib.hid hm2
        replace hm3 := Lib.hid hm3
        replace hp := Lib.hid hp
        replace hq := Lib.hid hq
        replace same1 := Lib.hid same1
        replace hswap := Lib.hid hswap
        replace p3 := Lib.hid p3
        replace q3 := Lib.hid q3
        have h3 := Lib.hid h3
        have h4 := Lib.hid h4
        have h5 := Lib.hid h5
        rename_i h3' h4' h5'
        clear h3' h4' h5' 
        replace hlen := Lib.hid hlen
        replace hlen' := Lib.hid hlen'
        replace hm0 := Lib.hid hm0
        replace hm1 := Lib.hid hm1
        have h1 := Lib.hid h1
        have h2 := Lib.hid h2
        rename_i h1' h2'
        clear h1' h2' 
        generalize strOf a = s at *
        generalize strOf b = t at *
        clear hfew hn2 ha2 hb2 hn hsz hsz' p1 p2 p4 q1 q2 q4
        by_cases hov : off < second + (t.size : Int) ∧ second < off + (s.size : Int)
        · have d1 : decide (off < second + (t.size : Int)) = true := decide_eq_true hov.1
          have d2 : decide (second < off + (s.size : Int)) = true := decide_eq_true hov.2
          replace hov := Lib.hid hov
          go_enter Tryd.func8, Tryd.ntmps8
          have kk := Only.refl [] w
          go_wp2_with fail
          refine (alive_any _).mono ?_; rintro e w1 ⟨rfl, k1⟩
          replace hA := hA.kept k1 (by simp)
          replace kk := kk.trans k1
          clear k1
          go_wp2_with fail
          refine (h1.out _ hA).mono ?_; rintro e w2 ⟨v, rfl, hm⟩
          have k2 := hm.only
          obtain ⟨Aa, ca, rfl, ea, _, _⟩ := mine_shape hm
          clear hm
          replace hA := hA.kept k2 (by simp)
          replace kk := kk.trans k2
          clear k2
          rw [← hm0.out]
          go_wp2_with fail
          refine (h2.out _ _ _ ea).mono ?_; rintro e w3 ⟨v, rfl, hm⟩
          have k3 := hm.only
          obtain ⟨Ab, cb, rfl, eb, _, _⟩ := mine_shape hm
          clear hm
          replace hA := hA.kept k3 (by simp)
          replace ea := ea.kept k3 (by simp)
          replace kk := kk.trans k3
          clear k3
          rw [← hm1.out]
          go_wp2_with fail
          refine (h3.out _ _ _ eb).mono ?_; rintro e w4 ⟨rfl, k4⟩
          replace hA := hA.kept k4 (by simp)
          replace ea := ea.kept k4 (by simp)
          replace eb := eb.kept k4 (by simp)
          replace kk := kk.trans k4
          clear k4
          go_wp2_with fail
          refine (alive_any _).mono ?_; rintro e w5 ⟨rfl, k5⟩
          replace hA := hA.kept k5 (by simp)
          replace ea := ea.kept k5 (by simp)
          replace eb := eb.kept k5 (by simp)
          replace kk := kk.trans k5
          clear k5
          have kk := Lib.hid kk
          go_wp2
          go_ret
          exact ⟨rfl, kk.out⟩
        · obtain ⟨s1, s2, s3⟩ := hswap.out hov
          have h4' := h4.out
          have h5' := h5.out
          rw [s1] at h4'
          rw [s2] at h5'
          unfold errB at h4' h5'
          replace h4 := Lib.hid h4'
          replace h5 := Lib.hid h5'
          clear h4' h5'
          have hi : decide (off < second + (t.size : Int)) = false ∨ (decide (off < second + (t.size : Int)) = true ∧ decide (second < off + (s.size : Int)) = false) := by
            by_cases h : off < second + (t.size : Int)
            · exact .inr ⟨decide_eq_true h, decide_eq_false (fun hh => hov ⟨h, hh⟩)⟩
            · exact .inl (decide_eq_false h)
          replace hov := Lib.hid hov
          replace s1 := Lib.hid s1
          replace s2 := Lib.hid s2
          replace s3 := Lib.hid s3
          rcases hi with hi1 | ⟨hi1, hi2⟩
          all_goals
            go_enter Tryd.func8, Tryd.ntmps8
            have kk := Only.refl [] w
            go_wp2_with fail
            refine (alive_any _).mono ?_; rintro e w1 ⟨rfl, k1⟩
            replace hA := hA.kept k1 (by simp)
            replace kk := kk.trans k1
            clear k1
            go_wp2_with fail
            refine (h1.out _ hA).mono ?_; rintro e w2 ⟨v, rfl, hm⟩
            have k2 := hm.only
            obtain ⟨Aa, ca, rfl, ea, _, _⟩ := mine_shape hm
            clear hm
            replace hA := hA.kept k2 (by simp)
            replace kk := kk.trans k2
            clear k2
            rw [← hm0.out]
            go_wp2_with fail
            refine (h2.out _ _ _ ea).mono ?_; rintro e w3 ⟨v, rfl, hm⟩
            have k3 := hm.only
            obtain ⟨Ab, cb, rfl, eb, _, _⟩ := mine_shape hm
            clear hm
            replace hA := hA.kept k3 (by simp)
            replace ea := ea.kept k3 (by simp)
            replace kk := kk.trans k3
            clear k3
            rw [← hm1.out]
            go_wp2_with fail
            refine (h3.out _ _ _ eb).mono ?_; rintro e w4 ⟨rfl, k4⟩
            replace hA := hA.kept k4 (by simp)
            replace ea := ea.kept k4 (by simp)
            replace eb := eb.kept k4 (by simp)
            replace kk := kk.trans k4
            clear k4
            go_wp2_with fail
            refine (h4.out _ hA).mono ?_; rintro e w5 ⟨v, rfl, hm⟩
            have k5 := hm.only
            obtain ⟨Au, cu, rfl, eu, _, _⟩ := mine_shape hm
            clear hm
            replace hA := hA.kept k5 (by simp)
            replace ea := ea.kept k5 (by simp)
            replace eb := eb.kept k5 (by simp)
            replace kk := kk.trans k5
            clear k5
            rw [← hm2.out]
            go_wp2_with fail
            refine (h5.out _ _ _ eu).mono ?_; rintro e w6 ⟨v, rfl, hm⟩
            have k6 := hm.only
            obtain ⟨Av, cv, rfl, ev, _, _⟩ := mine_shape hm
            clear hm
            replace hA := hA.kept k6 (by simp)
            replace ea := ea.kept k6 (by simp)
            replace eb := eb.kept k6 (by simp)
            replace eu := eu.kept k6 (by simp)
            replace kk := kk.trans k6
            clear k6
            rw [← hm3.out]
            go_wp2_with fail
            refine (alive_any _).mono ?_; rintro e w7 ⟨rfl, k7⟩
            replace hA := hA.kept k7 (by simp)
            replace ea := ea.kept k7 (by simp)
            replace eb := eb.kept k7 (by simp)
            replace eu := eu.kept k7 (by simp)
            replace ev := ev.kept k7 (by simp)
            replace kk := kk.trans k7
            clear k7
            go_wp2_with fail
            refine (same1.out _ _ _ _ _ s3.out ev eb).mono ?_; rintro e w8 ⟨rfl, k8⟩
            replace hA := hA.kept k8 (by simp)
            replace ea := ea.kept k8 (by simp)
            replace eb := eb.kept k8 (by simp)
            replace eu := eu.kept k8 (by simp)
            replace ev := ev.kept k8 (by simp)
            replace kk := kk.trans k8
            clear k8
            have kk := Lib.hid kk
            go_wp2
            go_ret
            exact ⟨rfl, kk.out⟩

end Go.Proofs.YtchlcmgdfbabdaaDoor.Pgs
