/- PagesPut: the walk. -/
import Derived.Test.YtchlcmgdfbabdaaDoorOpen7
import Derived.Test.YtchlcmgdfbabdaaDoorYes7
import Derived.Test.YtchlcmgdfbabdaaDoorRr7
import Derived.Test.YtchlcmgdfbabdaaDoorRef8
import Derived.Laws.Concat
namespace Go.Proofs.YtchlcmgdfbabdaaDoor.Pgs
open Go.RowKit

set_option maxRecDepth 100000 in
set_option maxHeartbeats 2000000 in
theorem pagesPut_walk (w : World) (A : Option Addr) (c n : Nat) (o : List Pg) (hn : n = o.length) (hA : Els pgE 2 w A o) (hl : n ≤ 9223372036854775807) (off : Int) (d : List UInt8) (size : Int) :
    Calls Tryd.prog 4 #[.slice A n c, .int .i64 off, .string (strOf d), .int .i64 size] w fun e w' => e = .returned (.bool true) ∧ Only [] w w' := by
  by_cases hfew : ¬ (n ≤ 200 ∧ d.length ≤ 4000)
  · have hsz := strOf_size d
    have hg : decide ((200 : Int) < (n : Int)) = true ∨ (decide ((200 : Int) < (n : Int)) = false ∧ decide ((4000 : Int) < ((strOf d).size : Int)) = true) := by
      by_cases h1 : 200 < n
      · exact .inl (decide_eq_true (by omega))
      · exact .inr ⟨decide_eq_false (by omega), decide_eq_true (by omega)⟩
    generalize strOf d = s at *
    clear hsz hfew hn
    rcases hg with hg | ⟨hg, hg'⟩
    all_goals
      go_enter Tryd.func4, Tryd.ntmps4
      have kk := Only.refl [] w
      go_wp2_with fail
      refine (alive_any _).mono ?_; rintro e w1 ⟨rfl, k1⟩
      replace hA := hA.kept k1 (by simp)
      replace kk := kk.trans k1
      clear k1
      go_wp2_with fail
      refine (alive_any _).mono ?_; rintro e w2 ⟨rfl, k2⟩
      replace hA := hA.kept k2 (by simp)
      replace kk := kk.trans k2
      clear k2
      have kk := Lib.hid kk
      go_wp2
      go_ret
      exact ⟨rfl, kk.out⟩
  · obtain ⟨hn2, hd2⟩ : n ≤ 200 ∧ d.length ≤ 4000 := by omega
    have hg : decide ((200 : Int) < (n : Int)) = false := decide_eq_false (by omega)
    have hg' : decide ((4000 : Int) < ((strOf d).size : Int)) = false := decide_eq_false (by rw [strOf_size]; omega)
    have hsz : ((strOf d).size : Int) = d.length := by rw [strOf_size]
    have h1 := fun W (h : Els pgE 2 W A o) => put_any W A c n o hn h hl off d (by omega)
    have h2 := fun W (h : Els pgE 2 W A o) => cut_any W A c n o hn h hl size
    have h3 := fun W (h : Els pgE 2 W A o) => rright_any W A c n o hn h hl
    have h4 : ∀ W, Calls Tryd.prog 16 #[.int .i64 off, .int .i64 ((strOf d).size : Int)] W fun e w' => e = .returned (.bool (inB off d.length)) ∧ w' = W := fun W => by rw [hsz]; exact rin_any W off d.length
    obtain ⟨m, hm0⟩ : ∃ m, m = (putL o off d).length := ⟨_, rfl⟩
    obtain ⟨m', hm1⟩ : ∃ m, m = (cutL o size).length := ⟨_, rfl⟩
    have hlen := right_len (putL_right o off d)
    have hlen' := right_len (cutL_right o size)
    have same1 := fun W (B C : Option Addr) (cb cc : Nat) (hb : Els pgE 2 W B (putL o off d)) (hc : Els pgE 2 W C (putL o off d)) => same_yes W B C cb cc m m (putL o off d) hm0 hm0 hb hc (by omega)
    have same2 := fun W (B C : Option Addr) (cb cc : Nat) (hb : Els pgE 2 W B (cutL o size)) (hc : Els pgE 2 W C (cutL o size)) => same_yes W B C cb cc m' m' (cutL o size) hm1 hm1 hb hc (by omega)
    replace hlen := Lib.hid hlen
    replace hlen' := Lib.hid hlen'
    have hput : okPut o off d = (right o && inB off d.length) := rfl
    have hcut : okCut o size = (right o && decide (0 ≤ size)) := rfl
    have hp0 : okPut o off d = false → m = 0 := fun h => by rw [hm0]; unfold putL; rw [h]; rfl
    have hc0 : okCut o size = false → m' = 0 := fun h => by rw [hm1]; unfold cutL; rw [h]; rfl
    have hpl : okPut o off d = true → putL o off d = pages (lay (body o) off.toNat d) := fun h => if_pos h
    have hcl : okCut o size = true → cutL o size = pages (cutB (body o) (min size 1024).toNat) := cutL_eq
    replace hput := Lib.hid hput
    replace hcut := Lib.hid hcut
    replace hp0 := Lib.hid hp0
    replace hc0 := Lib.hid hc0
    replace hpl := Lib.hid hpl
    replace hcl := Lib.hid hcl
    replace hm0 := Lib.hid hm0
    replace hm1 := Lib.hid hm1
    replace hsz := Lib.hid hsz
    replace same1 := Lib.hid same1
    replace same2 := Lib.hid same2
    cases hr : right o with
    | false =>
      have q1 : okPut o off d = false := by rw [hput.out, hr]; rfl
      have q2 : okCut o size = false := by rw [hcut.out, hr]; rfl
      have m0 := hp0.out q1
      have m1 := hc0.out q2
      subst m0
      subst m1
      rw [q1] at h1
      rw [q2] at h2
      rw [hr] at h3
      unfold errB at h1 h2
      replace hr := Lib.hid hr
      replace q1 := Lib.hid q1
      replace q2 := Lib.hid q2
      have h1 := Lib.hid h1
      have h2 := Lib.hid h2
      have h3 := Lib.hid h3
      rename_i h1' h2' h3'
      clear h1' h2' h3'
      generalize strOf d = s at *
      clear hfew hn2 hd2 hn h4
      go_enter Tryd.func4, Tryd.ntmps4
      have kk := Only.refl [] w
      go_wp2_with fail
      refine (alive_any _).mono ?_; rintro e w1 ⟨rfl, k1⟩
      replace hA := hA.kept k1 (by simp)
      replace kk := kk.trans k1
      clear k1
      go_wp2_with fail
      refine (h1.out _ hA).mono ?_; rintro e w2 ⟨v, rfl, hm⟩
      have k2 := hm.only
      obtain ⟨Aa, ca, rfl, ea, _, _⟩ := mine_shape hm
      clear hm
      replace hA := hA.kept k2 (by simp)
      replace kk := kk.trans k2
      clear k2
      rw [← hm0.out]
      go_wp2_with fail
      refine (h2.out _ hA).mono ?_; rintro e w3 ⟨v, rfl, hm⟩
      have k3 := hm.only
      obtain ⟨Ab, cb, rfl, eb, _, _⟩ := mine_shape hm
      clear hm
      replace hA := hA.kept k3 (by simp)
      replace ea := ea.kept k3 (by simp)
      replace kk := kk.trans k3
      clear k3
      rw [← hm1.out]
      go_wp2_with fail
      refine (h3.out _ hA).mono ?_; rintro e w4 ⟨rfl, k4⟩
      replace hA := hA.kept k4 (by simp)
      replace ea := ea.kept k4 (by simp)
      replace eb := eb.kept k4 (by simp)
      replace kk := kk.trans k4
      clear k4
      go_wp2_with fail
      refine (alive_any _).mono ?_; rintro e w5 ⟨rfl, k5⟩
      replace hA := hA.kept k5 (by simp)
      replace ea := ea.kept k5 (by simp)
      replace eb := eb.kept k5 (by simp)
      replace kk := kk.trans k5
      clear k5
      have kk := Lib.hid kk
      go_wp2
      go_ret
      exact ⟨rfl, kk.out⟩
    | true =>
      rw [hr] at h3
      have hObj : ∀ W, Els pgE 2 W A o → Obj7 W A n o := fun W h => ⟨hn, h, hr⟩
      replace hObj := Lib.hid hObj
      cases hi : inB off d.length with
      | false =>
        have q1 : okPut o off d = false := by rw [hput.out, hr, hi]; rfl
        have m0 := hp0.out q1
        subst m0
        rw [q1] at h1
        rw [hi] at h4
        unfold errB at h1 h2
        replace hi := Lib.hid hi
        replace q1 := Lib.hid q1
        by_cases hs0 : 0 ≤ size
        · have q2 : okCut o size = true := by rw [hcut.out, hr, decide_eq_true hs0]; rfl
          have h6 := fun W (h : Els pgE 2 W A o) => rcut_any W A c n o (hObj.out W h) (min size 1024).toNat size (by omega) hs0
          rw [← hcl.out q2] at h6
          rw [q2] at h2
          have hsn : decide (size < 0) = false := decide_eq_false (by omega)
          replace h6 := Lib.hid h6
          have h1 := Lib.hid h1
          have h2 := Lib.hid h2
          have h3 := Lib.hid h3
          rename_i h1' h2' h3'
          clear h1' h2' h3' 
          replace hr := Lib.hid hr
          replace q2 := Lib.hid q2
          replace hs0 := Lib.hid hs0
          generalize strOf d = s at *
          clear hfew hn2 hd2 hn
          go_enter Tryd.func4, Tryd.ntmps4
          have kk := Only.refl [] w
          go_wp2_with fail
          refine (alive_any _).mono ?_; rintro e w1 ⟨rfl, k1⟩
          replace hA := hA.kept k1 (by simp)
          replace kk := kk.trans k1
          clear k1
          go_wp2_with fail
          refine (h1.out _ hA).mono ?_; rintro e w2 ⟨v, rfl, hm⟩
          have k2 := hm.only
          obtain ⟨Aa, ca, rfl, ea, _, _⟩ := mine_shape hm
          clear hm
          replace hA := hA.kept k2 (by simp)
          replace kk := kk.trans k2
          clear k2
          rw [← hm0.out]
          go_wp2_with fail
          refine (h2.out _ hA).mono ?_; rintro e w3 ⟨v, rfl, hm⟩
          have k3 := hm.only
          obtain ⟨Ab, cb, rfl, eb, _, _⟩ := mine_shape hm
          clear hm
          replace hA := hA.kept k3 (by simp)
          replace ea := ea.kept k3 (by simp)
          replace kk := kk.trans k3
          clear k3
          rw [← hm1.out]
          go_wp2_with fail
          refine (h3.out _ hA).mono ?_; rintro e w4 ⟨rfl, k4⟩
          replace hA := hA.kept k4 (by simp)
          replace ea := ea.kept k4 (by simp)
          replace eb := eb.kept k4 (by simp)
          replace kk := kk.trans k4
          clear k4
          go_wp2_with fail
          refine (h4 _).mono ?_; rintro e w5 ⟨rfl, rfl⟩
          go_wp2_with fail
          refine (alive_any _).mono ?_; rintro e w6 ⟨rfl, k6⟩
          replace hA := hA.kept k6 (by simp)
          replace ea := ea.kept k6 (by simp)
          replace eb := eb.kept k6 (by simp)
          replace kk := kk.trans k6
          clear k6
          go_wp2_with fail
          refine (h6.out _ hA).mono ?_; rintro e w7 ⟨v, rfl, hm⟩
          have k7 := hm.only
          obtain ⟨Aq, cq, rfl, eq, _, _⟩ := mine_shape hm
          clear hm
          replace hA := hA.kept k7 (by simp)
          replace ea := ea.kept k7 (by simp)
          replace eb := eb.kept k7 (by simp)
          replace kk := kk.trans k7
          clear k7
          rw [← hm1.out]
          go_wp2_with fail
          refine (same2.out _ _ _ _ _ eb eq).mono ?_; rintro e w8 ⟨rfl, k8⟩
          replace hA := hA.kept k8 (by simp)
          replace ea := ea.kept k8 (by simp)
          replace eb := eb.kept k8 (by simp)
          replace eq := eq.kept k8 (by simp)
          replace kk := kk.trans k8
          clear k8
          have kk := Lib.hid kk
          go_wp2
          go_ret
          exact ⟨rfl, kk.out⟩
        · have q2 : okCut o size = false := by rw [hcut.out, hr, decide_eq_false hs0]; rfl
          have m1 := hc0.out q2
          subst m1
          rw [q2] at h2
          have hsn : decide (size < 0) = true := decide_eq_true (by omega)
          have h1 := Lib.hid h1
          have h2 := Lib.hid h2
          have h3 := Lib.hid h3
          rename_i h1' h2' h3'
          clear h1' h2' h3' 
          replace hr := Lib.hid hr
          replace q2 := Lib.hid q2
          replace hs0 := Lib.hid hs0
          generalize strOf d = s at *
          clear hfew hn2 hd2 hn
          go_enter Tryd.func4, Tryd.ntmps4
          have kk := Only.refl [] w
          go_wp2_with fail
          refine (alive_any _).mono ?_; rintro e w1 ⟨rfl, k1⟩
          replace hA := hA.kept k1 (by simp)
          replace kk := kk.trans k1
          clear k1
          go_wp2_with fail
          refine (h1.out _ hA).mono ?_; rintro e w2 ⟨v, rfl, hm⟩
          have k2 := hm.only
          obtain ⟨Aa, ca, rfl, ea, _, _⟩ := mine_shape hm
          clear hm
          replace hA := hA.kept k2 (by simp)
          replace kk := kk.trans k2
          clear k2
          rw [← hm0.out]
          go_wp2_with fail
          refine (h2.out _ hA).mono ?_; rintro e w3 ⟨v, rfl, hm⟩
          have k3 := hm.only
          obtain ⟨Ab, cb, rfl, eb, _, _⟩ := mine_shape hm
          clear hm
          replace hA := hA.kept k3 (by simp)
          replace ea := ea.kept k3 (by simp)
          replace kk := kk.trans k3
          clear k3
          rw [← hm1.out]
          go_wp2_with fail
          refine (h3.out _ hA).mono ?_; rintro e w4 ⟨rfl, k4⟩
          replace hA := hA.kept k4 (by simp)
          replace ea := ea.kept k4 (by simp)
          replace eb := eb.kept k4 (by simp)
          replace kk := kk.trans k4
          clear k4
          go_wp2_with fail
          refine (h4 _).mono ?_; rintro e w5 ⟨rfl, rfl⟩
          go_wp2_with fail
          refine (alive_any _).mono ?_; rintro e w6 ⟨rfl, k6⟩
          replace hA := hA.kept k6 (by simp)
          replace ea := ea.kept k6 (by simp)
          replace eb := eb.kept k6 (by simp)
          replace kk := kk.trans k6
          clear k6
          have kk := Lib.hid kk
          go_wp2
          go_ret
          exact ⟨rfl, kk.out⟩
      | true =>
        have q1 : okPut o off d = true := by rw [hput.out, hr, hi]; rfl
        obtain ⟨i1, i2, i3⟩ := inB_yes hi
        have h5 := fun W (h : Els pgE 2 W A o) => rput_any W A c n o (hObj.out W h) off.toNat off d (by omega) (by omega)
        rw [← hpl.out q1] at h5
        rw [q1] at h1
        rw [hi] at h4
        replace h5 := Lib.hid h5
        clear i1 i2 i3
        unfold errB at h1 h2
        replace hi := Lib.hid hi
        replace q1 := Lib.hid q1
        by_cases hs0 : 0 ≤ size
        · have q2 : okCut o size = true := by rw [hcut.out, hr, decide_eq_true hs0]; rfl
          have h6 := fun W (h : Els pgE 2 W A o) => rcut_any W A c n o (hObj.out W h) (min size 1024).toNat size (by omega) hs0
          rw [← hcl.out q2] at h6
          rw [q2] at h2
          have hsn : decide (size < 0) = false := decide_eq_false (by omega)
          replace h6 := Lib.hid h6
          have h1 := Lib.hid h1
          have h2 := Lib.hid h2
          have h3 := Lib.hid h3
          rename_i h1' h2' h3'
          clear h1' h2' h3' 
          replace hr := Lib.hid hr
          replace q2 := Lib.hid q2
          replace hs0 := Lib.hid hs0
          generalize strOf d = s at *
          clear hfew hn2 hd2 hn
          go_enter Tryd.func4, Tryd.ntmps4
          have kk := Only.refl [] w
          go_wp2_with fail
          refine (alive_any _).mono ?_; rintro e w1 ⟨rfl, k1⟩
          replace hA := hA.kept k1 (by simp)
          replace kk := kk.trans k1
          clear k1
          go_wp2_with fail
          refine (h1.out _ hA).mono ?_; rintro e w2 ⟨v, rfl, hm⟩
          have k2 := hm.only
          obtain ⟨Aa, ca, rfl, ea, _, _⟩ := mine_shape hm
          clear hm
          replace hA := hA.kept k2 (by simp)
          replace kk := kk.trans k2
          clear k2
          rw [← hm0.out]
          go_wp2_with fail
          refine (h2.out _ hA).mono ?_; rintro e w3 ⟨v, rfl, hm⟩
          have k3 := hm.only
          obtain ⟨Ab, cb, rfl, eb, _, _⟩ := mine_shape hm
          clear hm
          replace hA := hA.kept k3 (by simp)
          replace ea := ea.kept k3 (by simp)
          replace kk := kk.trans k3
          clear k3
          rw [← hm1.out]
          go_wp2_with fail
          refine (h3.out _ hA).mono ?_; rintro e w4 ⟨rfl, k4⟩
          replace hA := hA.kept k4 (by simp)
          replace ea := ea.kept k4 (by simp)
          replace eb := eb.kept k4 (by simp)
          replace kk := kk.trans k4
          clear k4
          go_wp2_with fail
          refine (h4 _).mono ?_; rintro e w5 ⟨rfl, rfl⟩
          go_wp2_with fail
          refine (h5.out _ hA).mono ?_; rintro e w6 ⟨v, rfl, hm⟩
          have k6 := hm.only
          obtain ⟨Ap, cp, rfl, ep, _, _⟩ := mine_shape hm
          clear hm
          replace hA := hA.kept k6 (by simp)
          replace ea := ea.kept k6 (by simp)
          replace eb := eb.kept k6 (by simp)
          replace kk := kk.trans k6
          clear k6
          rw [← hm0.out]
          go_wp2_with fail
          refine (same1.out _ _ _ _ _ ea ep).mono ?_; rintro e w7 ⟨rfl, k7⟩
          replace hA := hA.kept k7 (by simp)
          replace ea := ea.kept k7 (by simp)
          replace eb := eb.kept k7 (by simp)
          replace ep := ep.kept k7 (by simp)
          replace kk := kk.trans k7
          clear k7
          go_wp2_with fail
          refine (alive_any _).mono ?_; rintro e w8 ⟨rfl, k8⟩
          replace hA := hA.kept k8 (by simp)
          replace ea := ea.kept k8 (by simp)
          replace eb := eb.kept k8 (by simp)
          replace ep := ep.kept k8 (by simp)
          replace kk := kk.trans k8
          clear k8
          go_wp2_with fail
          refine (h6.out _ hA).mono ?_; rintro e w9 ⟨v, rfl, hm⟩
          have k9 := hm.only
          obtain ⟨Aq, cq, rfl, eq, _, _⟩ := mine_shape hm
          clear hm
          replace hA := hA.kept k9 (by simp)
          replace ea := ea.kept k9 (by simp)
          replace eb := eb.kept k9 (by simp)
          replace ep := ep.kept k9 (by simp)
          replace kk := kk.trans k9
          clear k9
          rw [← hm1.out]
          go_wp2_with fail
          refine (same2.out _ _ _ _ _ eb eq).mono ?_; rintro e w10 ⟨rfl, k10⟩
          replace hA := hA.kept k10 (by simp)
          replace ea := ea.kept k10 (by simp)
          replace eb := eb.kept k10 (by simp)
          replace ep := ep.kept k10 (by simp)
          replace eq := eq.kept k10 (by simp)
          replace kk := kk.trans k10
          clear k10
          have kk := Lib.hid kk
          go_wp2
          go_ret
          exact ⟨rfl, kk.out⟩
        · have q2 : okCut o size = false := by rw [hcut.out, hr, decide_eq_false hs0]; rfl
          have m1 := hc0.out q2
          subst m1
          rw [q2] at h2
          have hsn : decide (size < 0) = true := decide_eq_true (by omega)
          have h1 := Lib.hid h1
          have h2 := Lib.hid h2
          have h3 := Lib.hid h3
          rename_i h1' h2' h3'
          clear h1' h2' h3' 
          replace hr := Lib.hid hr
          replace q2 := Lib.hid q2
          replace hs0 := Lib.hid hs0
          generalize strOf d = s at *
          clear hfew hn2 hd2 hn
          go_enter Tryd.func4, Tryd.ntmps4
          have kk := Only.refl [] w
          go_wp2_with fail
          refine (alive_any _).mono ?_; rintro e w1 ⟨rfl, k1⟩
          replace hA := hA.kept k1 (by simp)
          replace kk := kk.trans k1
          clear k1
          go_wp2_with fail
          refine (h1.out _ hA).mono ?_; rintro e w2 ⟨v, rfl, hm⟩
          have k2 := hm.only
          obtain ⟨Aa, ca, rfl, ea, _, _⟩ := mine_shape hm
          clear hm
          replace hA := hA.kept k2 (by simp)
          replace kk := kk.trans k2
          clear k2
          rw [← hm0.out]
          go_wp2_with fail
          refine (h2.out _ hA).mono ?_; rintro e w3 ⟨v, rfl, hm⟩
          have k3 := hm.only
          obtain ⟨Ab, cb, rfl, eb, _, _⟩ := mine_shape hm
          clear hm
          replace hA := hA.kept k3 (by simp)
          replace ea := ea.kept k3 (by simp)
          replace kk := kk.trans k3
          clear k3
          rw [← hm1.out]
          go_wp2_with fail
          refine (h3.out _ hA).mono ?_; rintro e w4 ⟨rfl, k4⟩
          replace hA := hA.kept k4 (by simp)
          replace ea := ea.kept k4 (by simp)
          replace eb := eb.kept k4 (by simp)
          replace kk := kk.trans k4
          clear k4
          go_wp2_with fail
          refine (h4 _).mono ?_; rintro e w5 ⟨rfl, rfl⟩
          go_wp2_with fail
          refine (h5.out _ hA).mono ?_; rintro e w6 ⟨v, rfl, hm⟩
          have k6 := hm.only
          obtain ⟨Ap, cp, rfl, ep, _, _⟩ := mine_shape hm
          clear hm
          replace hA := hA.kept k6 (by simp)
          replace ea := ea.kept k6 (by simp)
          replace eb := eb.kept k6 (by simp)
          replace kk := kk.trans k6
          clear k6
          rw [← hm0.out]
          go_wp2_with fail
          refine (same1.out _ _ _ _ _ ea ep).mono ?_; rintro e w7 ⟨rfl, k7⟩
          replace hA := hA.kept k7 (by simp)
          replace ea := ea.kept k7 (by simp)
          replace eb := eb.kept k7 (by simp)
          replace ep := ep.kept k7 (by simp)
          replace kk := kk.trans k7
          clear k7
          go_wp2_with fail
          refine (alive_any _).mono ?_; rintro e w8 ⟨rfl, k8⟩
          replace hA := hA.kept k8 (by simp)
          replace ea := ea.kept k8 (by simp)
          replace eb := eb.kept k8 (by simp)
          replace ep := ep.kept k8 (by simp)
          replace kk := kk.trans k8
          clear k8
          have kk := Lib.hid kk
          go_wp2
          go_ret
          exact ⟨rfl, kk.out⟩

end Go.Proofs.YtchlcmgdfbabdaaDoor.Pgs
