/- PagesCut: the walk. -/
import Derived.Test.YtchlcmgdfbabdaaDoorOpen7
import Derived.Test.YtchlcmgdfbabdaaDoorYes7
import Derived.Test.YtchlcmgdfbabdaaDoorRr7
import Derived.Test.YtchlcmgdfbabdaaDoorRef8
import Derived.Laws.Concat
namespace Go.Proofs.YtchlcmgdfbabdaaDoor.Pgs
open Go.RowKit

set_option maxRecDepth 100000 in
set_option maxHeartbeats 2000000 in
theorem pagesCut_walk (w : World) (A : Option Addr) (c n : Nat) (o : List Pg) (hn : n = o.length) (hA : Els pgE 2 w A o) (hl : n ≤ 9223372036854775807) (size : Int) :
    Calls Tryd.prog 7 #[.slice A n c, .int .i64 size] w fun e w' => e = .returned (.bool true) ∧ Only [] w w' := by
  by_cases h200 : 200 < n
  · have hd : decide ((200 : Int) < (n : Int)) = true := decide_eq_true (by omega)
    clear h200 hn
    go_enter Tryd.func7, Tryd.ntmps7
    have kk := Only.refl [] w
    go_wp2_with fail
    refine (alive_any _).mono ?_; rintro e w1 ⟨rfl, k1⟩
    replace hA := hA.kept k1 (by simp)
    replace kk := kk.trans k1
    clear k1
    go_wp2_with fail
    refine (alive_any _).mono ?_; rintro e w2 ⟨rfl, k2⟩
    replace hA := hA.kept k2 (by simp)
    replace kk := kk.trans k2
    clear k2
    have kk := Lib.hid kk
    go_wp2
    go_ret
    exact ⟨rfl, kk.out⟩
  · have hd : decide ((200 : Int) < (n : Int)) = false := decide_eq_false (by omega)
    have h1 := fun W (h : Els pgE 2 W A o) => length_any W A c n o hn h hl
    cases hr : right o with
    | false =>
      rw [hr] at h1
      unfold errB at h1
      replace hr := Lib.hid hr
      clear h200 hn
      go_enter Tryd.func7, Tryd.ntmps7
      have kk := Only.refl [] w
      go_wp2_with fail
      refine (alive_any _).mono ?_; rintro e w1 ⟨rfl, k1⟩
      replace hA := hA.kept k1 (by simp)
      replace kk := kk.trans k1
      clear k1
      go_wp2_with fail
      refine (h1 _ hA).mono ?_; rintro e w9 ⟨L, rfl, hL, _, k9⟩
      replace hL := Lib.hid hL
      replace hA := hA.kept k9 (by simp)
      replace kk := kk.trans k9
      go_wp2_with fail
      refine (alive_any _).mono ?_; rintro e w2 ⟨rfl, k2⟩
      replace hA := hA.kept k2 (by simp)
      replace kk := kk.trans k2
      clear k2
      have kk := Lib.hid kk
      go_wp2
      go_ret
      exact ⟨rfl, kk.out⟩
    | true =>
      by_cases hs0 : 0 ≤ size
      · have hsn : decide (size < 0) = false := decide_eq_false (by omega)
        have h2 := fun W (h : Els pgE 2 W A o) => cut_any W A c n o hn h hl size
        have hrc := cutL_right o size
        have hlen := right_len hrc
        have hlo : n ≤ 32 := by rw [hn]; exact right_len hr
        obtain ⟨m, hm0⟩ : ∃ m, m = (cutL o size).length := ⟨_, rfl⟩
        have h3 := fun W (B : Option Addr) (cb : Nat) (h : Els pgE 2 W B (cutL o size)) => length_any W B cb m (cutL o size) hm0 h (by omega)
        have h4 := fun W (B : Option Addr) (cb : Nat) (L : Int) (h : Els pgE 2 W B (cutL o size)) => cut_any W B cb m (cutL o size) hm0 h (by omega) L
        have hf := fun (n m : Nat) hn hm => cut_facts (n := n) (m := m) hr hs0 hn hm
        have same1 := fun W (B C : Option Addr) (cb cc : Nat) (hb : Els pgE 2 W B (cutL o size)) (hc : Els pgE 2 W C (cutL o size)) => same_yes W B C cb cc m m (cutL o size) hm0 hm0 hb hc (by omega)
        have same2 := fun W (B : Option Addr) (cb : Nat) (he : cutL o size = o) (hb : Els pgE 2 W B (cutL o size)) (hA : Els pgE 2 W A o) => same_yes W B A cb c m n o (by rw [hm0, he]) hn (by rw [he] at hb; exact hb) hA (by omega)
        have hq : okCut o size = true := by unfold okCut; rw [hr, decide_eq_true hs0]; rfl
        rw [hq] at h2
        rw [hrc] at h3
        rw [hr] at h1
        unfold errB at h1 h2 h3
        replace hr := Lib.hid hr
        replace hrc := Lib.hid hrc
        replace hq := Lib.hid hq
        replace hm0 := Lib.hid hm0
        replace hlen := Lib.hid hlen
        replace hf := Lib.hid hf
        replace same1 := Lib.hid same1
        replace same2 := Lib.hid same2
        replace hs0 := Lib.hid hs0
        have h1 := Lib.hid h1
        have h2 := Lib.hid h2
        have h3 := Lib.hid h3
        have h4 := Lib.hid h4
        rename_i h1' h2' h3' h4'
        clear h1' h2' h3' h4' h200 hn hlo
        go_enter Tryd.func7, Tryd.ntmps7
        have kk := Only.refl [] w
        go_wp2_with fail
        refine (alive_any _).mono ?_; rintro e w1 ⟨rfl, k1⟩
        replace hA := hA.kept k1 (by simp)
        replace kk := kk.trans k1
        clear k1
        go_wp2_with fail
        refine (h1.out _ hA).mono ?_; rintro e w9 ⟨L, rfl, hL, _, k9⟩
        replace hL := Lib.hid (hL trivial)
        replace hA := hA.kept k9 (by simp)
        replace kk := kk.trans k9
        go_wp2_with fail
        refine (h2.out _ hA).mono ?_; rintro e w2 ⟨v, rfl, hm⟩
        have k2 := hm.only
        obtain ⟨Aa, ca, rfl, ea, _, _⟩ := mine_shape hm
        clear hm
        replace hA := hA.kept k2 (by simp)
        replace kk := kk.trans k2
        clear k2
        rw [← hm0.out]
        go_wp2_with fail
        refine (h3.out _ _ _ ea).mono ?_; rintro e w10 ⟨M, rfl, hM, _, k10⟩
        obtain ⟨f1, f2, _, f4, f5, f6⟩ := hf.out L M hL.out (hM trivial)
        have h5 := h4.out
        have h5 := fun W B cb h => h5 W B cb (L : Int) h
        rw [f4, f5] at h5
        unfold errB at h5
        replace h5 := Lib.hid h5
        replace hM := Lib.hid hM
        replace f4 := Lib.hid f4
        replace f5 := Lib.hid f5
        have g1 : ¬ size < (M : Int) := by omega
        have g2 : ¬ (L : Int) < (M : Int) := by omega
        replace hA := hA.kept k10 (by simp)
        replace ea := ea.kept k10 (by simp)
        replace kk := kk.trans k10
        clear hL hM f1 f2
        go_wp2_with fail
        refine (h5.out _ _ _ ea).mono ?_; rintro e w3 ⟨v, rfl, hm⟩
        have k3 := hm.only
        obtain ⟨Ab, cb, rfl, eb, _, _⟩ := mine_shape hm
        clear hm
        replace hA := hA.kept k3 (by simp)
        replace ea := ea.kept k3 (by simp)
        replace kk := kk.trans k3
        clear k3
        rw [← hm0.out]
        go_wp2_with fail
        refine (alive_any _).mono ?_; rintro e w4 ⟨rfl, k4⟩
        replace hA := hA.kept k4 (by simp)
        replace ea := ea.kept k4 (by simp)
        replace eb := eb.kept k4 (by simp)
        replace kk := kk.trans k4
        clear k4
        go_wp2_with fail
        refine (same1.out _ _ _ _ _ ea eb).mono ?_; rintro e w5 ⟨rfl, k5⟩
        replace hA := hA.kept k5 (by simp)
        replace ea := ea.kept k5 (by simp)
        replace eb := eb.kept k5 (by simp)
        replace kk := kk.trans k5
        clear k5
        by_cases hlt : size < (L : Int)
        · have g3 : decide (size < (L : Int)) = true := decide_eq_true hlt
          replace f6 := Lib.hid f6
          replace hlt := Lib.hid hlt
          have kk := Lib.hid kk
          go_wp2
          go_ret
          exact ⟨rfl, kk.out⟩
        · have g3 : decide (size < (L : Int)) = false := decide_eq_false hlt
          have he := Lib.hid (f6 (by omega))
          replace f6 := Lib.hid f6
          replace hlt := Lib.hid hlt
          go_wp2_with fail
          refine (same2.out _ _ _ he.out ea hA).mono ?_; rintro e w6 ⟨rfl, k6⟩
          replace hA := hA.kept k6 (by simp)
          replace ea := ea.kept k6 (by simp)
          replace eb := eb.kept k6 (by simp)
          replace kk := kk.trans k6
          clear k6
          have kk := Lib.hid kk
          go_wp2
          go_ret
          exact ⟨rfl, kk.out⟩
      · have hsn : decide (size < 0) = true := decide_eq_true (by omega)
        rw [hr] at h1
        unfold errB at h1
        replace hr := Lib.hid hr
        replace hs0 := Lib.hid hs0
        clear h200 hn
        go_enter Tryd.func7, Tryd.ntmps7
        have kk := Only.refl [] w
        go_wp2_with fail
        refine (alive_any _).mono ?_; rintro e w1 ⟨rfl, k1⟩
        replace hA := hA.kept k1 (by simp)
        replace kk := kk.trans k1
        clear k1
        go_wp2_with fail
        refine (h1 _ hA).mono ?_; rintro e w9 ⟨L, rfl, hL, _, k9⟩
        replace hL := Lib.hid hL
        replace hA := hA.kept k9 (by simp)
        replace kk := kk.trans k9
        go_wp2_with fail
        refine (alive_any _).mono ?_; rintro e w2 ⟨rfl, k2⟩
        replace hA := hA.kept k2 (by simp)
        replace kk := kk.trans k2
        clear k2
        have kk := Lib.hid kk
        go_wp2
        go_ret
        exact ⟨rfl, kk.out⟩

end Go.Proofs.YtchlcmgdfbabdaaDoor.Pgs
