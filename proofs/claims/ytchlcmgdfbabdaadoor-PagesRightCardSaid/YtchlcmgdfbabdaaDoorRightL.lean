/- PagesRight: the walk. -/
import Derived.Test.YtchlcmgdfbabdaaDoorOpen7
import Derived.Test.YtchlcmgdfbabdaaDoorRr7
import Derived.Test.YtchlcmgdfbabdaaDoorRef8
import Derived.Laws.Concat
namespace Go.Proofs.YtchlcmgdfbabdaaDoor.Pgs
open Go.RowKit

set_option maxRecDepth 100000 in
set_option maxHeartbeats 2000000 in
theorem pagesRight_walk (w : World) (A : Option Addr) (c n : Nat) (o : List Pg) (hn : n = o.length) (hA : Els pgE 2 w A o) (hl : n ≤ 9223372036854775807) (off len : Int) (l9 : len ≤ 9223372036854775807) :
    Calls Tryd.prog 3 #[.slice A n c, .int .i64 off, .int .i64 len] w fun e w' => e = .returned (.bool true) ∧ Only [] w w' := by
  by_cases h200 : 200 < n
  · have hr : right o = false := by
      cases h : right o with
      | false => rfl
      | true => have := right_len h; omega
    have hd : decide ((200 : Int) < (n : Int)) = true := decide_eq_true (by omega)
    have h1 := fun W (h : Els pgE 2 W A o) => right_any W A c n o hn h hl
    rw [hr] at h1
    clear h200 hn
    go_enter Tryd.func3, Tryd.ntmps3
    have kk := Only.refl [] w
    go_wp2_with fail
    refine (alive_any _).mono ?_; rintro e w1 ⟨rfl, k1⟩
    replace hA := hA.kept k1 (by simp)
    replace kk := kk.trans k1
    clear k1
    go_wp2_with fail
    refine (alive_any _).mono ?_; rintro e w2 ⟨rfl, k2⟩
    replace hA := hA.kept k2 (by simp)
    replace kk := kk.trans k2
    clear k2
    go_wp2_with fail
    refine (h1 _ hA).mono ?_; rintro e w3 ⟨rfl, k3⟩
    replace hA := hA.kept k3 (by simp)
    replace kk := kk.trans k3
    clear k3
    have kk := Lib.hid kk
    go_wp2
    go_ret
    exact ⟨rfl, kk.out⟩
  · have hd : decide ((200 : Int) < (n : Int)) = false := decide_eq_false (by omega)
    have h1 := fun W (h : Els pgE 2 W A o) => right_any W A c n o hn h hl
    have h2 := fun W (h : Els pgE 2 W A o) => rright_any W A c n o hn h hl
    have h3 := fun W (h : Els pgE 2 W A o) => length_any W A c n o hn h hl
    have h4 := fun W (h : Els pgE 2 W A o) => bytes_any W A c n o hn h hl off len l9
    cases hr : right o with
    | false =>
      have hb : okBytes o off len = false := by unfold okBytes; rw [hr]; rfl
      have hbl : bytesL o off len = [] := by unfold bytesL; rw [hb]; rfl
      rw [hr] at h1 h2 h3
      rw [hb, hbl, show strOf [] = ⟨#[]⟩ from rfl] at h4
      unfold errB at h3 h4
      replace hr := Lib.hid hr
      replace hb := Lib.hid hb
      clear h200 hn hbl
      go_enter Tryd.func3, Tryd.ntmps3
      have kk := Only.refl [] w
      go_wp2_with fail
      refine (alive_any _).mono ?_; rintro e w1 ⟨rfl, k1⟩
      replace hA := hA.kept k1 (by simp)
      replace kk := kk.trans k1
      clear k1
      go_wp2_with fail
      refine (h2 _ hA).mono ?_; rintro e w2 ⟨rfl, k2⟩
      replace hA := hA.kept k2 (by simp)
      replace kk := kk.trans k2
      clear k2
      go_wp2_with fail
      refine (h3 _ hA).mono ?_; rintro e w9 ⟨L, rfl, _, hL, k9⟩
      have hL0 := hL trivial
      subst hL0
      replace hA := hA.kept k9 (by simp)
      replace kk := kk.trans k9
      go_wp2_with fail
      refine (h4 _ hA).mono ?_; rintro e w3 ⟨rfl, k3⟩
      replace hA := hA.kept k3 (by simp)
      replace kk := kk.trans k3
      clear k3
      go_wp2_with fail
      refine (alive_any _).mono ?_; rintro e w4 ⟨rfl, k4⟩
      replace hA := hA.kept k4 (by simp)
      replace kk := kk.trans k4
      clear k4
      go_wp2_with fail
      refine (h1 _ hA).mono ?_; rintro e w5 ⟨rfl, k5⟩
      replace hA := hA.kept k5 (by simp)
      replace kk := kk.trans k5
      clear k5
      have kk := Lib.hid kk
      go_wp2
      go_ret
      exact ⟨rfl, kk.out⟩
    | true =>
      have h5 := fun W (h : Els pgE 2 W A o) => rlength_any W A c n o ⟨hn, h, hr⟩
      rw [hr] at h1 h2 h3
      unfold errB at h3 h4
      cases hi : inB off len with
      | false =>
        have hb : okBytes o off len = false := by unfold okBytes; rw [hr, hi]; rfl
        have hbl : bytesL o off len = [] := by unfold bytesL; rw [hb]; rfl
        rw [hb, hbl, show strOf [] = ⟨#[]⟩ from rfl] at h4
        have h6 := fun W => rin_any W off len
        rw [hi] at h6
        replace hr := Lib.hid hr
        replace hb := Lib.hid hb
        replace hi := Lib.hid hi
        clear h200 hn hbl
        go_enter Tryd.func3, Tryd.ntmps3
        have kk := Only.refl [] w
        go_wp2_with fail
        refine (alive_any _).mono ?_; rintro e w1 ⟨rfl, k1⟩
        replace hA := hA.kept k1 (by simp)
        replace kk := kk.trans k1
        clear k1
        go_wp2_with fail
        refine (h2 _ hA).mono ?_; rintro e w2 ⟨rfl, k2⟩
        replace hA := hA.kept k2 (by simp)
        replace kk := kk.trans k2
        clear k2
        go_wp2_with fail
        refine (h3 _ hA).mono ?_; rintro e w9 ⟨L, rfl, hL, _, k9⟩
        replace hL := Lib.hid (hL trivial)
        replace hA := hA.kept k9 (by simp)
        replace kk := kk.trans k9
        go_wp2_with fail
        refine (h4 _ hA).mono ?_; rintro e w3 ⟨rfl, k3⟩
        replace hA := hA.kept k3 (by simp)
        replace kk := kk.trans k3
        clear k3
        go_wp2_with fail
        refine (alive_any _).mono ?_; rintro e w4 ⟨rfl, k4⟩
        replace hA := hA.kept k4 (by simp)
        replace kk := kk.trans k4
        clear k4
        go_wp2_with fail
        refine (h1 _ hA).mono ?_; rintro e w5 ⟨rfl, k5⟩
        replace hA := hA.kept k5 (by simp)
        replace kk := kk.trans k5
        clear k5
        go_wp2_with fail
        refine (h5 _ hA).mono ?_; rintro e w10 ⟨L', rfl, hL', rfl⟩
        have hLL := hL.out.unique hL'
        subst hLL
        clear hL hL' 
        go_wp2_with fail
        refine (h6 _).mono ?_; rintro e w6 ⟨rfl, rfl⟩
        have kk := Lib.hid kk
        go_wp2
        go_ret
        exact ⟨rfl, kk.out⟩
      | true =>
        have hb : okBytes o off len = true := by unfold okBytes; rw [hr, hi]; rfl
        obtain ⟨i1, i2, i3⟩ := inB_yes hi
        have h7 := fun W (h : Els pgE 2 W A o) => rbytes_any W A c n o ⟨hn, h, hr⟩ off.toNat len.toNat off len (by omega) (by omega) (by omega)
        have hbl : bytesL o off len = ((body o).drop off.toNat).take len.toNat := by unfold bytesL; rw [hb]; rfl
        rw [hb, hbl] at h4
        have h6 := fun W => rin_any W off len
        rw [hi] at h6
        generalize strOf (((body o).drop off.toNat).take len.toNat) = S at *
        replace hr := Lib.hid hr
        replace hb := Lib.hid hb
        replace hi := Lib.hid hi
        clear h200 hn hbl i1 i2 i3
        go_enter Tryd.func3, Tryd.ntmps3
        have kk := Only.refl [] w
        go_wp2_with fail
        refine (alive_any _).mono ?_; rintro e w1 ⟨rfl, k1⟩
        replace hA := hA.kept k1 (by simp)
        replace kk := kk.trans k1
        clear k1
        go_wp2_with fail
        refine (h2 _ hA).mono ?_; rintro e w2 ⟨rfl, k2⟩
        replace hA := hA.kept k2 (by simp)
        replace kk := kk.trans k2
        clear k2
        go_wp2_with fail
        refine (h3 _ hA).mono ?_; rintro e w9 ⟨L, rfl, hL, _, k9⟩
        replace hL := Lib.hid (hL trivial)
        replace hA := hA.kept k9 (by simp)
        replace kk := kk.trans k9
        go_wp2_with fail
        refine (h4 _ hA).mono ?_; rintro e w3 ⟨rfl, k3⟩
        replace hA := hA.kept k3 (by simp)
        replace kk := kk.trans k3
        clear k3
        go_wp2_with fail
        refine (alive_any _).mono ?_; rintro e w4 ⟨rfl, k4⟩
        replace hA := hA.kept k4 (by simp)
        replace kk := kk.trans k4
        clear k4
        go_wp2_with fail
        refine (h1 _ hA).mono ?_; rintro e w5 ⟨rfl, k5⟩
        replace hA := hA.kept k5 (by simp)
        replace kk := kk.trans k5
        clear k5
        go_wp2_with fail
        refine (h5 _ hA).mono ?_; rintro e w10 ⟨L', rfl, hL', rfl⟩
        have hLL := hL.out.unique hL'
        subst hLL
        clear hL hL' 
        go_wp2_with fail
        refine (h6 _).mono ?_; rintro e w6 ⟨rfl, rfl⟩
        go_wp2_with fail
        refine (h7 _ hA).mono ?_; rintro e w7 ⟨rfl, k7⟩
        replace hA := hA.kept k7 (by simp)
        replace kk := kk.trans k7
        clear k7
        have kk := Lib.hid kk
        go_wp2
        go_ret
        exact ⟨rfl, kk.out⟩

end Go.Proofs.YtchlcmgdfbabdaaDoor.Pgs
