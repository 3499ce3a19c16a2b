/- PagesThere: the walk. -/
import Derived.Test.YtchlcmgdfbabdaaDoorOpen7
import Derived.Laws.Concat
namespace Go.Proofs.YtchlcmgdfbabdaaDoor.Pgs
open Go.RowKit

set_option maxRecDepth 100000 in
set_option maxHeartbeats 2000000 in
theorem pagesThere_walk (w : World) (A : Option Addr) (c n : Nat) (o : List Pg) (hn : n = o.length) (hA : Els pgE 2 w A o) (hl : n ≤ 9223372036854775807) (off : Int) (d : List UInt8) (at_ : Int) :
    Calls Tryd.prog 6 #[.slice A n c, .int .i64 off, .string (strOf d), .int .i64 at_] w fun e w' => e = .returned (.bool true) ∧ Only [] w w' := by
  by_cases hfew : ¬ (n ≤ 200 ∧ d.length ≤ 4000)
  · have hsz := strOf_size d
    have hg : decide ((200 : Int) < (n : Int)) = true ∨ (decide ((200 : Int) < (n : Int)) = false ∧ decide ((4000 : Int) < ((strOf d).size : Int)) = true) := by
      by_cases h1 : 200 < n
      · exact .inl (decide_eq_true (by omega))
      · exact .inr ⟨decide_eq_false (by omega), decide_eq_true (by omega)⟩
    generalize strOf d = s at *
    clear hsz hfew hn
    rcases hg with hg | ⟨hg, hg'⟩
    all_goals
      go_enter Tryd.func6, Tryd.ntmps6
      have kk := Only.refl [] w
      go_wp2_with fail
      refine (alive_any _).mono ?_; rintro e w1 ⟨rfl, k1⟩
      replace hA := hA.kept k1 (by simp)
      replace kk := kk.trans k1
      clear k1
      go_wp2_with fail
      refine (alive_any _).mono ?_; rintro e w2 ⟨rfl, k2⟩
      replace hA := hA.kept k2 (by simp)
      replace kk := kk.trans k2
      clear k2
      have kk := Lib.hid kk
      go_wp2
      go_ret
      exact ⟨rfl, kk.out⟩
  · obtain ⟨hn2, hd2⟩ : n ≤ 200 ∧ d.length ≤ 4000 := by omega
    have hg : decide ((200 : Int) < (n : Int)) = false := decide_eq_false (by omega)
    have hg' : decide ((4000 : Int) < ((strOf d).size : Int)) = false := decide_eq_false (by rw [strOf_size]; omega)
    have hsz : ((strOf d).size : Int) = d.length := by rw [strOf_size]
    have h1 := fun W (h : Els pgE 2 W A o) => put_any W A c n o hn h hl off d (by omega)
    have hx := mod_1024 at_
    obtain ⟨x, hx1, hx2⟩ := hx
    cases hp : okPut o off d with
    | false =>
      rw [hp] at h1
      unfold errB at h1
      replace hp := Lib.hid hp
      generalize strOf d = s at *
      clear hfew hn2 hd2 hx2 hsz hn
      go_enter Tryd.func6, Tryd.ntmps6
      have kk := Only.refl [] w
      go_wp2_with fail
      refine (alive_any _).mono ?_; rintro e w1 ⟨rfl, k1⟩
      replace hA := hA.kept k1 (by simp)
      replace kk := kk.trans k1
      clear k1
      go_wp2_with fail
      refine (h1 _ hA).mono ?_; rintro e w2 ⟨v, rfl, hm⟩
      have k2 := hm.only
      obtain ⟨Aa, ca, rfl, ea, _, _⟩ := mine_shape hm
      clear hm
      replace hA := hA.kept k2 (by simp)
      replace kk := kk.trans k2
      clear k2
      go_wp2_with fail
      refine (alive_any _).mono ?_; rintro e w3 ⟨rfl, k3⟩
      replace hA := hA.kept k3 (by simp)
      replace ea := ea.kept k3 (by simp)
      replace kk := kk.trans k3
      clear k3
      have kk := Lib.hid kk
      go_wp2
      go_ret
      exact ⟨rfl, kk.out⟩
    | true =>
      obtain ⟨p1, p2, p3, p4⟩ := put_facts hp
      have hra := putL_right o off d
      have hlen := right_len hra
      have h2 := fun W (B : Option Addr) (cb m : Nat) (hm : m = (putL o off d).length) (h : Els pgE 2 W B (putL o off d)) => bytes_any W B cb m (putL o off d) hm h (by omega) off d.length (by omega)
      have h3 := fun W (B : Option Addr) (cb m : Nat) (hm : m = (putL o off d).length) (h : Els pgE 2 W B (putL o off d)) => right_any W B cb m (putL o off d) hm h (by omega)
      have h4 := fun W (B : Option Addr) (cb m : Nat) (hm : m = (putL o off d).length) (h : Els pgE 2 W B (putL o off d)) => bytes_any W B cb m (putL o off d) hm h (by omega) x 1 (by omega)
      have h5 := fun W (h : Els pgE 2 W A o) => bytes_any W A c n o hn h hl x 1 (by omega)
      rw [put_there hp, okBytes_of hra p2 (by omega) p3] at h2
      rw [hra] at h3
      rw [okBytes_of hra (by omega) (by omega) (by omega)] at h4
      rw [okBytes_of p1 (by omega) (by omega) (by omega)] at h5
      rw [hp] at h1
      unfold errB at h1 h2 h4 h5
      have helse := fun h => put_else hp hx2 h
      have hdl : ((d.length : Nat) : Int) = (strOf d).size := hsz.symm
      rw [hdl] at h2 p3 helse
      obtain ⟨m, hm0⟩ : ∃ m, m = (putL o off d).length := ⟨_, rfl⟩
      replace hm0 := Lib.hid hm0
      replace hlen := Lib.hid hlen
      replace hra := Lib.hid hra
      replace hp := Lib.hid hp
      have hwr : IntKind.i64.wrap (off + ((strOf d).size : Int)) = off + ((strOf d).size : Int) := by rw [IntKind.wrap_i64]; omega
      generalize strOf d = s at *
      replace h2 := Lib.hid h2
      replace h3 := Lib.hid h3
      replace h4 := Lib.hid h4
      replace h5 := Lib.hid h5
      replace helse := Lib.hid helse
      clear hfew hn2 hd2 p1 p4 hsz hdl hn
      by_cases hin : off ≤ x ∧ (x : Int) < off + s.size
      · have hi1 : decide (off ≤ (x : Int)) = true := decide_eq_true hin.1
        have hi2 : decide ((x : Int) < off + (s.size : Int)) = true := decide_eq_true hin.2
        replace hin := Lib.hid hin
        replace p3 := Lib.hid p3
        go_enter Tryd.func6, Tryd.ntmps6
        have kk := Only.refl [] w
        go_wp2_with fail
        refine (alive_any _).mono ?_; rintro e w1 ⟨rfl, k1⟩
        replace hA := hA.kept k1 (by simp)
        replace kk := kk.trans k1
        clear k1
        go_wp2_with fail
        refine (h1 _ hA).mono ?_; rintro e w2 ⟨v, rfl, hm⟩
        have k2 := hm.only
        obtain ⟨Aa, ca, rfl, ea, _, _⟩ := mine_shape hm
        clear hm
        replace hA := hA.kept k2 (by simp)
        replace kk := kk.trans k2
        clear k2
        rw [← hm0.out]
        go_wp2_with fail
        refine (h2.out _ _ _ _ hm0.out ea).mono ?_; rintro e w3 ⟨rfl, k3⟩
        replace hA := hA.kept k3 (by simp)
        replace ea := ea.kept k3 (by simp)
        replace kk := kk.trans k3
        clear k3
        go_wp2_with fail
        refine (h3.out _ _ _ _ hm0.out ea).mono ?_; rintro e w4 ⟨rfl, k4⟩
        replace hA := hA.kept k4 (by simp)
        replace ea := ea.kept k4 (by simp)
        replace kk := kk.trans k4
        clear k4
        go_wp2_with fail
        refine (alive_any _).mono ?_; rintro e w5 ⟨rfl, k5⟩
        replace hA := hA.kept k5 (by simp)
        replace ea := ea.kept k5 (by simp)
        replace kk := kk.trans k5
        clear k5
        have kk := Lib.hid kk
        go_wp2
        go_ret
        exact ⟨rfl, kk.out⟩
      · have hsame := helse.out hin
        have h4' := h4.out
        have h5' := h5.out
        rw [hsame] at h4'
        generalize strOf (bytesL o x 1) = S at *
        have hi : decide (off ≤ (x : Int)) = false ∨ (decide (off ≤ (x : Int)) = true ∧ decide ((x : Int) < off + (s.size : Int)) = false) := by
          by_cases h : off ≤ x
          · exact .inr ⟨decide_eq_true h, decide_eq_false (fun hh => hin ⟨h, hh⟩)⟩
          · exact .inl (decide_eq_false h)
        replace hin := Lib.hid hin
        replace p3 := Lib.hid p3
        replace h4 := Lib.hid h4'
        replace h5 := Lib.hid h5'
        clear h4' h5' hsame
        rcases hi with hi1 | ⟨hi1, hi2⟩
        all_goals
          go_enter Tryd.func6, Tryd.ntmps6
          have kk := Only.refl [] w
          go_wp2_with fail
          refine (alive_any _).mono ?_; rintro e w1 ⟨rfl, k1⟩
          replace hA := hA.kept k1 (by simp)
          replace kk := kk.trans k1
          clear k1
          go_wp2_with fail
          refine (h1 _ hA).mono ?_; rintro e w2 ⟨v, rfl, hm⟩
          have k2 := hm.only
          obtain ⟨Aa, ca, rfl, ea, _, _⟩ := mine_shape hm
          clear hm
          replace hA := hA.kept k2 (by simp)
          replace kk := kk.trans k2
          clear k2
          rw [← hm0.out]
          go_wp2_with fail
          refine (h2.out _ _ _ _ hm0.out ea).mono ?_; rintro e w3 ⟨rfl, k3⟩
          replace hA := hA.kept k3 (by simp)
          replace ea := ea.kept k3 (by simp)
          replace kk := kk.trans k3
          clear k3
          go_wp2_with fail
          refine (h3.out _ _ _ _ hm0.out ea).mono ?_; rintro e w4 ⟨rfl, k4⟩
          replace hA := hA.kept k4 (by simp)
          replace ea := ea.kept k4 (by simp)
          replace kk := kk.trans k4
          clear k4
          go_wp2_with fail
          refine (h5.out _ hA).mono ?_; rintro e w5 ⟨rfl, k5⟩
          replace hA := hA.kept k5 (by simp)
          replace ea := ea.kept k5 (by simp)
          replace kk := kk.trans k5
          clear k5
          go_wp2_with fail
          refine (h4.out _ _ _ _ hm0.out ea).mono ?_; rintro e w6 ⟨rfl, k6⟩
          replace hA := hA.kept k6 (by simp)
          replace ea := ea.kept k6 (by simp)
          replace kk := kk.trans k6
          clear k6
          go_wp2_with fail
          refine (alive_any _).mono ?_; rintro e w7 ⟨rfl, k7⟩
          replace hA := hA.kept k7 (by simp)
          replace ea := ea.kept k7 (by simp)
          replace kk := kk.trans k7
          clear k7
          have kk := Lib.hid kk
          go_wp2
          go_ret
          exact ⟨rfl, kk.out⟩

end Go.Proofs.YtchlcmgdfbabdaaDoor.Pgs
