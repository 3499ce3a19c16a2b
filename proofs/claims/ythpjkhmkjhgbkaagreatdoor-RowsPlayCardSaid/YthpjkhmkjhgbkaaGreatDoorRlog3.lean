/- The document's log: Read; the first steps of a commit. -/
import Derived.Test.YthpjkhmkjhgbkaaGreatDoorRlog2
namespace Go.Proofs.YthpjkhmkjhgbkaaGreatDoor
open Go.RowKit

theorem RLogB.cells {w : World} {lp p n : Nat} {f : Bool} (h : RLogB w lp p n f) : w.cell? ⟨lp, 0, none⟩ = some (.pointer (some ⟨p, 0, none⟩)) ∧ w.cell? ⟨lp, 1, none⟩ = some (.int .u32 (n : Int)) ∧ w.cell? ⟨lp, 2, none⟩ = some (.bool f) := by
  have c0 := Blk.cell h 0
  have c1 := Blk.cell h 1
  have c2 := Blk.cell h 2
  simp only [List.getElem?_toArray, List.getElem?_cons_zero, List.getElem?_cons_succ] at c0 c1 c2
  exact ⟨c0, c1, c2⟩

set_option maxRecDepth 100000 in
theorem rlread_any (w : World) (lp p n : Nat) (f : Bool) (G : List Nat) (s : St) (k : Int) (h : RLogB w lp p n f) (hd : Ref w p G s) (hlate : s.late.length < 1048576) (hN : 42 ≤ s.firm.length) :
    Calls Tryz.prog 58 #[.pointer (some ⟨lp, 0, none⟩), .int .i64 k] w fun e w' => e = .returned (.tuple #[.string (strOf (lreadB s f k)), .int .i64 (lreadErr s f k)]) ∧ w' = w := by
  obtain ⟨l0, _, l2⟩ := h.cells
  obtain ⟨gf, cf, A, cl, c0, _, _, c3, _⟩ := hd.cells (by omega)
  have hfew := hd.fine.few
  have hwN : wrap64 ((s.firm.length : Int) - 41) = (s.firm.length : Int) - 41 := by simp only [wrap64]; omega
  by_cases hk : hasHome s.firm.length k = false
  · have e1 : lreadErr s f k = 1 := by rw [lreadErr, if_pos hk]
    have e2 : lreadB s f k = [] := by rw [lreadB, if_pos hk]
    rw [e1, e2]
    have hkk : k < 0 ∨ (0 ≤ k ∧ (s.firm.length : Int) - 41 ≤ k) := by
      simp only [hasHome, decide_eq_false_iff_not] at hk
      omega
    clear e1 e2 hk h hd hfew hlate hN
    generalize s.firm.length = N at *
    rcases hkk with hk | ⟨hk, hk2⟩
    · go_enter Tryz.func58, Tryz.ntmps58
      go_wp2
      go_ret2
      exact ⟨rfl, rfl⟩
    · have hk' : ¬ k < 0 := by omega
      go_enter Tryz.func58, Tryz.ntmps58
      go_wp2
      go_ret2
      exact ⟨rfl, rfl⟩
  · have hk1 : hasHome s.firm.length k = true := by simpa using hk
    have hkk : 0 ≤ k ∧ k < (s.firm.length : Int) - 41 := by simpa [hasHome] using hk1
    obtain ⟨k, rfl⟩ := Int.eq_ofNat_of_zero_le hkk.1
    have hk2 : ¬ (s.firm.length : Int) - 41 ≤ (k : Int) := by omega
    have hk3 : ¬ (k : Int) < 0 := by omega
    cases hf : f with
    | true =>
      have e1 : lreadErr s true (k : Int) = 5 := by rw [lreadErr, if_neg hk, if_pos rfl]
      have e2 : lreadB s true (k : Int) = [] := by rw [lreadB, if_neg hk, if_pos rfl]
      rw [e1, e2]
      rw [hf] at l2
      clear e1 e2 hk h hd hfew hlate hN hk1 hkk
      generalize s.firm.length = N at *
      go_enter Tryz.func58, Tryz.ntmps58
      go_wp2
      go_ret2
      exact ⟨rfl, rfl⟩
    | false =>
      rw [hf] at l2
      cases hdead : s.dead with
      | true =>
        have e1 : lreadErr s false (k : Int) = 5 := by rw [lreadErr, if_neg hk, if_neg (by decide), if_pos hdead]
        have e2 : lreadB s false (k : Int) = [] := by rw [lreadB, if_neg hk, if_neg (by decide), if_pos hdead]
        rw [e1, e2]
        rw [hdead] at c3
        clear e1 e2 hk h hd hfew hlate hN hk1 hkk
        generalize s.firm.length = N at *
        go_enter Tryz.func58, Tryz.ntmps58
        go_wp2
        go_ret2
        exact ⟨rfl, rfl⟩
      | false =>
        have e1 : lreadErr s false (k : Int) = 0 := by rw [lreadErr, if_neg hk, if_neg (by decide), if_neg (by rw [hdead]; decide)]
        have e2 : lreadB s false (k : Int) = (blkB s (41 + k)).drop 8 := by rw [lreadB, if_neg hk, if_neg (by decide), if_neg (by rw [hdead]; decide)]; rfl
        rw [hdead] at c3
        have hl := hd.fine.blk (k := 41 + k) (by omega)
        have hnow := now_blk w p G s (41 + k) (by omega) hlate hd
        rw [show ((41 + k : Nat) : Int) = 41 + (k : Int) by omega] at hnow
        have hw : wrap64 (41 + (k : Int)) = 41 + (k : Int) := by simp only [wrap64]; omega
        rw [e1, e2]
        have hcut := from_strOf (P := Tryz.prog) 9 Tryz.underlying9 (blkB s (41 + k)) 8 8 .i64 rfl (by omega)
        generalize strOf ((blkB s (41 + k)).drop 8) = y at *
        generalize strOf (blkB s (41 + k)) = x at *
        clear e1 e2 hk h hd hfew hlate hN hk1 hkk hl
        generalize s.firm.length = N at *
        go_enter Tryz.func58, Tryz.ntmps58
        go_wp2_with fail
        refine hnow.mono ?_
        rintro e w1 ⟨rfl, rfl⟩
        go_wp2
        go_ret2
        exact ⟨rfl, rfl⟩

end Go.Proofs.YthpjkhmkjhgbkaaGreatDoor
