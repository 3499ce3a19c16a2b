/- The document's Right. -/
import Derived.Test.YtchlcmgdfbabdaaGreatDoorRight7
namespace Go.Proofs.YtchlcmgdfbabdaaGreatDoor.Pgs
open Go.RowKit

/-- The number ahead of place k. -/
def lastN (o : List Pg) : Nat → Int
  | 0 => -1
  | j + 1 => (o.getD j default).n

set_option maxRecDepth 100000 in
set_option maxHeartbeats 2000000 in
theorem rright_any (w : World) (A : Option Addr) (c n : Nat) (o : List Pg) (hn : n = o.length) (hA : Els pgE 2 w A o) (hl : n ≤ 9223372036854775807) :
    Calls Tryz.prog 35 #[.slice A n c] w fun e w' => e = .returned (.bool (right o)) ∧ Only [] w w' := by
  have HN := Lib.hid hn
  clear hn
  go_enter Tryz.func35, Tryz.ntmps35
  go_wp2_with fail
  go_loopw [3] (fun i wr => ∃ (k : Nat), k ≤ n ∧ i = .int .i64 k ∧ Hid (right o = okP (lastN o k) (o.drop k) ∧ -1 ≤ lastN o k) ∧ Only [] w wr) (fun i _ => n - (intOf i).toNat)
  case atStart => exact ⟨0, by omega, rfl, ⟨rfl, Int.le_refl _⟩, Only.refl _ _⟩
  case round =>
    obtain ⟨k, hk, rfl, hr, honly⟩ := hrel
    by_cases hlt : k < n
    · have hk' : k < o.length := by have := HN.out; omega
      obtain ⟨g, off, rfl, _, hat⟩ := hA.get hk'
      have hat' := hat.kept honly (by simp)
      obtain ⟨c0, c1⟩ := pgs_at hat' hk'
      have hd : o.drop k = o[k] :: o.drop (k + 1) := List.drop_eq_getElem_cons hk'
      have hlast : lastN o (k + 1) = o[k].n := by
        rw [lastN, List.getD_eq_getElem?_getD, List.getElem?_eq_getElem hk']
        rfl
      obtain ⟨last, hL⟩ : ∃ last, last = lastN o k := ⟨_, rfl⟩
      rw [← hL] at hr
      have hprev : ∀ j, k = j + 1 → wr.cell? ⟨g, off + j * 2, none⟩ = some (.int .i64 last) := fun j hj => by
        subst hj
        have := (pgs_at hat' (i := j) (by omega)).1
        rw [this, hL, lastN, List.getD_eq_getElem?_getD, List.getElem?_eq_getElem (by omega)]
        rfl
      have hfirst : k = 0 → last = -1 := fun h => by rw [hL, h]; rfl
      generalize o[k] = p at *
      obtain ⟨N, d⟩ := p
      simp only at c0 c1 hlast
      have hsz := strOf_size d
      obtain ⟨hr, hge⟩ := hr
      have hno : ¬ (last < N ∧ N < 32 ∧ d.length = 32 ∧ allZ d = false) → Hid (right o = false) := fun h => by
        show right o = false
        rw [hr, hd]
        exact okP_no h
      have hyes : last < N → N < 32 → d.length = 32 → allZ d = false → Hid (right o = okP (lastN o (k + 1)) (o.drop (k + 1)) ∧ -1 ≤ lastN o (k + 1)) := fun a1 a2 a3 a4 => by
        refine ⟨?_, by rw [hlast]; omega⟩
        rw [hr, hd, hlast]
        exact okP_yes a1 a2 a3 a4
      have hzero := fun W (h : d.length ≤ 1048576) => noughts_any W d h
      generalize hs : strOf d = s at *
      replace hs := Lib.hid hs
      replace hno := Lib.hid hno
      replace hyes := Lib.hid hyes
      clear hd hr hat hat' hA hL hlast
      by_cases h0 : N < 0
      · have hf := hno.out (by omega)
        clear hzero hprev hfirst
        go_wp2_with fail
        go_quiet (fail)
        go_wp2
        go_ret
        exact ⟨by rw [hf.out]; rfl, honly.drewN _⟩
      · have d0 : decide (N < 0) = false := by simpa using h0
        by_cases h2 : N < 32
        · have d2 : decide ((31 : Int) < N) = false := by simp; omega
          by_cases h3 : d.length = 32
          · have h3' : s.size = 32 := by omega
            have hz := fun W => hzero W (by omega)
            clear hzero
            by_cases h4 : allZ d = true
            · have hf := hno.out (by simp [h4])
              rw [h4] at hz
              replace h3 := Lib.hid h3
              clear hsz hprev hfirst
              go_wp2_with fail
              go_quiet ((with_reducible refine Calls.quiet_of_same (hz _)))
              go_wp2
              go_ret
              exact ⟨by rw [hf.out]; rfl, honly.drewN _⟩
            · have h4' : allZ d = false := by simpa using h4
              rw [h4'] at hz
              clear hsz
              cases k with
              | zero =>
                have hnext := hyes.out (by have := hfirst rfl; omega) h2 h3 h4'
                rw [Nat.zero_mul, Nat.add_zero] at c0 c1
                have dz : ((0 : Nat) : Int) = 0 := rfl
                rw [dz]
                clear hprev hfirst hno hyes h4 h4' h3
                go_wp2_with fail
                go_quiet ((with_reducible refine Calls.quiet_of_same (hz _)))
                go_wp2
                go_roundw
                case rel => exact ⟨1, by omega, rfl, hnext, honly.drewN _⟩
                case measure => simp [intOf]; omega
              | succ j =>
                have hcj := hprev j rfl
                have hcast : ((j + 1 : Nat) : Int) = (j : Int) + 1 := by omega
                rw [hcast]
                have hj0 : decide ((0 : Int) < (j : Int) + 1) = true := decide_eq_true (by omega)
                have hj1 : ((j : Int) + 1).toNat = j + 1 := by omega
                have hj2 : (j : Int) + 1 < n := by omega
                by_cases h5 : N ≤ last
                · have hf := hno.out (by omega)
                  have d5 : decide (N ≤ last) = true := by simpa using h5
                  clear hprev hfirst hno hyes h4 h4' h3
                  go_wp2_with fail
                  go_quiet ((with_reducible refine Calls.quiet_of_same (hz _)))
                  go_wp2
                  go_ret
                  exact ⟨by rw [hf.out]; rfl, honly.drewN _⟩
                · have hnext := hyes.out (by omega) h2 h3 h4'
                  have d5 : decide (N ≤ last) = false := by simpa using h5
                  clear hprev hfirst hno hyes h4 h4' h3
                  go_wp2_with fail
                  go_quiet ((with_reducible refine Calls.quiet_of_same (hz _)))
                  go_wp2
                  go_roundw
                  case rel => exact ⟨j + 1 + 1, by omega, by go_num, hnext, honly.drewN _⟩
                  case measure => simp [intOf]; omega
          · have hf := hno.out (fun h => h3 h.2.2.1)
            have h3' : ((s.size : Int) != 32) = true := by rw [bne_iff_ne]; omega
            clear hzero hprev hfirst hsz
            go_wp2_with fail
            go_quiet (fail)
            go_wp2
            go_ret
            exact ⟨by rw [hf.out]; rfl, honly.drewN _⟩
        · have hf := hno.out (fun h => h2 h.2.1)
          have d2 : decide ((31 : Int) < N) = true := by simp; omega
          clear hzero hprev hfirst
          go_wp2_with fail
          go_quiet (fail)
          go_wp2
          go_ret
          exact ⟨by rw [hf.out]; rfl, honly.drewN _⟩
    · have hfin : right o = true := by
        rw [hr.1, List.drop_of_length_le (by have := HN.out; omega)]
        rfl
      replace hfin := Lib.hid hfin
      clear hA hr
      go_wp2
      go_ret
      exact ⟨by rw [hfin.out]; rfl, honly⟩

end Go.Proofs.YtchlcmgdfbabdaaGreatDoor.Pgs
