/- The document's log: whether the mark is whole. -/
import Derived.Test.YthpjkhmkjhgbkaaGreatDoorGe
namespace Go.Proofs.YthpjkhmkjhgbkaaGreatDoor
open Go.RowKit

theorem now_blk (w : World) (p : Nat) (G : List Nat) (s : St) (k : Nat) (hk : k < s.firm.length) (hlate : s.late.length < 1048576) (hd : Ref w p G s) :
    Calls Tryz.prog 54 #[.pointer (some ⟨p, 0, none⟩), .int .i64 (k : Int)] w fun e w' => e = .returned (.string (strOf (blkB s k))) ∧ w' = w := now_any w p G s k hk hlate hd

/-- What the document says of the mark. -/
def WholeIs (s : St) (e : Ending) : Prop := (openL s ≠ [] ∧ e = .returned (.tuple #[.int .i64 (markK (blkB s 0) : Int), .bool true])) ∨ (openL s = [] ∧ e = .returned (.tuple #[.int .i64 0, .bool false]))
theorem WholeIs.no {s : St} (h : openL s = []) : WholeIs s (.returned (.tuple #[.int .i64 0, .bool false])) := .inr ⟨h, rfl⟩

theorem Ref.cells {w : World} {p : Nat} {G : List Nat} {s : St} (h : Ref w p G s) (hN : 0 < s.firm.length) : ∃ gf cf A cl, w.cell? ⟨p, 0, none⟩ = some (.slice (some ⟨gf, 0, none⟩) s.firm.length cf) ∧ w.cell? ⟨p, 1, none⟩ = some (.slice A s.late.length cl) ∧ w.cell? ⟨p, 2, none⟩ = some (.int .i64 s.fuse) ∧ w.cell? ⟨p, 3, none⟩ = some (.bool s.dead) ∧ ∀ k, k < s.firm.length → w.cell? ⟨gf, k, none⟩ = some (.string (strOf (s.firm.getD k []))) := by
  obtain ⟨vf, vl, hb, o1, o2, _⟩ := h
  obtain ⟨gf, cf, rfl, _, _⟩ := o1.form hN
  obtain ⟨A, cl, rfl⟩ : ∃ A c, vl = .slice A s.late.length c := by
    rcases o2.2 with ⟨rfl, h0⟩ | ⟨g, cap, cur, rfl, _⟩
    · exact ⟨_, _, by rw [h0]⟩
    · exact ⟨_, _, rfl⟩
  have c0 := hb.cell 0
  have c1 := hb.cell 1
  have c2 := hb.cell 2
  have c3 := hb.cell 3
  simp only [List.getElem?_toArray, List.getElem?_cons_zero, List.getElem?_cons_succ] at c0 c1 c2 c3
  refine ⟨gf, cf, A, cl, c0, c1, c2, c3, fun k hk => ?_⟩
  have := o1.cells rfl k (.string (strOf (s.firm.getD k []))) (by simp [strCells, hk])
  rwa [addr_add, Nat.zero_add] at this

set_option maxRecDepth 100000 in
set_option maxHeartbeats 2000000 in
theorem rwhole_any (w : World) (p : Nat) (G : List Nat) (s : St) (hN : 42 ≤ s.firm.length) (hlate : s.late.length < 1048576) (hd : Ref w p G s) :
    Calls Tryz.prog 56 #[.pointer (some ⟨p, 0, none⟩)] w fun e w' => WholeIs s e ∧ Only [] w w' := by
  have fine := hd.fine
  have hb0 := fine.blk (k := 0) (by omega)
  have hnow := fun W (k : Only [] w W) j (hj : j < s.firm.length) => now_blk W p G s j hj hlate (hd.kept k (by simp))
  have hcut := upto_strOf (P := Tryz.prog) 9 Tryz.underlying9 (blkB s 0) 4 4 .i64 rfl (by omega)
  have hn0 := hnow w (Only.refl _ _) 0 (by omega)
  by_cases hm : (blkB s 0).take 4 = lcom
  · have hmk : markK (blkB s 0) = num4 (blkB s 0) 8 := by rw [markK, if_pos hm]
    have hmn : markN (blkB s 0) = num4 (blkB s 0) 4 := by rw [markN, if_pos hm]
    have hopen : openL s = redoL s (num4 (blkB s 0) 4) (num4 (blkB s 0) 8) := by rw [openL, hmk, hmn]
    have h8 := fun W => at_any W (blkB s 0) 8 (by omega) (by omega)
    have h4 := fun W => at_any W (blkB s 0) 4 (by omega) (by omega)
    have lt8 := num4_lt (blkB s 0) 8
    have lt4 := num4_lt (blkB s 0) 4
    rw [hm] at hcut
    have heq : ((strOf lcom).toList == [76, 67, 79, 77]) = true := by
      rw [show (strOf lcom).toList = lcom from ByteArray.toList_mk _]
      rfl
    generalize strOf lcom = X at *
    have hwi : ∀ e, WholeIs s e ↔ ((redoL s (num4 (blkB s 0) 4) (num4 (blkB s 0) 8) ≠ [] ∧ e = .returned (.tuple #[.int .i64 (num4 (blkB s 0) 8 : Int), .bool true])) ∨ (redoL s (num4 (blkB s 0) 4) (num4 (blkB s 0) 8) = [] ∧ e = .returned (.tuple #[.int .i64 0, .bool false]))) := fun e => by
      unfold WholeIs
      rw [hopen, hmk]
    generalize num4 (blkB s 0) 8 = kk at *
    generalize num4 (blkB s 0) 4 = n at *
    generalize hB0 : strOf (blkB s 0) = B at *
    obtain ⟨y, hy⟩ : ∃ y : Int, y = (kk : Int) := ⟨_, rfl⟩
    obtain ⟨z, hz⟩ : ∃ z : Int, z = (n : Int) := ⟨_, rfl⟩
    have y0 : 0 ≤ y := by omega
    have y1 : y < 4294967296 := by omega
    have z0 : 0 ≤ z := by omega
    have z1 : z < 4294967296 := by omega
    rw [← hy] at h8
    rw [← hz] at h4
    replace hn0 := Lib.hid hn0
    replace hopen := Lib.hid hopen
    replace hwi := Lib.hid hwi
    replace hB0 := Lib.hid hB0
    replace h8 := Lib.hid h8
    replace h4 := Lib.hid h4
    replace hy := Lib.hid hy
    replace hz := Lib.hid hz
    replace lt8 := Lib.hid lt8
    replace lt4 := Lib.hid lt4
    replace hnow := Lib.hid hnow
    replace hb0 := Lib.hid hb0
    have hm' := Lib.hid hm
    clear hm hmk hmn
    by_cases hk1 : y < 1
    · have hno : Hid (redoL s n kk = []) := by
        have : kk = 0 := by have := hy.out; omega
        subst this
        exact redoL_zero _ _
      go_enter Tryz.func56, Tryz.ntmps56
      go_wp2_with fail
      refine hn0.out.mono ?_
      rintro e w1 ⟨rfl, rfl⟩
      go_wp2_with fail
      refine (h8.out _).mono ?_
      rintro e w2 ⟨rfl, k2⟩
      go_wp2
      go_ret2
      exact ⟨(hwi.out _).2 (.inr ⟨hno.out, rfl⟩), k2⟩
    by_cases hk2 : 40 < y
    · have hno : Hid (redoL s n kk = []) := by
        unfold redoL
        exact if_neg (fun h => by have := h.1; have := hy.out; omega)
      go_enter Tryz.func56, Tryz.ntmps56
      go_wp2_with fail
      refine hn0.out.mono ?_
      rintro e w1 ⟨rfl, rfl⟩
      go_wp2_with fail
      refine (h8.out _).mono ?_
      rintro e w2 ⟨rfl, k2⟩
      go_wp2
      go_ret2
      exact ⟨(hwi.out _).2 (.inr ⟨hno.out, rfl⟩), k2⟩
    have hkk : Hid (1 ≤ kk ∧ kk ≤ 40) := by have := hy.out; exact (show 1 ≤ kk ∧ kk ≤ 40 by omega)
    have y2 : y ≤ 40 := by omega
    clear y1
    go_enter Tryz.func56, Tryz.ntmps56
    go_wp2_with fail
    refine hn0.out.mono ?_
    rintro e w1 ⟨rfl, rfl⟩
    go_wp2_with fail
    refine (h8.out _).mono ?_
    rintro e w2 ⟨rfl, k2⟩
    go_wp2_with fail
    go_loopw [6] (fun i wr => ∃ j : Nat, j ≤ kk ∧ i = .int .i64 (1 + (j : Int)) ∧ Hid (∀ i, i < j → CopyOk s n i) ∧ Only [] w1 wr) (fun i _ => kk + 1 - (intOf i).toNat)
    case atStart => exact ⟨0, Nat.zero_le _, rfl, fun i hi => by omega, k2⟩
    case round =>
      obtain ⟨j, hj, rfl, hok, honly⟩ := hrel
      have hkk1 := hkk.out.1
      have hkk2 := hkk.out.2
      by_cases hlt : j < kk
      · have hjy : 1 + (j : Int) ≤ y := by have := hy.out; omega
        have hbl := fine.blk (k := 1 + j) (by omega)
        have hr := hnow.out wr honly (1 + j) (by omega)
        rw [show ((1 + j : Nat) : Int) = 1 + (j : Int) by omega] at hr
        have a0 := fun W => at_any W (blkB s (1 + j)) 0 (by omega) (by omega)
        have a4 := fun W => at_any W (blkB s (1 + j)) 4 (by omega) (by omega)
        have l0 := num4_lt (blkB s (1 + j)) 0
        have l4 := num4_lt (blkB s (1 + j)) 4
        have hcop : CopyOk s n j ↔ (41 ≤ num4 (blkB s (1 + j)) 0 ∧ num4 (blkB s (1 + j)) 0 < s.firm.length ∧ num4 (blkB s (1 + j)) 4 = n) := Iff.rfl
        have hnil : Hid (¬ CopyOk s n j → redoL s n kk = []) := fun h => by
          unfold redoL
          exact if_neg (fun h' => h (h'.2 j hlt))
        obtain ⟨gf, cf, A, cl, c0, _⟩ := (hd.kept honly (by simp)).cells (by omega)
        generalize num4 (blkB s (1 + j)) 0 = m0 at *
        generalize num4 (blkB s (1 + j)) 4 = m4 at *
        generalize strOf (blkB s (1 + j)) = bs at *
        obtain ⟨x0, hx0⟩ : ∃ x : Int, x = (m0 : Int) := ⟨_, rfl⟩
        obtain ⟨x4, hx4⟩ : ∃ x : Int, x = (m4 : Int) := ⟨_, rfl⟩
        rw [← hx0] at a0
        rw [← hx4] at a4
        have x00 : 0 ≤ x0 := by omega
        have x01 : x0 < 4294967296 := by omega
        have x40 : 0 ≤ x4 := by omega
        have x41 : x4 < 4294967296 := by omega
        have hjk : (j : Int) ≤ 40 := by omega
        generalize hNN : s.firm.length = N at *
        replace hx0 := Lib.hid hx0
        replace hx4 := Lib.hid hx4
        replace l0 := Lib.hid l0
        replace l4 := Lib.hid l4
        replace hr := Lib.hid hr
        replace a0 := Lib.hid a0
        replace a4 := Lib.hid a4
        replace hcop := Lib.hid hcop
        replace hbl := Lib.hid hbl
        replace fine := Lib.hid fine
        replace hNN := Lib.hid hNN
        go_wp2_with fail
        refine hr.out.mono ?_
        rintro e w3 ⟨rfl, rfl⟩
        go_wp2_with fail
        refine (a0.out _).mono ?_
        rintro e w4 ⟨rfl, k4⟩
        have d0 := k4.cell c0 (by simp)
        have k04 := honly.trans k4
        by_cases t1 : x0 < 41
        · have hno : Hid (redoL s n kk = []) := hnil.out (fun h => by have := (hcop.out.1 h).1; have := hx0.out; omega)
          clear k4 c0
          go_wp2
          go_ret2
          exact ⟨(hwi.out _).2 (.inr ⟨hno.out, rfl⟩), k04⟩
        by_cases t2 : (N : Int) ≤ x0
        · have hno : Hid (redoL s n kk = []) := hnil.out (fun h => by have := (hcop.out.1 h).2.1; have := hx0.out; omega)
          clear k4 c0
          go_wp2
          go_ret2
          exact ⟨(hwi.out _).2 (.inr ⟨hno.out, rfl⟩), k04⟩
        go_wp2_with fail
        refine (a4.out _).mono ?_
        rintro e w5 ⟨rfl, k5⟩
        go_wp2_with fail
        refine (h4.out _).mono ?_
        rintro e w6 ⟨rfl, k6⟩
        have k06 := (k04.trans k5).trans k6
        clear k4 k5 k6 c0 d0 k04
        by_cases t3 : x4 = z
        · have hok2 : Hid (∀ i, i < j + 1 → CopyOk s n i) := fun i hi => by
            by_cases hij : i = j
            · subst hij
              exact hcop.out.2 ⟨by have := hx0.out; omega, by have := hx0.out; omega, by have := hx4.out; have := hz.out; omega⟩
            · exact hok.out i (by omega)
          have t3' : (x4 != z) = false := by simp [t3]
          replace t3 := Lib.hid t3
          clear hok
          go_wp2
          go_roundw
          case rel => exact ⟨j + 1, by omega, by go_num, hok2, k06⟩
          case measure => simp [intOf]; omega
        · have hno : Hid (redoL s n kk = []) := hnil.out (fun h => by have := (hcop.out.1 h).2.2; have := hx4.out; have := hz.out; omega)
          have t3' : (x4 != z) = true := by simpa using t3
          replace t3 := Lib.hid t3
          clear hok
          go_wp2
          go_ret2
          exact ⟨(hwi.out _).2 (.inr ⟨hno.out, rfl⟩), k06⟩
      · have hjk : j = kk := by omega
        have hyes : Hid (redoL s n kk ≠ []) := by
          have hr : Redoes s n kk := ⟨hkk2, fun i hi => hok.out i (by omega)⟩
          unfold redoL
          rw [if_pos hr]
          exact (show redoHomes s kk ≠ [] from fun h => by
            have := congrArg List.length h
            rw [redoHomes_length] at this
            simp at this
            omega)
        have hge : ¬ 1 + (j : Int) ≤ y := by have := hy.out; omega
        have hyk : Hid (y = (kk : Int)) := hy.out
        clear hok hjk
        go_wp2
        go_ret2
        exact ⟨(hwi.out _).2 (.inl ⟨hyes.out, by rw [← hyk.out]; rfl⟩), honly⟩
  · have hno : openL s = [] := by
      unfold openL
      rw [show markK (blkB s 0) = 0 by rw [markK, if_neg hm]]
      exact redoL_zero _ _
    have hne : ((strOf ((blkB s 0).take 4)).toList == lcom) = false := by
      rw [show (strOf ((blkB s 0).take 4)).toList = (blkB s 0).take 4 from ByteArray.toList_mk _, beq_eq_false_iff_ne]
      exact hm
    generalize strOf ((blkB s 0).take 4) = X at *
    generalize strOf (blkB s 0) = B at *
    unfold lcom at hne
    replace hn0 := Lib.hid hn0
    replace hno := Lib.hid hno
    clear fine hb0 hnow hm
    go_enter Tryz.func56, Tryz.ntmps56
    go_wp2_with fail
    refine hn0.out.mono ?_
    rintro e w1 ⟨rfl, rfl⟩
    go_wp2
    go_ret2
    exact ⟨WholeIs.no hno.out, Only.refl _ _⟩

end Go.Proofs.YthpjkhmkjhgbkaaGreatDoor
