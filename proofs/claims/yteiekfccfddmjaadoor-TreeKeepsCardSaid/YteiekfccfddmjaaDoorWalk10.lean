/- Walking: the program's walk and spot, the document's Walk and Above. -/
import Derived.Test.YteiekfccfddmjaaDoorRsplit10
import Derived.Test.YteiekfccfddmjaaDoorRright10
namespace Go.Proofs.YteiekfccfddmjaaDoor
open Go.RowKit

theorem walkR_step (t : List Nd) (x : Nd) (s : List UInt8) (r : List (List UInt8)) : walkR t x (s :: r) = if x.dir then (match kidN t x.id s with | some y => walkR t y r | none => (zeroN, 7)) else (zeroN, 10) := rfl
theorem nd_vals (x : Nd) : ∃ a b c d e, ndV x = .agg #[.int .u32 a, .int .u32 b, .string c, .bool d, .int .u32 e] := ⟨_, _, _, _, _, rfl⟩
theorem Only.at0 {w w' : World} {g : Nat} {w0 : World} (h : Only [] w w0) (k : Only [g] w0 w') (hg : w.heap.size ≤ g) : Only [] w w' := h.then k (by intro i hi; simp at hi; subst hi; exact .inr hg)

set_option maxRecDepth 100000 in
set_option maxHeartbeats 4000000 in
theorem walk_any (w : World) (A B : Option Addr) (c d : Nat) (l : List Nd) (x0 : Nd) (names : List (List UInt8)) (hb : Els ndE 5 w A l) (hl : l.length ≤ 1048576) (h0 : l[0]? = some x0) (hs : Els strE 1 w B names) (hn : names.length ≤ 1048576) :
    Calls Tryd.prog 45 #[.slice A l.length c, .slice B names.length d] w fun e w' => e = .returned (.tuple #[ndV (walkR l x0 names).1, .int .i64 (walkR l x0 names).2]) ∧ Only [] w w' := by
  have hlI : (l.length : Int) ≤ 1048576 := by omega
  have hl0 : 0 < l.length := (List.getElem?_eq_some_iff.1 h0).1
  have hl0I : (0 : Int) < (l.length : Int) := by omega
  obtain ⟨g, o, rfl, hg, hat⟩ := hb.get hl0
  obtain ⟨a0, a1, a2, a3, a4⟩ := nds_at hat hl0
  have hx0 : l[0] = x0 := (List.getElem?_eq_some_iff.1 h0).2
  rw [Nat.zero_mul, Nat.add_zero, hx0] at a0 a1 a2 a3 a4
  have hC := fun W (k : Only [] w W) i s => child_any W (some ⟨g, o, none⟩) c l i s (hb.kept k (by simp)) hl
  obtain ⟨R, hR⟩ : ∃ R, R = walkR l x0 names := ⟨_, rfl⟩
  rw [← hR]
  replace hx0 := Lib.hid hx0
  replace h0 := Lib.hid h0
  replace hC := Lib.hid hC
  replace hR := Lib.hid hR
  have hk1 : Only [] w (w.alloc (.cells #[.int .u32 0, .int .u32 0, .string ⟨#[]⟩, .bool false, .int .u32 0] 28)) := (Only.refl [] w).alloc _
  have bz := Bx.zero w
  have b0 := Bx.new (w.alloc (.cells #[.int .u32 0, .int .u32 0, .string ⟨#[]⟩, .bool false, .int .u32 0] 28)) x0
  have hsz1 : (w.alloc (.cells #[.int .u32 0, .int .u32 0, .string ⟨#[]⟩, .bool false, .int .u32 0] 28)).heap.size = w.heap.size + 1 := by simp
  have bz2 := bz.alloc (.cells #[.int .u32 x0.id, .int .u32 x0.par, .string (strOf x0.name), .bool x0.dir, .int .u32 x0.size] 28)
  have hk2 := hk1.alloc (.cells #[.int .u32 x0.id, .int .u32 x0.par, .string (strOf x0.name), .bool x0.dir, .int .u32 x0.size] 28)
  rw [hsz1] at b0
  have hat2 := fun W (k : Only [] w W) => hs.kept k (by simp)
  replace hat2 := Lib.hid hat2
  clear hk1 bz
  replace hsz1 := Lib.hid hsz1
  go_enter Tryd.func45, Tryd.ntmps45
  go_wp2_with fail
  try rw [hsz1.out]
  clear a0 a1 a2 a3 a4
  generalize ((w.alloc (.cells #[.int .u32 0, .int .u32 0, .string ⟨#[]⟩, .bool false, .int .u32 0] 28)).alloc (.cells #[.int .u32 x0.id, .int .u32 x0.par, .string (strOf x0.name), .bool x0.dir, .int .u32 x0.size] 28)) = w2 at *
  generalize hq : w.heap.size = q at *
  go_loopw [16] (fun i wr => ∃ (n : Nat) (y : Nd), i = .int .i64 n ∧ n ≤ names.length ∧ Bx wr (q + 1) y ∧ Bx wr q zeroN ∧ Hid (R.1 = (walkR l y (names.drop n)).1 ∧ R.2 = (walkR l y (names.drop n)).2) ∧ Only [] w wr) (fun i _ => names.length - (intOf i).toNat)
  case atStart => exact ⟨0, x0, rfl, Nat.zero_le _, b0, bz2, by rw [hR.out, List.drop_zero]; exact ⟨rfl, rfl⟩, hk2⟩
  case round =>
    clear b0 bz2 hk2
    obtain ⟨n, y, rfl, hnn, by1, bq, hI, hk⟩ := hrel
    obtain ⟨c0, c1, c2, c3, c4⟩ := by1.cells
    by_cases hlt : n < names.length
    · obtain ⟨g2, o2, hB, hg2, hat3⟩ := (hat2.out _ hk).get hlt
      subst hB
      have cs := strs_at hat3 hlt
      have hstep : names.drop n = names[n] :: names.drop (n + 1) := List.drop_eq_getElem_cons hlt
      have hI2 := hI.out
      rw [hstep, walkR_step] at hI2
      have hcall := fun W (k : Only [] w W) => hC.out W k y.id names[n]
      generalize names[n] = nm at *
      replace hstep := Lib.hid hstep
      clear hat3 hI
      cases hyd : y.dir with
      | false =>
        rw [hyd] at c3 hI2
        simp only [Bool.false_eq_true, if_false] at hI2
        obtain ⟨r1, r2⟩ := hI2
        have hv : Hid ((.tuple #[ndV zeroN, .int .i64 10] : Value) = .tuple #[ndV R.1, .int .i64 R.2]) := by rw [r1, r2]; exact rfl
        replace hcall := Lib.hid hcall
        replace hyd := Lib.hid hyd
        clear r1 r2
        go_wp2_with (refine wpList_store_nd zeroN zeroN rfl _ _ rfl q rfl rfl bq ?_; intro w5 b5 k5)
        refine bodyPost_ret (v := .tuple #[ndV zeroN, .int .i64 10]) (results_nd rfl _ _ q rfl _ b5 _ rfl) rfl ?_
        exact ⟨congrArg Ending.returned hv.out, hk.at0 k5 (by omega)⟩
      | true =>
        rw [hyd] at c3 hI2
        simp only [if_true] at hI2
        cases hkid : kidN l y.id nm with
        | none =>
          rw [hkid] at hI2 hcall
          simp only at hI2
          obtain ⟨r1, r2⟩ := hI2
          have hv : Hid ((.tuple #[ndV zeroN, .int .i64 7] : Value) = .tuple #[ndV R.1, .int .i64 R.2]) := by rw [r1, r2]; exact rfl
          simp only [Option.getD_none, Option.isSome_none] at hcall
          replace hcall := Lib.hid hcall
          replace hyd := Lib.hid hyd
          replace hkid := Lib.hid hkid
          clear r1 r2
          go_wp2_with fail
          refine (hcall.out _ hk).mono ?_; rintro e w3 ⟨rfl, k3⟩
          have hk3 := hk.trans k3
          have bq4 : Bx (w3.alloc (.cells #[.int .u32 0, .int .u32 0, .string ⟨#[]⟩, .bool false, .int .u32 0] 28)) q zeroN := (bq.kept k3 (by simp)).alloc _
          simp only [ndV_zero]
          go_wp2_with (refine wpList_store_nd zeroN zeroN rfl _ _ rfl q rfl rfl bq4 ?_; intro w5 b5 k5)
          refine bodyPost_ret (v := .tuple #[ndV zeroN, .int .i64 7]) (results_nd rfl _ _ q rfl _ b5 _ rfl) rfl ?_
          exact ⟨congrArg Ending.returned hv.out, (hk3.alloc _).at0 k5 (by omega)⟩
        | some z =>
          rw [hkid] at hI2 hcall
          simp only at hI2
          simp only [Option.getD_some, Option.isSome_some] at hcall
          obtain ⟨z0, z1, z2, z3, z4, hz⟩ := nd_vals z
          rw [hz] at hcall
          replace hI2 := Lib.hid hI2
          replace hcall := Lib.hid hcall
          replace hyd := Lib.hid hyd
          replace hkid := Lib.hid hkid
          replace hz := Lib.hid hz
          go_wp2_with fail
          refine (hcall.out _ hk).mono ?_; rintro e w3 ⟨rfl, k3⟩
          have hk3 := hk.trans k3
          have by4 : Bx (w3.alloc (.cells #[.int .u32 z0, .int .u32 z1, .string z2, .bool z3, .int .u32 z4] 28)) (q + 1) y := (by1.kept k3 (by simp)).alloc _
          have bq4 : Bx (w3.alloc (.cells #[.int .u32 z0, .int .u32 z1, .string z2, .bool z3, .int .u32 z4] 28)) q zeroN := (bq.kept k3 (by simp)).alloc _
          go_wp2_with (refine wpList_store_nd z y rfl _ _ rfl (q + 1) rfl hz.out.symm by4 ?_; intro w5 b5 k5)
          go_roundw
          case rel => exact ⟨n + 1, z, by go_num, by omega, b5, bq4.kept k5 (by simp), hI2.out, (hk3.alloc _).at0 k5 (by omega)⟩
          case measure => simp [intOf]; omega
    · have hI2 := hI.out
      rw [List.drop_of_length_le (by omega)] at hI2
      simp only [walkR] at hI2
      obtain ⟨r1, r2⟩ := hI2
      have hv : Hid ((.tuple #[ndV y, .int .i64 0] : Value) = .tuple #[ndV R.1, .int .i64 R.2]) := by rw [r1, r2]; exact rfl
      clear r1 r2 hI
      go_wp2_with (refine wpList_store_nd y zeroN rfl _ _ rfl q rfl rfl bq ?_; intro w5 b5 k5)
      refine bodyPost_ret (v := .tuple #[ndV y, .int .i64 0]) (results_nd rfl _ _ q rfl _ b5 _ rfl) rfl ?_
      exact ⟨congrArg Ending.returned hv.out, hk.at0 k5 (by omega)⟩

theorem walkI_step (t : List Nd) (k : Nat) (x : Nd) (s : List UInt8) (r : List (List UInt8)) (h : t[k]? = some x) : walkI t k (s :: r) = if x.dir then (match kidX t x.id s with | some y => walkI t y r | none => (0, 7)) else (0, 10) := by
  rw [walkI, h]
  rfl
set_option maxRecDepth 100000 in
set_option maxHeartbeats 4000000 in
theorem rwalk_any (w : World) (A B : Option Addr) (c d : Nat) (l : List Nd) (names : List (List UInt8)) (hb : Els ndE 5 w A l) (hl : l.length ≤ 1048576) (hl0 : 0 < l.length) (hs : Els strE 1 w B names) (hn : names.length ≤ 1048576) :
    Calls Tryd.prog 46 #[.slice A l.length c, .slice B names.length d] w fun e w' => e = .returned (.tuple #[.int .i64 ((walkI l 0 names).1 : Nat), .int .i64 (walkI l 0 names).2]) ∧ Only [] w w' := by
  have hlI : (l.length : Int) ≤ 1048576 := by omega
  have hC := fun W (k : Only [] w W) i s => rkid_same W A c l i s (hb.kept k (by simp)) hl hl0
  obtain ⟨R, hR⟩ : ∃ R, R = walkI l 0 names := ⟨_, rfl⟩
  rw [← hR]
  replace hC := Lib.hid hC
  replace hR := Lib.hid hR
  have hat2 := fun W (k : Only [] w W) => hs.kept k (by simp)
  replace hat2 := Lib.hid hat2
  go_enter Tryd.func46, Tryd.ntmps46
  go_wp2_with fail
  go_loopw [7, 6] (fun i p wr => ∃ (n k : Nat), i = .int .i64 n ∧ p = .int .i64 k ∧ n ≤ names.length ∧ k < l.length ∧ Hid (R.1 = (walkI l k (names.drop n)).1 ∧ R.2 = (walkI l k (names.drop n)).2) ∧ Only [] w wr) (fun i _ _ => names.length - (intOf i).toNat)
  case atStart => exact ⟨0, 0, rfl, rfl, Nat.zero_le _, hl0, by rw [hR.out, List.drop_zero]; exact ⟨rfl, rfl⟩, Only.refl _ _⟩
  case round =>
    obtain ⟨n, k, rfl, rfl, hnn, hkl, hI, hk⟩ := hrel
    have hkI : (k : Int) < (l.length : Int) := by omega
    have hk0 : (0 : Int) ≤ (k : Int) := by omega
    obtain ⟨g, o, rfl, hg, hat⟩ := hb.get hkl
    obtain ⟨c0, c1, c2, c3, c4⟩ := nds_at (hat.kept hk (by simp)) hkl
    have hky : l[k]? = some l[k] := List.getElem?_eq_getElem hkl
    generalize l[k] = y at *
    by_cases hlt : n < names.length
    · have hnI : (n : Int) < (names.length : Int) := by omega
      have hn0 : (0 : Int) ≤ (n : Int) := by omega
      obtain ⟨g2, o2, hB, hg2, hat3⟩ := (hat2.out _ hk).get hlt
      subst hB
      have cs := strs_at hat3 hlt
      have hstep : names.drop n = names[n] :: names.drop (n + 1) := List.drop_eq_getElem_cons hlt
      have hI2 := hI.out
      rw [hstep, walkI_step _ _ _ _ _ hky] at hI2
      have hcall := fun W (k : Only [] w W) => hC.out W k y.id names[n]
      have hklt := fun m => kidX_lt (t := l) (d := y.id) (s := names[n]) (k := m)
      generalize names[n] = nm at *
      replace hstep := Lib.hid hstep
      replace hky := Lib.hid hky
      clear hat3 hI hat
      cases hyd : y.dir with
      | false =>
        rw [hyd] at c3 hI2
        simp only [Bool.false_eq_true, if_false] at hI2
        obtain ⟨r1, r2⟩ := hI2
        have hv : Hid ((.tuple #[.int .i64 0, .int .i64 10] : Value) = .tuple #[.int .i64 (R.1 : Nat), .int .i64 R.2]) := by rw [r1, r2]; exact rfl
        replace hcall := Lib.hid hcall
        replace hyd := Lib.hid hyd
        clear r1 r2 hklt
        go_wp2
        go_ret2
        exact ⟨congrArg Ending.returned hv.out, hk⟩
      | true =>
        rw [hyd] at c3 hI2
        simp only [if_true] at hI2
        cases hkid : kidX l y.id nm with
        | none =>
          rw [hkid] at hI2 hcall
          simp only at hI2
          obtain ⟨r1, r2⟩ := hI2
          have hv : Hid ((.tuple #[.int .i64 0, .int .i64 7] : Value) = .tuple #[.int .i64 (R.1 : Nat), .int .i64 R.2]) := by rw [r1, r2]; exact rfl
          simp only [idxV] at hcall
          replace hcall := Lib.hid hcall
          replace hyd := Lib.hid hyd
          replace hkid := Lib.hid hkid
          clear r1 r2 hklt
          go_wp2_with fail
          go_quiet (first | (go_at_call 35; refine Calls.quiet_of_same (hcall.out _ (hk.drewN _))))
          go_wp2
          go_ret2
          exact ⟨congrArg Ending.returned hv.out, hk.drewN _⟩
        | some z =>
          have hzl := hklt z hkid
          rw [hkid] at hI2 hcall
          simp only at hI2
          simp only [idxV] at hcall
          have hz0 : ¬ (z : Int) < 0 := by omega
          replace hI2 := Lib.hid hI2
          replace hcall := Lib.hid hcall
          replace hyd := Lib.hid hyd
          replace hkid := Lib.hid hkid
          clear hklt
          go_wp2_with fail
          go_quiet (first | (go_at_call 35; refine Calls.quiet_of_same (hcall.out _ (hk.drewN _))))
          go_wp2
          go_roundw
          case rel => exact ⟨n + 1, z, by go_num, rfl, by omega, hzl, hI2, hk.drewN _⟩
          case measure => simp [intOf]; omega
    · have hI2 := hI.out
      rw [List.drop_of_length_le (by omega)] at hI2
      simp only [walkI] at hI2
      obtain ⟨r1, r2⟩ := hI2
      have hv : Hid ((.tuple #[.int .i64 (k : Nat), .int .i64 0] : Value) = .tuple #[.int .i64 (R.1 : Nat), .int .i64 R.2]) := by rw [r1, r2]; exact rfl
      clear r1 r2 hI
      go_wp2
      go_ret2
      exact ⟨congrArg Ending.returned hv.out, hk⟩
end Go.Proofs.YteiekfccfddmjaaDoor
