/- TreeRights: whether every list is a tree, and the inode of every Id, are the document's. -/
import Derived.Test.YteiekfccfddmjaaDoorAlive10
namespace Go.Proofs.YteiekfccfddmjaaDoor
open Go.RowKit

theorem getR_yes {l : List Nd} (h : Tree l) (i : Int) : getR l i = getI l i := by rw [getR, if_pos h]
theorem getR_no {l : List Nd} (h : ¬ Tree l) (i : Int) : getR l i = none := by rw [getR, if_neg h]
set_option maxRecDepth 100000 in
set_option maxHeartbeats 4000000 in
theorem treeRights_walk (w : World) (A : Option Addr) (c : Nat) (l : List Nd) (id : Int) (hb : Els ndE 5 w A l) (hl : l.length ≤ 9223372036854775807) (hc : l.length ≤ c) :
    Calls Tryd.prog 3 #[.slice A l.length c, .int .u32 id] w fun e w' => e = .returned (.bool true) ∧ Only [] w w' := by
  have hG := fun W (k : Only [] w W) => great_any W A c l [] [] (hb.kept k (by simp)) hl
  have hR := fun W (k : Only [] w W) (h : l.length ≤ 100) => right_bool W A c l (hb.kept k (by simp)) (by omega) hc
  have hRR := fun W (k : Only [] w W) (h : l.length ≤ 100) => rright_bool W A c l (hb.kept k (by simp)) (by omega)
  have hGe := fun W (k : Only [] w W) (h : l.length ≤ 100) => get_any W A c l id (hb.kept k (by simp)) hc (by omega)
  have hRG := fun W (k : Only [] w W) (h : l.length ≤ 100) => rget_any W A c l id (hb.kept k (by simp)) (by omega)
  replace hG := Lib.hid hG
  replace hR := Lib.hid hR
  replace hRR := Lib.hid hRR
  replace hGe := Lib.hid hGe
  replace hRG := Lib.hid hRG
  go_enter Tryd.func3, Tryd.ntmps3
  go_wp2_with fail
  refine (alive_any _).mono ?_; rintro e w1 ⟨rfl, k1⟩
  go_wp2_with fail
  refine (hG.out _ k1).mono ?_; rintro e w2 ⟨⟨r, rfl, hr⟩, rfl⟩
  cases r with
  | true =>
    go_wp2_with fail
    refine (alive_any _).mono ?_; rintro e w3 ⟨rfl, k3⟩
    go_wp2
    go_ret
    exact ⟨rfl, k1.trans k3⟩
  | false =>
  obtain ⟨h100, _, _⟩ := hr rfl
  have hlI : (l.length : Int) ≤ 100 := by omega
  clear hr
  by_cases hT : Tree l
  · have hRR1 := hRR.out _ k1 h100 true (bool_yes hT)
    have hGe1 := fun W k => hGe.out W k h100
    rw [getR_yes hT] at hGe1
    have hRG1 := fun W k => hRG.out W k h100
    have hR1 := fun W k => hR.out W k h100 true (bool_yes hT)
    have hidx := fun k => idxI_some (t := l) (i := id) (k := k)
    have hidn := idxI_get (t := l) (i := id)
    generalize getI l id = gi at *
    generalize idxI l id = io at *
    replace hRR1 := Lib.hid hRR1
    replace hGe1 := Lib.hid hGe1
    replace hRG1 := Lib.hid hRG1
    replace hR1 := Lib.hid hR1
    replace hT := Lib.hid hT
    cases io with
    | none =>
      simp only [Option.bind_none] at hidn
      subst hidn
      clear hidx
      simp only [Option.getD_none, Option.isSome_none, ndV_zero, idxV] at hGe1 hRG1
      go_wp2_with fail
      refine hRR1.out.mono ?_; rintro e w3 ⟨rfl, k3⟩
      have hk3 := k1.trans k3
      go_wp2_with fail
      refine (hGe1.out _ hk3).mono ?_; rintro e w4 ⟨rfl, k4⟩
      have hk4 := hk3.trans k4
      have hk5 := hk4.alloc (.cells #[.int .u32 0, .int .u32 0, .string ⟨#[]⟩, .bool false, .int .u32 0] 28)
      have b5 := Bx.zero w4
      go_wp2_with fail
      refine (hRG1.out _ hk5).mono ?_; rintro e w6 ⟨rfl, k6⟩
      have hk6 := hk5.trans k6
      have b6 := b5.kept k6 (by simp)
      go_wp2_with fail
      refine (alive_any _).mono ?_; rintro e w7 ⟨rfl, k7⟩
      have hk7 := hk6.trans k7
      have b7 := b6.kept k7 (by simp)
      go_wp2_with fail
      refine (hR1.out _ hk7).mono ?_; rintro e w8 ⟨rfl, k8⟩
      have hk8 := hk7.trans k8
      have b8 := b7.kept k8 (by simp)
      obtain ⟨q0, q1, q2, q3, q4⟩ := b8.cells
      simp only [zeroN, strOf_nil] at q0 q1 q2 q3 q4
      clear b5 b6 b7 b8
      go_wp2_with (refine wpList_eql_nd zeroN zeroN rfl _ _ _ rfl rfl rfl true (decide_eq_true rfl) ?_)
      go_ret
      exact ⟨rfl, hk8⟩
    | some m =>
      obtain ⟨x, hx, hno, hg⟩ := hidx m rfl
      subst hg
      clear hidx hidn hno
      have hlt := (List.getElem?_eq_some_iff.1 hx).1
      have hxe : l[m] = x := (List.getElem?_eq_some_iff.1 hx).2
      obtain ⟨g, o, rfl, hg, hat⟩ := hb.get hlt
      have hcl := fun W (k : Only [] w W) => nds_at (hat.kept k (by simp)) hlt
      rw [hxe] at hcl
      simp only [Option.getD_some, Option.isSome_some, idxV] at hGe1 hRG1
      obtain ⟨x0, x1, x2, x3, x4⟩ := x
      have hv : ndV ⟨x0, x1, x2, x3, x4⟩ = .agg #[.int .u32 x0, .int .u32 x1, .string (strOf x2), .bool x3, .int .u32 x4] := rfl
      rw [hv] at hGe1
      have hm0 : decide ((0 : Int) ≤ (m : Int)) = true := decide_eq_true (by omega)
      have hmI : (m : Int) < (l.length : Int) := by omega
      have hmz : (0 : Int) ≤ (m : Int) := by omega
      replace hcl := Lib.hid hcl
      replace hx := Lib.hid hx
      replace hxe := Lib.hid hxe
      clear hat
      go_wp2_with fail
      refine hRR1.out.mono ?_; rintro e w3 ⟨rfl, k3⟩
      have hk3 := k1.trans k3
      go_wp2_with fail
      refine (hGe1.out _ hk3).mono ?_; rintro e w4 ⟨rfl, k4⟩
      have hk4 := hk3.trans k4
      have hk5 := hk4.alloc (.cells #[.int .u32 x0, .int .u32 x1, .string (strOf x2), .bool x3, .int .u32 x4] 28)
      have b5 := Bx.new w4 ⟨x0, x1, x2, x3, x4⟩
      simp only at b5
      go_wp2_with fail
      refine (hRG1.out _ hk5).mono ?_; rintro e w6 ⟨rfl, k6⟩
      have hk6 := hk5.trans k6
      have b6 := b5.kept k6 (by simp)
      go_wp2_with fail
      refine (alive_any _).mono ?_; rintro e w7 ⟨rfl, k7⟩
      have hk7 := hk6.trans k7
      have b7 := b6.kept k7 (by simp)
      go_wp2_with fail
      refine (hR1.out _ hk7).mono ?_; rintro e w8 ⟨rfl, k8⟩
      have hk8 := hk7.trans k8
      have b8 := b7.kept k8 (by simp)
      obtain ⟨q0, q1, q2, q3, q4⟩ := b8.cells
      try simp only at q0 q1 q2 q3 q4
      obtain ⟨c0, c1, c2, c3, c4⟩ := hcl.out _ hk8
      try simp only at c0 c1 c2 c3 c4
      clear b5 b6 b7 b8
      generalize strOf x2 = xs at *
      go_wp2_with fail
      go_quiet (fail)
      go_wp2
      go_ret
      exact ⟨rfl, hk8.drewN _⟩
  · have hRR1 := hRR.out _ k1 h100 false (bool_no hT)
    have hGe1 := fun W k => hGe.out W k h100
    rw [getR_no hT] at hGe1
    have hRG1 := fun W k => hRG.out W k h100
    have hR1 := fun W k => hR.out W k h100 false (bool_no hT)
    simp only [Option.getD_none, Option.isSome_none, ndV_zero, idxV_kI] at hGe1 hRG1
    generalize kI (idxI l id) = kk at *
    replace hRR1 := Lib.hid hRR1
    replace hGe1 := Lib.hid hGe1
    replace hRG1 := Lib.hid hRG1
    replace hR1 := Lib.hid hR1
    replace hT := Lib.hid hT
    go_wp2_with fail
    refine hRR1.out.mono ?_; rintro e w3 ⟨rfl, k3⟩
    have hk3 := k1.trans k3
    go_wp2_with fail
    refine (hGe1.out _ hk3).mono ?_; rintro e w4 ⟨rfl, k4⟩
    have hk4 := hk3.trans k4
    have hk5 := hk4.alloc (.cells #[.int .u32 0, .int .u32 0, .string ⟨#[]⟩, .bool false, .int .u32 0] 28)
    have b5 := Bx.zero w4
    go_wp2_with fail
    refine (hRG1.out _ hk5).mono ?_; rintro e w6 ⟨rfl, k6⟩
    have hk6 := hk5.trans k6
    have b6 := b5.kept k6 (by simp)
    go_wp2_with fail
    refine (alive_any _).mono ?_; rintro e w7 ⟨rfl, k7⟩
    have hk7 := hk6.trans k7
    have b7 := b6.kept k7 (by simp)
    go_wp2_with fail
    refine (hR1.out _ hk7).mono ?_; rintro e w8 ⟨rfl, k8⟩
    have hk8 := hk7.trans k8
    have b8 := b7.kept k8 (by simp)
    obtain ⟨q0, q1, q2, q3, q4⟩ := b8.cells
    simp only [zeroN, strOf_nil] at q0 q1 q2 q3 q4
    clear b5 b6 b7 b8
    go_wp2_with (refine wpList_eql_nd zeroN zeroN rfl _ _ _ rfl rfl rfl true (decide_eq_true rfl) ?_)
    go_ret
    exact ⟨rfl, hk8⟩
end Go.Proofs.YteiekfccfddmjaaDoor
