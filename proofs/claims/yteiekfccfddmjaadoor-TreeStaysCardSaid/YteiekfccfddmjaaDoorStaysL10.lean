/- TreeStays: what is answered is a tree, what was made is found, all else is found as ahead, and removing it leaves the tree as it was. -/
import Derived.Test.YteiekfccfddmjaaDoorStay2
import Derived.Test.YteiekfccfddmjaaDoorMakesL10
namespace Go.Proofs.YteiekfccfddmjaaDoor
open Go.RowKit

set_option maxRecDepth 100000 in
set_option maxHeartbeats 8000000 in
theorem treeStays_walk (w : World) (A : Option Addr) (c : Nat) (l : List Nd) (p o : List UInt8) (id : Int) (dir : Bool) (hb : Els ndE 5 w A l) (hl : l.length ≤ 9223372036854775807) (hc : l.length ≤ c) :
    Calls Tryd.prog 8 #[.slice A l.length c, .string (strOf p), .string (strOf o), .int .u32 id, .bool dir] w fun e w' => e = .returned (.bool true) ∧ Only [] w w' := by
  have hG := fun W (k : Only [] w W) => great_any W A c l p o (hb.kept k (by simp)) hl
  have hM := fun W (k : Only [] w W) (h : l.length ≤ 100) (hp : p.length ≤ 1000) => make_any W A c l p id dir (hb.kept k (by simp)) hc (by omega) (by omega)
  replace hG := Lib.hid hG
  rcases makeR_cases l p id dir with ⟨h1, h2⟩ | ⟨D, nm, q, k, hsp, hwq, hN, hmk⟩
  · generalize makeR l p id dir = M at *
    obtain ⟨M1, er⟩ := M
    simp only at h1 h2 hM
    subst h1
    have heb : (er != 0) = true := by simpa using h2
    replace hM := Lib.hid hM
    go_enter Tryd.func8, Tryd.ntmps8
    go_wp2_with fail
    refine (alive_any _).mono ?_; rintro e w1 ⟨rfl, k1⟩
    go_wp2_with fail
    refine (hG.out _ k1).mono ?_; rintro e w2 ⟨⟨r, rfl, hr⟩, rfl⟩
    cases r with
    | true =>
      go_wp2_with fail
      refine (alive_any _).mono ?_; rintro e w3 ⟨rfl, k3⟩
      go_wp2
      go_ret
      exact ⟨rfl, k1.trans k3⟩
    | false =>
    obtain ⟨h100, hp1, _⟩ := hr rfl
    clear hr
    go_wp2_with fail
    refine (hM.out _ k1 h100 hp1).mono ?_; rintro e w3 ⟨v, rfl, m3⟩
    have hk3 := k1.trans m3.only
    obtain ⟨A3, c3, rfl, e3, _⟩ := m3.shape ndE_length
    clear m3
    simp only [List.length_nil]
    go_wp2_with fail
    refine (alive_any _).mono ?_; rintro e w4 ⟨rfl, k4⟩
    go_wp2
    go_ret
    exact ⟨rfl, hk3.trans k4⟩
  have hT := hN.tree
  have hfd := hN.find hsp hwq
  have hold := hN.find_old o
  have hnew := hN.find_new o
  have hrm := hN.remove hsp hwq
  have hadd := hN.add
  have hal := addT_length (t := l) (x := ⟨id, D.id, nm, dir, 0⟩)
  have hl40 := hT.len
  rw [hmk] at hM
  simp only at hM hnew hrm
  obtain ⟨d0, hd0⟩ : ∃ d0, d0 = D.id := ⟨_, rfl⟩
  rw [← hd0] at hM hfd hold hnew hrm hadd hal
  generalize addT l ⟨id, d0, nm, dir, 0⟩ = a at *
  have hF2 := fun W (k : Only [] w W) (ho : o.length ≤ 1000) => find_any W A c l o (hb.kept k (by simp)) hc (by omega) (by omega)
  have hF1 := fun W A3 c3 (h3 : Els ndE 5 W A3 a) (hc3 : a.length ≤ c3) (hp : p.length ≤ 1000) => find_any W A3 c3 a p h3 hc3 (by omega) (by omega)
  have hF3 := fun W A3 c3 (h3 : Els ndE 5 W A3 a) (hc3 : a.length ≤ c3) (ho : o.length ≤ 1000) => find_any W A3 c3 a o h3 hc3 (by omega) (by omega)
  have hRt := fun W A3 c3 (h3 : Els ndE 5 W A3 a) (hc3 : a.length ≤ c3) => right_bool W A3 c3 a h3 (by omega) hc3 true (bool_yes hadd)
  have hV := fun W A3 c3 (h3 : Els ndE 5 W A3 a) (hc3 : a.length ≤ c3) (hp : p.length ≤ 1000) => remove_any W A3 c3 a p dir h3 hc3 (by omega) (by omega)
  rw [hfd] at hF1
  rw [hrm] at hV
  simp only at hF1 hV
  have hxv : ndV ⟨id, d0, nm, dir, 0⟩ = .agg #[.int .u32 id, .int .u32 d0, .string (strOf nm), .bool dir, .int .u32 0] := rfl
  rw [hxv] at hF1
  generalize findR l o = F2 at *
  generalize findR a o = F3 at *
  obtain ⟨⟨y0, y1, y2, y3, y4⟩, g⟩ := F2
  obtain ⟨⟨z0, z1, z2, z3, z4⟩, h⟩ := F3
  simp only at hold hnew hF2 hF3
  have hyv : ndV ⟨y0, y1, y2, y3, y4⟩ = .agg #[.int .u32 y0, .int .u32 y1, .string (strOf y2), .bool y3, .int .u32 y4] := rfl
  have hzv : ndV ⟨z0, z1, z2, z3, z4⟩ = .agg #[.int .u32 z0, .int .u32 z1, .string (strOf z2), .bool z3, .int .u32 z4] := rfl
  rw [hyv] at hF2
  rw [hzv] at hF3
  replace hM := Lib.hid hM
  replace hF1 := Lib.hid hF1
  replace hF2 := Lib.hid hF2
  replace hF3 := Lib.hid hF3
  replace hRt := Lib.hid hRt
  replace hV := Lib.hid hV
  replace hold := Lib.hid hold
  replace hnew := Lib.hid hnew
  replace hal := Lib.hid hal
  replace hl40 := Lib.hid hl40
  clear hmk hrm hfd hsp hwq hN hT hadd hd0 hyv hzv
  go_enter Tryd.func8, Tryd.ntmps8
  go_wp2_with fail
  refine (alive_any _).mono ?_; rintro e w1 ⟨rfl, k1⟩
  go_wp2_with fail
  refine (hG.out _ k1).mono ?_; rintro e w2 ⟨⟨r, rfl, hr⟩, rfl⟩
  cases r with
  | true =>
    go_wp2_with fail
    refine (alive_any _).mono ?_; rintro e w3 ⟨rfl, k3⟩
    go_wp2
    go_ret
    exact ⟨rfl, k1.trans k3⟩
  | false =>
  obtain ⟨h100, hp1, ho1⟩ := hr rfl
  clear hr hG
  replace h100 := Lib.hid h100
  replace hp1 := Lib.hid hp1
  replace ho1 := Lib.hid ho1
  go_wp2_with fail
  refine (hM.out _ k1 h100.out hp1.out).mono ?_; rintro e w3 ⟨v, rfl, m3⟩
  have hk3 := k1.trans m3.only
  obtain ⟨A3, c3, rfl, e3, hc3, _⟩ := m3.shape ndE_length
  have hsame := fun W A5 c5 (k : Only [] w W) (h5 : Els ndE 5 W A5 l) => rsame_yes W A5 A c5 c l h5 (hb.kept k (by simp)) (by have := hl40.out; omega)
  replace hsame := Lib.hid hsame
  replace hc3 := Lib.hid hc3
  clear m3 hM
  go_wp2_with fail
  refine (hF1.out _ _ _ e3 hc3.out hp1.out).mono ?_; rintro e w4 ⟨rfl, k4⟩
  have k5 := k4.alloc (.cells #[.int .u32 id, .int .u32 d0, .string (strOf nm), .bool dir, .int .u32 0] 28)
  have bn := Bx.new w4 ⟨id, d0, nm, dir, 0⟩
  simp only at bn
  have e5 := e3.kept k5 (by simp)
  have hk5 := hk3.trans k5
  clear e3 k4 k5
  go_wp2_with fail
  generalize (w4.alloc (.cells #[.int .u32 id, .int .u32 d0, .string (strOf nm), .bool dir, .int .u32 0] 28)) = w5 at *
  generalize w4.heap.size = q4 at *
  refine (hRt.out _ _ _ e5 hc3.out).mono ?_; rintro e w6 ⟨rfl, k6⟩
  have b6 := bn.kept k6 (by simp)
  have e6 := e5.kept k6 (by simp)
  have hk6 := hk5.trans k6
  obtain ⟨s0, s1, s2, s3, s4⟩ := b6.cells
  try simp only at s0 s1 s2 s3 s4
  clear bn e5 hk5 k6
  go_wp2_with fail
  clear s0 s1 s2 s3 s4
  refine (hF2.out _ hk6 ho1.out).mono ?_; rintro e w7 ⟨rfl, k7⟩
  have k8 := k7.alloc (.cells #[.int .u32 y0, .int .u32 y1, .string (strOf y2), .bool y3, .int .u32 y4] 28)
  have by8 := Bx.new w7 ⟨y0, y1, y2, y3, y4⟩
  try simp only at by8
  have b8 := b6.kept k8 (by simp)
  have e8 := e6.kept k8 (by simp)
  have hk8 := hk6.trans k8
  clear b6 e6 hk6 k7 k8
  go_wp2_with fail
  generalize (w7.alloc (.cells #[.int .u32 y0, .int .u32 y1, .string (strOf y2), .bool y3, .int .u32 y4] 28)) = w8 at *
  generalize w7.heap.size = q7 at *
  refine (hF3.out _ _ _ e8 hc3.out ho1.out).mono ?_; rintro e w9 ⟨rfl, k9⟩
  have k10 := k9.alloc (.cells #[.int .u32 z0, .int .u32 z1, .string (strOf z2), .bool z3, .int .u32 z4] 28)
  have bz10 := Bx.new w9 ⟨z0, z1, z2, z3, z4⟩
  try simp only at bz10
  have b10 := b8.kept k10 (by simp)
  have by10 := by8.kept k10 (by simp)
  have e10 := e8.kept k10 (by simp)
  have hk10 := hk8.trans k10
  clear b8 by8 e8 hk8 k9 k10
  have FIN : Hid (∀ W (kW : W = w9.alloc (.cells #[.int .u32 z0, .int .u32 z1, .string (strOf z2), .bool z3, .int .u32 z4] 28)), Els ndE 5 W A3 a ∧ Bx W q4 ⟨id, d0, nm, dir, 0⟩ ∧ Only [] w W) := fun W kW => by subst kW; exact ⟨e10, b10, hk10⟩
  obtain ⟨t0, t1, t2, t3, t4⟩ := by10.cells
  obtain ⟨u0, u1, u2, u3, u4⟩ := bz10.cells
  try simp only at t0 t1 t2 t3 t4
  try simp only at u0 u1 u2 u3 u4
  by_cases hg : g = 0
  · have hzy := hold.out hg
    simp only [Prod.mk.injEq, Nd.mk.injEq] at hzy
    obtain ⟨⟨rfl, rfl, rfl, rfl, rfl⟩, rfl⟩ := hzy
    subst hg
    go_wp2_with (refine wpList_neq_nd ⟨z0, z1, z2, z3, z4⟩ ⟨z0, z1, z2, z3, z4⟩ rfl _ _ _ rfl rfl rfl false (decide_eq_false (fun h => h rfl)) ?_)
    obtain ⟨E, B, K⟩ := FIN.out _ rfl
    clear FIN t0 t1 t2 t3 t4 u0 u1 u2 u3 u4 e10 b10 hk10 by10 bz10
    generalize (w9.alloc (.cells #[.int .u32 z0, .int .u32 z1, .string (strOf z2), .bool z3, .int .u32 z4] 28)) = w10 at *
    generalize w9.heap.size = q9 at *
    refine (hV.out _ _ _ E hc3.out hp1.out).mono ?_; rintro e w11 ⟨v5, rfl, m5⟩
    have k10 := m5.only
    obtain ⟨A5, c5, rfl, e5, _⟩ := m5.shape ndE_length
    clear m5
    have hxv : ndV ⟨id, d0, nm, dir, 0⟩ = .agg #[.int .u32 id, .int .u32 d0, .string (strOf nm), .bool dir, .int .u32 0] := rfl
    rw [hxv]
    have k12 := (Only.refl [] w11).alloc (.cells #[.int .u32 id, .int .u32 d0, .string (strOf nm), .bool dir, .int .u32 0] 28)
    have bx := Bx.new w11 ⟨id, d0, nm, dir, 0⟩
    try simp only at bx
    have B12 := (B.kept k10 (by simp)).kept k12 (by simp)
    have e12 := e5.kept k12 (by simp)
    have K12 := (K.trans k10).trans k12
    go_wp2_with fail
    generalize (w11.alloc (.cells #[.int .u32 id, .int .u32 d0, .string (strOf nm), .bool dir, .int .u32 0] 28)) = w12 at *
    generalize w11.heap.size = q11 at *
    refine (alive_any _).mono ?_; rintro e w13 ⟨rfl, k13⟩
    obtain ⟨s0, s1, s2, s3, s4⟩ := (B12.kept k13 (by simp)).cells
    obtain ⟨r0, r1, r2, r3, r4⟩ := (bx.kept k13 (by simp)).cells
    try simp only at s0 s1 s2 s3 s4
    try simp only at r0 r1 r2 r3 r4
    go_wp2_with (refine wpList_eql_nd ⟨id, d0, nm, dir, 0⟩ ⟨id, d0, nm, dir, 0⟩ rfl _ _ _ rfl rfl rfl true (decide_eq_true rfl) ?_)
    have K13 := K12.trans k13
    refine (hsame.out _ _ _ K13 (e12.kept k13 (by simp))).mono ?_; rintro e w14 ⟨rfl, k14⟩
    go_wp2
    go_ret
    exact ⟨rfl, K13.trans k14⟩
  · have hgb : (g == 0) = false := by rw [beq_eq_false_iff_ne]; exact hg
    have hgb' : (g != 0) = true := by simpa using hg
    by_cases hh : h = 0
    · have hid := hnew.out hh hg
      subst hh
      have hidb : (z0 != id) = false := by rw [hid]; simp
      replace hid := Lib.hid hid
      go_wp2_with fail
      obtain ⟨E, B, K⟩ := FIN.out _ rfl
      clear FIN t0 t1 t2 t3 t4 u0 u1 u2 u3 u4 e10 b10 hk10 by10 bz10
      generalize (w9.alloc (.cells #[.int .u32 z0, .int .u32 z1, .string (strOf z2), .bool z3, .int .u32 z4] 28)) = w10 at *
      generalize w9.heap.size = q9 at *
      refine (hV.out _ _ _ E hc3.out hp1.out).mono ?_; rintro e w11 ⟨v5, rfl, m5⟩
      have k10 := m5.only
      obtain ⟨A5, c5, rfl, e5, _⟩ := m5.shape ndE_length
      clear m5
      have hxv : ndV ⟨id, d0, nm, dir, 0⟩ = .agg #[.int .u32 id, .int .u32 d0, .string (strOf nm), .bool dir, .int .u32 0] := rfl
      rw [hxv]
      have k12 := (Only.refl [] w11).alloc (.cells #[.int .u32 id, .int .u32 d0, .string (strOf nm), .bool dir, .int .u32 0] 28)
      have bx := Bx.new w11 ⟨id, d0, nm, dir, 0⟩
      try simp only at bx
      have B12 := (B.kept k10 (by simp)).kept k12 (by simp)
      have e12 := e5.kept k12 (by simp)
      have K12 := (K.trans k10).trans k12
      go_wp2_with fail
      generalize (w11.alloc (.cells #[.int .u32 id, .int .u32 d0, .string (strOf nm), .bool dir, .int .u32 0] 28)) = w12 at *
      generalize w11.heap.size = q11 at *
      refine (alive_any _).mono ?_; rintro e w13 ⟨rfl, k13⟩
      obtain ⟨s0, s1, s2, s3, s4⟩ := (B12.kept k13 (by simp)).cells
      obtain ⟨r0, r1, r2, r3, r4⟩ := (bx.kept k13 (by simp)).cells
      try simp only at s0 s1 s2 s3 s4
      try simp only at r0 r1 r2 r3 r4
      go_wp2_with (refine wpList_eql_nd ⟨id, d0, nm, dir, 0⟩ ⟨id, d0, nm, dir, 0⟩ rfl _ _ _ rfl rfl rfl true (decide_eq_true rfl) ?_)
      have K13 := K12.trans k13
      refine (hsame.out _ _ _ K13 (e12.kept k13 (by simp))).mono ?_; rintro e w14 ⟨rfl, k14⟩
      go_wp2
      go_ret
      exact ⟨rfl, K13.trans k14⟩
    · have hhb : (h == 0) = false := by rw [beq_eq_false_iff_ne]; exact hh
      go_wp2_with fail
      obtain ⟨E, B, K⟩ := FIN.out _ rfl
      clear FIN t0 t1 t2 t3 t4 u0 u1 u2 u3 u4 e10 b10 hk10 by10 bz10
      generalize (w9.alloc (.cells #[.int .u32 z0, .int .u32 z1, .string (strOf z2), .bool z3, .int .u32 z4] 28)) = w10 at *
      generalize w9.heap.size = q9 at *
      refine (hV.out _ _ _ E hc3.out hp1.out).mono ?_; rintro e w11 ⟨v5, rfl, m5⟩
      have k10 := m5.only
      obtain ⟨A5, c5, rfl, e5, _⟩ := m5.shape ndE_length
      clear m5
      have hxv : ndV ⟨id, d0, nm, dir, 0⟩ = .agg #[.int .u32 id, .int .u32 d0, .string (strOf nm), .bool dir, .int .u32 0] := rfl
      rw [hxv]
      have k12 := (Only.refl [] w11).alloc (.cells #[.int .u32 id, .int .u32 d0, .string (strOf nm), .bool dir, .int .u32 0] 28)
      have bx := Bx.new w11 ⟨id, d0, nm, dir, 0⟩
      try simp only at bx
      have B12 := (B.kept k10 (by simp)).kept k12 (by simp)
      have e12 := e5.kept k12 (by simp)
      have K12 := (K.trans k10).trans k12
      go_wp2_with fail
      generalize (w11.alloc (.cells #[.int .u32 id, .int .u32 d0, .string (strOf nm), .bool dir, .int .u32 0] 28)) = w12 at *
      generalize w11.heap.size = q11 at *
      refine (alive_any _).mono ?_; rintro e w13 ⟨rfl, k13⟩
      obtain ⟨s0, s1, s2, s3, s4⟩ := (B12.kept k13 (by simp)).cells
      obtain ⟨r0, r1, r2, r3, r4⟩ := (bx.kept k13 (by simp)).cells
      try simp only at s0 s1 s2 s3 s4
      try simp only at r0 r1 r2 r3 r4
      go_wp2_with (refine wpList_eql_nd ⟨id, d0, nm, dir, 0⟩ ⟨id, d0, nm, dir, 0⟩ rfl _ _ _ rfl rfl rfl true (decide_eq_true rfl) ?_)
      have K13 := K12.trans k13
      refine (hsame.out _ _ _ K13 (e12.kept k13 (by simp))).mono ?_; rintro e w14 ⟨rfl, k14⟩
      go_wp2
      go_ret
      exact ⟨rfl, K13.trans k14⟩
end Go.Proofs.YteiekfccfddmjaaDoor
