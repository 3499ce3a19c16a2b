/- TreeFinds: a path's names, what is walked to, and the names in it, are the document's. -/
import Derived.Test.YteiekfccfddmjaaDoorPlist10
namespace Go.Proofs.YteiekfccfddmjaaDoor
open Go.RowKit

theorem findR_zero {t : List Nd} {p : List UInt8} (h : (findR t p).2 ≠ 0) : (findR t p).1 = zeroN := by
  unfold findR at h ⊢
  by_cases he : errOf t p = 0
  · rw [if_pos he] at h ⊢
    have hT := (errOf_tree he).1
    exact (walk_same hT (namesOf t p) 0 rootN hT.get0).2.2.2 h
  · rw [if_neg he]
theorem listL_len (t : List Nd) (p : List UInt8) : (listL t p).length ≤ t.length := by
  unfold listL
  split
  · simp
  · split
    · simp
    · rw [List.length_mergeSort]
      exact namesIn_len _ _
theorem names_len (p : List UInt8) : ((splitL p).getD []).length ≤ 6 := by
  cases h : splitL p with
  | none => simp
  | some q => exact splitL_le h
set_option maxRecDepth 100000 in
set_option maxHeartbeats 8000000 in
theorem treeFinds_walk (w : World) (A : Option Addr) (c : Nat) (l : List Nd) (p : List UInt8) (hb : Els ndE 5 w A l) (hl : l.length ≤ 9223372036854775807) (hc : l.length ≤ c) :
    Calls Tryd.prog 4 #[.slice A l.length c, .string (strOf p)] w fun e w' => e = .returned (.bool true) ∧ Only [] w w' := by
  have hG := fun W (k : Only [] w W) => great_any W A c l p [] (hb.kept k (by simp)) hl
  have hS := fun W (hp : p.length ≤ 1000) => split_any W p (by omega)
  have hRS := fun W (hp : p.length ≤ 1000) => rsplit_any W p (by omega)
  have hF := fun W (k : Only [] w W) (h : l.length ≤ 100) (hp : p.length ≤ 1000) => find_any W A c l p (hb.kept k (by simp)) hc (by omega) (by omega)
  have hRF := fun W (k : Only [] w W) (h : l.length ≤ 100) (hp : p.length ≤ 1000) => rfind_any W A c l p (hb.kept k (by simp)) (by omega) (by omega)
  have hL := fun W (k : Only [] w W) (h : l.length ≤ 100) (hp : p.length ≤ 1000) => list_any W A c l p (hb.kept k (by simp)) hc (by omega) (by omega)
  have hRL := fun W (k : Only [] w W) (h : l.length ≤ 100) (hp : p.length ≤ 1000) => rlist_any W A c l p (hb.kept k (by simp)) (by omega) (by omega)
  have hz := findR_zero (t := l) (p := p)
  obtain ⟨e1, e2⟩ := findI_same (t := l) (p := p)
  have hll := listL_len l p
  have hnl := names_len p
  generalize (splitL p).getD [] = ns at *
  generalize (splitL p).isSome = sb at *
  obtain ⟨e0, he0⟩ : ∃ e0 : Int, e0 = if sb = true then 0 else 9 := ⟨_, rfl⟩
  simp only [← he0] at hS
  replace he0 := Lib.hid he0
  generalize listL l p = ll at *
  generalize listE l p = le at *
  generalize findR l p = F at *
  generalize findI l p = G at *
  obtain ⟨⟨y0, y1, y2, y3, y4⟩, er⟩ := F
  obtain ⟨k, ek⟩ := G
  have hyv : ndV ⟨y0, y1, y2, y3, y4⟩ = .agg #[.int .u32 y0, .int .u32 y1, .string (strOf y2), .bool y3, .int .u32 y4] := rfl
  simp only at hF hRF e1 e2 hz
  rw [hyv] at hF
  subst e1
  clear hyv
  have hb0 : Hid (Els ndE 5 w A l) := hb
  replace hG := Lib.hid hG
  replace hS := Lib.hid hS
  replace hRS := Lib.hid hRS
  replace hF := Lib.hid hF
  replace hRF := Lib.hid hRF
  replace hL := Lib.hid hL
  replace hRL := Lib.hid hRL
  replace hz := Lib.hid hz
  replace e2 := Lib.hid e2
  replace hll := Lib.hid hll
  replace hnl := Lib.hid hnl
  clear hb
  go_enter Tryd.func4, Tryd.ntmps4
  go_wp2_with fail
  refine (alive_any _).mono ?_; rintro e w1 ⟨rfl, k1⟩
  go_wp2_with fail
  refine (hG.out _ k1).mono ?_; rintro e w2 ⟨⟨r, rfl, hr⟩, rfl⟩
  cases r with
  | true =>
    go_wp2_with fail
    refine (alive_any _).mono ?_; rintro e w3 ⟨rfl, k3⟩
    go_wp2
    go_ret
    exact ⟨rfl, k1.trans k3⟩
  | false =>
  obtain ⟨h100, hp1, _⟩ := hr rfl
  clear hr
  replace h100 := Lib.hid h100
  replace hp1 := Lib.hid hp1
  go_wp2_with fail
  refine (hS.out _ hp1.out).mono ?_; rintro e w3 ⟨B1, d1, rfl, q1, s1, k3⟩
  have hk3 := k1.trans k3
  go_wp2_with fail
  refine (hRS.out _ hp1.out).mono ?_; rintro e w4 ⟨B2, d2, rfl, q2, s2, k4⟩
  have hk4 := hk3.trans k4
  have hsame := fun W (kk : Only [] w4 W) => sametexts_yes W B1 B2 d1 d2 ns ((s1.kept k4 (fun a _ => by simp)).kept kk (fun a _ => by simp)) (s2.kept kk (fun a _ => by simp)) (by have := hnl.out; omega)
  replace hsame := Lib.hid hsame
  clear q1 q2 s1 s2 k3 k4
  go_wp2_with fail
  refine (hF.out _ hk4 h100.out hp1.out).mono ?_; rintro e w5 ⟨rfl, k5⟩
  have k46 := k5.alloc (.cells #[.int .u32 y0, .int .u32 y1, .string (strOf y2), .bool y3, .int .u32 y4] 28)
  have b6 := Bx.new w5 ⟨y0, y1, y2, y3, y4⟩
  simp only at b6
  go_wp2_with fail
  generalize (w5.alloc (.cells #[.int .u32 y0, .int .u32 y1, .string (strOf y2), .bool y3, .int .u32 y4] 28)) = w6 at *
  generalize w5.heap.size = g5 at *
  refine (hRF.out _ (hk4.trans k46) h100.out hp1.out).mono ?_; rintro e w7 ⟨rfl, k7⟩
  have k47 := k46.trans k7
  have b7 := b6.kept k7 (by simp)
  clear b6 k5 k46 k7
  go_wp2_with fail
  refine (hL.out _ (hk4.trans k47) h100.out hp1.out).mono ?_; rintro e w8 ⟨B3, d3, rfl, q3, s3, k8⟩
  have k48 := k47.trans k8
  have b8 := b7.kept k8 (by simp)
  clear b7 k8 k47
  go_wp2_with fail
  refine (hRL.out _ (hk4.trans k48) h100.out hp1.out).mono ?_; rintro e w9 ⟨B4, d4, rfl, q4, s4, k9⟩
  have k49 := k48.trans k9
  have b9 := b8.kept k9 (by simp)
  have hsame2 := fun W (kk : Only [] w9 W) => sametexts_yes W B3 B4 d3 d4 ll ((s3.kept k9 (fun a _ => by simp)).kept kk (fun a _ => by simp)) (s4.kept kk (fun a _ => by simp)) (by have := hll.out; have := h100.out; omega)
  replace hsame2 := Lib.hid hsame2
  clear b8 k9 k48 q3 q4 s3 s4
  go_wp2_with fail
  refine (alive_any _).mono ?_; rintro e w10 ⟨rfl, k10⟩
  go_wp2_with fail
  refine (hsame.out _ (k49.trans k10)).mono ?_; rintro e w11 ⟨rfl, k11⟩
  have k911 := k10.trans k11
  clear k10 k11
  cases sb with
  | true =>
    have h0 : e0 = 0 := he0.out
    subst h0
    go_wp2_with fail
    refine (hsame2.out _ k911).mono ?_; rintro e w12 ⟨rfl, k12⟩
    have k912 := k911.trans k12
    have hk12 := hk4.trans (k49.trans k912)
    obtain ⟨r0, r1, r2, r3, r4⟩ := (b9.kept k912 (by simp)).cells
    try simp only at r0 r1 r2 r3 r4
    by_cases he : ek = 0
    · subst he
      have hx := e2.out rfl
      have hlt := (List.getElem?_eq_some_iff.1 hx).1
      have hxe : l[k] = _ := (List.getElem?_eq_some_iff.1 hx).2
      obtain ⟨g, o, rfl, hg, hat⟩ := hb0.out.get hlt
      obtain ⟨c0, c1, c2, c3, c4⟩ := nds_at (hat.kept hk12 (by simp)) hlt
      rw [hxe] at c0 c1 c2 c3 c4
      simp only at c0 c1 c2 c3 c4
      have hkI : (k : Int) < (l.length : Int) := by omega
      have hkz : (0 : Int) ≤ (k : Int) := by omega
      replace hx := Lib.hid hx
      replace hxe := Lib.hid hxe
      clear hat b9
      generalize strOf y2 = ys at *
      go_wp2_with fail
      go_quiet (fail)
      go_wp2
      go_ret
      exact ⟨rfl, hk12.drewN _⟩
    · have heb : (ek != 0) = true := by simpa using he
      have hzz := hz.out he
      simp only [zeroN, Nd.mk.injEq] at hzz
      obtain ⟨rfl, rfl, rfl, rfl, rfl⟩ := hzz
      rw [strOf_nil] at r2
      go_wp2_with (refine wpList_eql_nd zeroN zeroN rfl _ _ _ rfl rfl rfl true (decide_eq_true rfl) ?_)
      go_ret
      exact ⟨rfl, hk12⟩
  | false =>
    have h0 : e0 = 9 := he0.out
    subst h0
    go_wp2_with fail
    refine (hsame2.out _ k911).mono ?_; rintro e w12 ⟨rfl, k12⟩
    have k912 := k911.trans k12
    have hk12 := hk4.trans (k49.trans k912)
    obtain ⟨r0, r1, r2, r3, r4⟩ := (b9.kept k912 (by simp)).cells
    try simp only at r0 r1 r2 r3 r4
    by_cases he : ek = 0
    · subst he
      have hx := e2.out rfl
      have hlt := (List.getElem?_eq_some_iff.1 hx).1
      have hxe : l[k] = _ := (List.getElem?_eq_some_iff.1 hx).2
      obtain ⟨g, o, rfl, hg, hat⟩ := hb0.out.get hlt
      obtain ⟨c0, c1, c2, c3, c4⟩ := nds_at (hat.kept hk12 (by simp)) hlt
      rw [hxe] at c0 c1 c2 c3 c4
      simp only at c0 c1 c2 c3 c4
      have hkI : (k : Int) < (l.length : Int) := by omega
      have hkz : (0 : Int) ≤ (k : Int) := by omega
      replace hx := Lib.hid hx
      replace hxe := Lib.hid hxe
      clear hat b9
      generalize strOf y2 = ys at *
      go_wp2_with fail
      go_quiet (fail)
      go_wp2
      go_ret
      exact ⟨rfl, hk12.drewN _⟩
    · have heb : (ek != 0) = true := by simpa using he
      have hzz := hz.out he
      simp only [zeroN, Nd.mk.injEq] at hzz
      obtain ⟨rfl, rfl, rfl, rfl, rfl⟩ := hzz
      rw [strOf_nil] at r2
      go_wp2_with (refine wpList_eql_nd zeroN zeroN rfl _ _ _ rfl rfl rfl true (decide_eq_true rfl) ?_)
      go_ret
      exact ⟨rfl, hk12⟩
end Go.Proofs.YteiekfccfddmjaaDoor
