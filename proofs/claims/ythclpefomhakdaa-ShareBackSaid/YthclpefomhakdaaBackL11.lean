/- ShareBack: what was added is found, and dropped again leaves the list as it was; what is answered is right. -/
import Derived.Test.YthclpefomhakdaaOrderL11
import Derived.Test.YthclpefomhakdaaDropsL11
namespace Go.Proofs.Ythclpefomhakdaa
open Go.RowKit

set_option linter.unusedVariables false
theorem dropR_back {l : List Opn} {o : Opn} (h : MayAdd l o) : dropR (putO l o) ⟨o.client, o.handle, 0, 0, 0⟩ = (l, o, 0) := by
  unfold dropR
  rw [if_pos h.put]
  have e : posO (putO l o) ⟨o.client, o.handle, 0, 0, 0⟩ = posO (putO l o) o := posO_key _ o
  simp only [add_find h, e]
  rw [add_drop h]
set_option maxRecDepth 100000 in
set_option maxHeartbeats 8000000 in
theorem shareBack_walk (w : World) (A : Option Addr) (c : Nat) (l : List Opn) (o : Opn) (a : Int) (hb : Els opE 5 w A l) (hl : l.length ≤ 9223372036854775807) (hc : l.length ≤ c) :
    Calls Try.prog 6 #[.slice A l.length c, opV o, .int .u32 a] w fun e w' => e = .returned (.bool true) ∧ Only [] w w' := by
  have hS := fun W (k : Only [] w W) => add_any W A c l o (hb.kept k (by simp)) hl hc
  have hL1 := addR_length l o
  have bo := Bx.new w o
  have k0 := (Only.refl [] w).alloc (.cells #[.int .u32 o.client, .int .u32 o.handle, .int .u32 o.file, .int .u32 o.access, .int .u32 (o.deny : Int)] 27)
  have hz := addR_zero (l := l) (o := o)
  have hn := addR_nz (l := l) (o := o)
  have hF := fun W A c L (h : Els opE 5 W A L) (h2 : L.length ≤ 9223372036854775807) => find_any W A c L o.client o.handle h h2
  have hD := fun W A c L (h : Els opE 5 W A L) (h2 : L.length ≤ 9223372036854775807) (h3 : L.length ≤ c) => drop_any W A c L o.client o.handle h h2 h3
  have hC := fun W A c L (h : Els opE 5 W A L) (h2 : L.length ≤ 9223372036854775807) (h3 : L.length ≤ c) => clear_any W A c L a h h2 h3
  have hR := fun W A c L (h : Els opE 5 W A L) (h2 : L.length ≤ 9223372036854775807) (h3 : L.length ≤ c) => right_any W A c L h h2 h3
  have hfin : (addR l o).2 = 0 → RightP (addR l o).1 ∧ findK (addR l o).1 o.client o.handle = some o ∧ dropR (addR l o).1 ⟨o.client, o.handle, 0, 0, 0⟩ = (l, o, 0) ∧ clearR (addR l o).1 a = (clearL (addR l o).1 a, 0) ∧ RightP (clearL (addR l o).1 a) := fun h => by
    obtain ⟨m, e⟩ := hz h
    rw [e]
    exact ⟨m.put, add_find m, dropR_back m, by unfold clearR; rw [if_pos m.put], m.put.sub (clear_sub _ a)⟩
  clear hz
  generalize addR l o = X at *
  obtain ⟨X1, X2⟩ := X
  simp only at hfin hn hL1
  have hF1 := fun W A c h h2 => hF W A c X1 h h2
  have hD1 := fun W A c h h2 h3 => hD W A c X1 h h2 h3
  have hC1 := fun W A c h h2 h3 => hC W A c X1 h h2 h3
  have hR1 := fun W A c h h2 h3 => hR W A c X1 h h2 h3
  have hR2 := fun W A c h h2 h3 => hR W A c (clearL X1 a) h h2 h3
  have hcn := fun x (hx : x ∈ clearL X1 a) => clear_no hx
  have hcl := (clear_sub X1 a).length_le
  clear hF hD hC hR
  generalize clearL X1 a = Z at *
  obtain ⟨o0, o1, o2, o3, o4⟩ := o
  have hv : opV ⟨o0, o1, o2, o3, o4⟩ = .agg #[.int .u32 o0, .int .u32 o1, .int .u32 o2, .int .u32 o3, .int .u32 (o4 : Int)] := rfl
  simp only at bo k0 hF1 hD1 hfin
  replace hn := Lib.hid hn
  replace hL1 := Lib.hid hL1
  replace hcl := Lib.hid hcl
  replace hcn := Lib.hid hcn
  have hS' := hS
  rw [hv] at hS' ⊢
  replace hS := Lib.hid hS'
  clear hS'
  go_enter Try.func6, Try.ntmps6
  go_wp2_with fail
  refine (alive_any _).mono ?_; rintro e w1 ⟨rfl, k1'⟩
  have k1 := k0.trans k1'
  have p1 := Bx.kept bo k1' (by simp)
  generalize w.heap.size = q at *
  clear bo k1' k0
  by_cases h100 : (100 : Int) < (l.length : Int)
  · have d100 : decide ((100 : Int) < (l.length : Int)) = true := decide_eq_true h100
    go_wp2_with fail
    refine (alive_any _).mono ?_; rintro e wz ⟨rfl, kz⟩
    go_wp2
    go_ret
    exact ⟨rfl, k1.trans kz⟩
  have d100 : decide ((100 : Int) < (l.length : Int)) = false := decide_eq_false h100
  have hl100 : l.length ≤ 100 := by omega
  replace h100 := Lib.hid h100
  obtain ⟨c0, c1, c2, c3, c4⟩ := p1.cells
  simp only at c0 c1 c2 c3 c4
  replace hfin := Lib.hid hfin
  replace hF1 := Lib.hid hF1
  replace hD1 := Lib.hid hD1
  replace hC1 := Lib.hid hC1
  replace hR1 := Lib.hid hR1
  replace hR2 := Lib.hid hR2
  replace hv := Lib.hid hv
  go_wp2_with fail
  refine (hS.out _ k1).mono ?_; rintro e w2 ⟨v2, rfl, m2⟩
  have k2 := k1.trans m2.only
  have p2 := Bx.kept p1 m2.only (by simp)
  obtain ⟨A2, d2, rfl, e2, l2, _⟩ := m2.shape opE_length
  clear c0 c1 c2 c3 c4 p1 m2
  simp only at e2 l2 ⊢
  by_cases hx : X2 = 0
  rotate_left
  · have dx : (X2 != 0) = true := by simpa using hx
    have hnil : X1 = [] := hn.out hx
    subst hnil
    replace hx := Lib.hid hx
    go_wp2_with fail
    refine (alive_any _).mono ?_; rintro e wz ⟨rfl, kz⟩
    go_wp2
    go_ret
    exact ⟨rfl, k2.trans kz⟩
  have dx : (X2 != 0) = false := by simpa using hx
  obtain ⟨g1, g2, g3, g4, g5⟩ := hfin.out hx
  have hxl : X1.length ≤ 1000 := by have := hL1.out; omega
  have hzl : Z.length ≤ 1000 := by have := hcl.out; omega
  have hF2 := fun W (k : Only [] w2 W) => hF1.out W A2 d2 (e2.kept k (by simp)) (by omega)
  have hD2 := fun W (k : Only [] w2 W) => hD1.out W A2 d2 (e2.kept k (by simp)) (by omega) l2
  have hC2 := fun W (k : Only [] w2 W) => hC1.out W A2 d2 (e2.kept k (by simp)) (by omega) l2
  have hR3 := fun W (k : Only [] w2 W) => hR1.out W A2 d2 (e2.kept k (by simp)) (by omega) l2
  rw [g2] at hF2
  rw [g3] at hD2
  rw [g4] at hC2
  rw [decide_eq_true g1] at hR3
  have hg5 := decide_eq_true g5
  simp only [Option.getD_some, Option.isSome_some, hv.out] at hF2
  replace hx := Lib.hid hx
  replace g1 := Lib.hid g1
  replace g2 := Lib.hid g2
  replace g3 := Lib.hid g3
  replace g4 := Lib.hid g4
  replace g5 := Lib.hid g5
  replace hg5 := Lib.hid hg5
  replace hF2 := Lib.hid hF2
  replace hD2 := Lib.hid hD2
  replace hC2 := Lib.hid hC2
  replace hR3 := Lib.hid hR3
  clear hF1 hD1 hC1 hR1
  obtain ⟨c0, c1, c2, c3, c4⟩ := p2.cells
  simp only at c0 c1 c2 c3 c4
  go_wp2_with fail
  refine (hF2.out _ (Only.refl _ _)).mono ?_; rintro e w3 ⟨rfl, k3'⟩
  have p3 := Bx.kept p2 k3' (by simp)
  have b3 := Bx.new w3 ⟨o0, o1, o2, o3, o4⟩
  simp only at b3
  have ka : Only [] w3 (w3.alloc (.cells #[.int .u32 o0, .int .u32 o1, .int .u32 o2, .int .u32 o3, .int .u32 (o4 : Int)] 27)) := (Only.refl [] w3).alloc _
  have k3a := k3'.trans ka
  have p3a := Bx.kept p3 ka (by simp)
  clear c0 c1 c2 c3 c4 p2
  obtain ⟨c0, c1, c2, c3, c4⟩ := p3a.cells
  simp only at c0 c1 c2 c3 c4
  go_wp2_with fail
  refine (hD2.out _ k3a).mono ?_; rintro e w4 ⟨v4, rfl, m4⟩
  have k4 := k3a.trans m4.only
  have p4 := Bx.kept p3a m4.only (by simp)
  have b34 := Bx.kept b3 m4.only (by simp)
  generalize w3.heap.size = q3 at *
  obtain ⟨A4, d4, rfl, e4, l4, _⟩ := m4.shape opE_length
  simp only [hv.out] at e4 l4 ⊢
  clear m4 b3 p3 p3a k3a ka c0 c1 c2 c3 c4
  have b4 := Bx.new w4 ⟨o0, o1, o2, o3, o4⟩
  simp only at b4
  have ka : Only [] w4 (w4.alloc (.cells #[.int .u32 o0, .int .u32 o1, .int .u32 o2, .int .u32 o3, .int .u32 (o4 : Int)] 27)) := (Only.refl [] w4).alloc _
  have k4a := k4.trans ka
  have e4a := e4.kept ka (by simp)
  have p4a := Bx.kept p4 ka (by simp)
  have b34a := Bx.kept b34 ka (by simp)
  go_wp2_with fail
  refine (hC2.out _ k4a).mono ?_; rintro e w5 ⟨v5, rfl, m5⟩
  have k5 := k4a.trans m5.only
  have e45 := e4a.kept m5.only (by simp)
  have p5 := Bx.kept p4a m5.only (by simp)
  have b35 := Bx.kept b34a m5.only (by simp)
  have b45 := Bx.kept b4 m5.only (by simp)
  generalize w4.heap.size = q4 at *
  obtain ⟨A5, d5, rfl, e5, l5, _⟩ := m5.shape opE_length
  simp only at e5 l5 ⊢
  clear m5 b4 p4 p4a b34 b34a e4 e4a k4a ka
  have hR6 := hR2.out w5 A5 d5 e5 (by omega) l5
  rw [hg5.out] at hR6
  replace hR6 := Lib.hid hR6
  clear hR2
  go_wp2_with fail
  refine hR6.out.mono ?_; rintro e w6 ⟨rfl, k6'⟩
  have k6 := k5.trans k6'
  have e46 := e45.kept k6' (by simp)
  have e56 := e5.kept k6' (by simp)
  have p6 := Bx.kept p5 k6' (by simp)
  have b36 := Bx.kept b35 k6' (by simp)
  have b46 := Bx.kept b45 k6' (by simp)
  clear e45 e5 p5 b35 b45 k6' k5
  have hbl := hb.kept (k2.trans k6) (by simp)
  have hsame := fun W (k : Only [] w6 W) => rsame_yes W A4 A d4 c l (e46.kept k (by simp)) (hbl.kept k (by simp)) (by omega)
  replace hsame := Lib.hid hsame
  have hR7 := fun W (k : Only [] w6 W) => hR3.out W (k6.trans k)
  replace hR7 := Lib.hid hR7
  have hzn : Hid (∀ (n : Nat) (hn : n < Z.length), Z[n].client ≠ a) := fun n hn => hcn.out _ (List.getElem_mem hn)
  clear e46 hbl
  go_wp2_with fail
  go_loopw [16] (fun i wr => ∃ n : Nat, n ≤ Z.length ∧ i = .int .i64 n ∧ wr = w6) (fun i _ => Z.length - (intOf i).toNat)
  case atStart => exact ⟨0, Nat.zero_le _, rfl, rfl⟩
  case round =>
    obtain ⟨n, hn, rfl, rfl⟩ := hrel
    by_cases hlt : n < Z.length
    · obtain ⟨g, o, rfl, hg, hat⟩ := e56.get hlt
      obtain ⟨c0, c1, c2, c3, c4⟩ := ops_at hat hlt
      have hne := hzn.out n hlt
      generalize Z[n] = x at *
      obtain ⟨x0, x1, x2, x3, x4⟩ := x
      simp only at c0 c1 c2 c3 c4 hne
      have d1 : (x0 == a) = false := by simpa using hne
      replace hne := Lib.hid hne
      clear hat
      go_wp2
      go_roundw
      case rel => exact ⟨n + 1, by omega, by go_num, by trivial⟩
      case measure => simp [intOf]; omega
    · go_wp2_with fail
      refine (alive_any _).mono ?_; rintro e w7 ⟨rfl, k7⟩
      go_wp2_with fail
      refine (hR7.out _ k7).mono ?_; rintro e w8 ⟨rfl, k8'⟩
      have k8 := k7.trans k8'
      obtain ⟨c0, c1, c2, c3, c4⟩ := (Bx.kept p6 k8 (by simp)).cells
      obtain ⟨f0, f1, f2, f3, f4⟩ := (Bx.kept b36 k8 (by simp)).cells
      obtain ⟨s0, s1, s2, s3, s4⟩ := (Bx.kept b46 k8 (by simp)).cells
      simp only at c0 c1 c2 c3 c4 f0 f1 f2 f3 f4 s0 s1 s2 s3 s4
      have hd : decide ((⟨o0, o1, o2, o3, o4⟩ : Opn) = ⟨o0, o1, o2, o3, o4⟩) = true := by simp
      go_wp2_with (refine wpList_eql_op ⟨o0, o1, o2, o3, o4⟩ ⟨o0, o1, o2, o3, o4⟩ rfl _ _ _ rfl rfl rfl true hd ?_)
      refine (hsame.out _ k8).mono ?_; rintro e w9 ⟨rfl, k9⟩
      go_wp2
      go_ret
      exact ⟨rfl, (k2.trans k6).trans (k8.trans k9)⟩
end Go.Proofs.Ythclpefomhakdaa
