/- ShareDrops: the list with one less, or without a client's, is the document's. -/
import Derived.Test.YthclpefomhakdaaAlive11
import Derived.Test.YthclpefomhakdaaDrp11
import Derived.Test.YthclpefomhakdaaRdr11
namespace Go.Proofs.Ythclpefomhakdaa
open Go.RowKit

set_option linter.unusedVariables false
theorem dropR_length (l : List Opn) (t : Opn) : (dropR l t).1.length ≤ l.length := by
  unfold dropR
  split
  · split
    · exact (cut_sub l _).length_le
    · simp
  · simp
theorem clearR_length (l : List Opn) (a : Int) : (clearR l a).1.length ≤ l.length := by
  unfold clearR
  split
  · exact (clear_sub l a).length_le
  · simp
set_option maxRecDepth 100000 in
set_option maxHeartbeats 8000000 in
theorem shareDrops_walk (w : World) (A : Option Addr) (c : Nat) (l : List Opn) (a h : Int) (hb : Els opE 5 w A l) (hl : l.length ≤ 9223372036854775807) (hc : l.length ≤ c) :
    Calls Try.prog 5 #[.slice A l.length c, .int .u32 a, .int .u32 h] w fun e w' => e = .returned (.bool true) ∧ Only [] w w' := by
  have hD := fun W (k : Only [] w W) => drop_any W A c l a h (hb.kept k (by simp)) hl hc
  have hRD := fun W (k : Only [] w W) => rdrop_any W A c l a h (hb.kept k (by simp)) hl hc
  have hC := fun W (k : Only [] w W) => clear_any W A c l a (hb.kept k (by simp)) hl hc
  have hRC := fun W (k : Only [] w W) => rclear_any W A c l a (hb.kept k (by simp)) hl
  have hlen := dropR_length l ⟨a, h, 0, 0, 0⟩
  have hlen2 := clearR_length l a
  generalize dropR l ⟨a, h, 0, 0, 0⟩ = R at *
  generalize clearR l a = S at *
  obtain ⟨R1, ⟨x0, x1, x2, x3, x4⟩, R2⟩ := R
  obtain ⟨S1, S2⟩ := S
  simp only at hlen hlen2
  replace hD := Lib.hid hD
  replace hRD := Lib.hid hRD
  replace hC := Lib.hid hC
  replace hRC := Lib.hid hRC
  replace hlen := Lib.hid hlen
  replace hlen2 := Lib.hid hlen2
  go_enter Try.func5, Try.ntmps5
  go_wp2_with fail
  refine (alive_any _).mono ?_; rintro e w1 ⟨rfl, k1⟩
  by_cases h100 : (100 : Int) < (l.length : Int)
  · have d100 : decide ((100 : Int) < (l.length : Int)) = true := decide_eq_true h100
    go_wp2_with fail
    refine (alive_any _).mono ?_; rintro e wz ⟨rfl, kz⟩
    go_wp2
    go_ret
    exact ⟨rfl, k1.trans kz⟩
  have d100 : decide ((100 : Int) < (l.length : Int)) = false := decide_eq_false h100
  have hl100 : l.length ≤ 100 := by omega
  replace h100 := Lib.hid h100
  go_wp2_with fail
  refine (hD.out _ k1).mono ?_; rintro e w2 ⟨v2, rfl, m2⟩
  have k2 := k1.trans m2.only
  obtain ⟨A2, d2, rfl, e2, _⟩ := m2.shape opE_length
  simp only [opV] at e2 ⊢
  clear m2
  have b2 := Bx.new w2 ⟨x0, x1, x2, x3, x4⟩
  simp only at b2
  have ka : Only [] w2 (w2.alloc (.cells #[.int .u32 x0, .int .u32 x1, .int .u32 x2, .int .u32 x3, .int .u32 (x4 : Int)] 27)) := (Only.refl [] w2).alloc _
  have k2a := k2.trans ka
  have e2a := e2.kept ka (by simp)
  go_wp2_with fail
  refine (hRD.out _ k2a).mono ?_; rintro e w3 ⟨v3, rfl, m3⟩
  have k3 := k2a.trans m3.only
  have e23 := e2a.kept m3.only (by simp)
  have b23 := Bx.kept b2 m3.only (by simp)
  generalize w2.heap.size = q2 at *
  obtain ⟨A3, d3, rfl, e3, _⟩ := m3.shape opE_length
  simp only [opV] at e3 ⊢
  clear m3 b2 e2 e2a k2a ka k2
  have b3 := Bx.new w3 ⟨x0, x1, x2, x3, x4⟩
  simp only at b3
  have ka : Only [] w3 (w3.alloc (.cells #[.int .u32 x0, .int .u32 x1, .int .u32 x2, .int .u32 x3, .int .u32 (x4 : Int)] 27)) := (Only.refl [] w3).alloc _
  have k3a := k3.trans ka
  have e3a := e3.kept ka (by simp)
  have e23a := e23.kept ka (by simp)
  have b23a := Bx.kept b23 ka (by simp)
  go_wp2_with fail
  refine (hC.out _ k3a).mono ?_; rintro e w4 ⟨v4, rfl, m4⟩
  have k4 := k3a.trans m4.only
  have e24 := e23a.kept m4.only (by simp)
  have e34 := e3a.kept m4.only (by simp)
  have b24 := Bx.kept b23a m4.only (by simp)
  have b34 := Bx.kept b3 m4.only (by simp)
  generalize w3.heap.size = q3 at *
  obtain ⟨A4, d4, rfl, e4, _⟩ := m4.shape opE_length
  simp only at e4
  clear m4 b3 b23 b23a e3 e3a e23 e23a k3a ka k3
  go_wp2_with fail
  refine (hRC.out _ k4).mono ?_; rintro e w5 ⟨v5, rfl, m5⟩
  have k5 := k4.trans m5.only
  have e25 := e24.kept m5.only (by simp)
  have e35 := e34.kept m5.only (by simp)
  have e45 := e4.kept m5.only (by simp)
  have b25 := Bx.kept b24 m5.only (by simp)
  have b35 := Bx.kept b34 m5.only (by simp)
  obtain ⟨A5, d5, rfl, e5, _⟩ := m5.shape opE_length
  simp only at e5
  have hs1 := fun W (k : Only [] w5 W) => rsame_yes W A2 A3 d2 d3 R1 (e25.kept k (by simp)) (e35.kept k (by simp)) (by have := hlen.out; omega)
  have hs2 := fun W (k : Only [] w5 W) => rsame_yes W A4 A5 d4 d5 S1 (e45.kept k (by simp)) (e5.kept k (by simp)) (by have := hlen2.out; omega)
  replace hs1 := Lib.hid hs1
  replace hs2 := Lib.hid hs2
  clear m5 e24 e34 e4 e25 e35 e45 e5 b24 b34 k4
  go_wp2_with fail
  refine (alive_any _).mono ?_; rintro e w6 ⟨rfl, k6⟩
  go_wp2_with fail
  refine (hs1.out _ k6).mono ?_; rintro e w7 ⟨rfl, k7'⟩
  have k7 := k6.trans k7'
  obtain ⟨c0, c1, c2, c3, c4⟩ := (Bx.kept b25 k7 (by simp)).cells
  obtain ⟨f0, f1, f2, f3, f4⟩ := (Bx.kept b35 k7 (by simp)).cells
  simp only at c0 c1 c2 c3 c4 f0 f1 f2 f3 f4
  clear b25 b35
  have hd : decide ((⟨x0, x1, x2, x3, x4⟩ : Opn) = ⟨x0, x1, x2, x3, x4⟩) = true := by simp
  go_wp2_with (refine wpList_eql_op ⟨x0, x1, x2, x3, x4⟩ ⟨x0, x1, x2, x3, x4⟩ rfl _ _ _ rfl rfl rfl true hd ?_)
  refine (hs2.out _ k7).mono ?_; rintro e w8 ⟨rfl, k8⟩
  go_wp2
  go_ret
  exact ⟨by simp, k5.trans (k7.trans k8)⟩
end Go.Proofs.Ythclpefomhakdaa
