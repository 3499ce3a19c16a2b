/- ShareAdds: the list with one more open is the document's. -/
import Derived.Test.YthclpefomhakdaaAlive11
import Derived.Test.YthclpefomhakdaaRad11
namespace Go.Proofs.Ythclpefomhakdaa
open Go.RowKit

set_option linter.unusedVariables false
theorem addR_length (l : List Opn) (o : Opn) : (addR l o).1.length ≤ l.length + 1 := by
  unfold addR
  split
  · have := (put_perm l o).length_eq
    simp at this
    simp only [this]
    omega
  · simp
set_option maxRecDepth 100000 in
set_option maxHeartbeats 8000000 in
theorem shareAdds_walk (w : World) (A : Option Addr) (c : Nat) (l : List Opn) (o : Opn) (hb : Els opE 5 w A l) (hl : l.length ≤ 9223372036854775807) (hc : l.length ≤ c) :
    Calls Try.prog 4 #[.slice A l.length c, opV o] w fun e w' => e = .returned (.bool true) ∧ Only [] w w' := by
  have hS := fun W (k : Only [] w W) => add_any W A c l o (hb.kept k (by simp)) hl hc
  have hR := fun W (k : Only [] w W) => radd_any W A c l o (hb.kept k (by simp)) hl hc
  have hlen := addR_length l o
  have bo := Bx.new w o
  have k0 := (Only.refl [] w).alloc (.cells #[.int .u32 o.client, .int .u32 o.handle, .int .u32 o.file, .int .u32 o.access, .int .u32 (o.deny : Int)] 27)
  generalize addR l o = R at *
  obtain ⟨R1, R2⟩ := R
  obtain ⟨o0, o1, o2, o3, o4⟩ := o
  have hv : opV ⟨o0, o1, o2, o3, o4⟩ = .agg #[.int .u32 o0, .int .u32 o1, .int .u32 o2, .int .u32 o3, .int .u32 (o4 : Int)] := rfl
  rw [hv] at hS hR ⊢
  simp only at hlen bo k0
  clear hv
  replace hS := Lib.hid hS
  replace hR := Lib.hid hR
  replace hlen := Lib.hid hlen
  go_enter Try.func4, Try.ntmps4
  go_wp2_with fail
  refine (alive_any _).mono ?_; rintro e w1 ⟨rfl, k1'⟩
  have k1 := k0.trans k1'
  have b1 := Bx.kept bo k1' (by simp)
  generalize w.heap.size = q at *
  clear bo k1' k0
  by_cases h100 : (100 : Int) < (l.length : Int)
  · have d100 : decide ((100 : Int) < (l.length : Int)) = true := decide_eq_true h100
    go_wp2_with fail
    refine (alive_any _).mono ?_; rintro e wz ⟨rfl, kz⟩
    go_wp2
    go_ret
    exact ⟨rfl, k1.trans kz⟩
  have d100 : decide ((100 : Int) < (l.length : Int)) = false := decide_eq_false h100
  have hl100 : l.length ≤ 100 := by omega
  replace h100 := Lib.hid h100
  obtain ⟨c0, c1, c2, c3, c4⟩ := b1.cells
  simp only at c0 c1 c2 c3 c4
  go_wp2_with fail
  refine (hS.out _ k1).mono ?_; rintro e w2 ⟨v2, rfl, m2⟩
  have k2 := k1.trans m2.only
  have b2 := Bx.kept b1 m2.only (by simp)
  obtain ⟨A2, d2, rfl, e2, _⟩ := m2.shape opE_length
  clear c0 c1 c2 c3 c4 b1 m2
  obtain ⟨c0, c1, c2, c3, c4⟩ := b2.cells
  simp only at c0 c1 c2 c3 c4 e2
  go_wp2_with fail
  refine (hR.out _ k2).mono ?_; rintro e w3 ⟨v3, rfl, m3⟩
  have k3 := k2.trans m3.only
  have e23 := e2.kept m3.only (by simp)
  obtain ⟨A3, d3, rfl, e3, _⟩ := m3.shape opE_length
  simp only at e3
  have hsame := fun W (k : Only [] w3 W) => rsame_yes W A2 A3 d2 d3 R1 (e23.kept k (by simp)) (e3.kept k (by simp)) (by have := hlen.out; omega)
  replace hsame := Lib.hid hsame
  clear m3 e2 e23 e3 c0 c1 c2 c3 c4 b2
  go_wp2_with fail
  refine (alive_any _).mono ?_; rintro e w4 ⟨rfl, k4⟩
  go_wp2_with fail
  refine (hsame.out _ k4).mono ?_; rintro e w5 ⟨rfl, k5⟩
  go_wp2
  go_ret
  exact ⟨by simp, k3.trans (k4.trans k5)⟩
end Go.Proofs.Ythclpefomhakdaa
