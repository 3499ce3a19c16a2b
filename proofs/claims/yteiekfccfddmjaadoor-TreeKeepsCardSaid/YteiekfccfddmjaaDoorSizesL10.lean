/- TreeSizes: the tree with another size is the document's. -/
import Derived.Test.YteiekfccfddmjaaDoorRz10
namespace Go.Proofs.YteiekfccfddmjaaDoor
open Go.RowKit

theorem resizeR_length (l : List Nd) (id size : Int) : (resizeR l id size).1.length ≤ l.length := by
  unfold resizeR
  split
  · simp
  · split
    · simp
    · split
      · simp
      · split <;> simp
set_option maxRecDepth 100000 in
set_option maxHeartbeats 4000000 in
theorem treeSizes_walk (w : World) (A : Option Addr) (c : Nat) (l : List Nd) (id size : Int) (hb : Els ndE 5 w A l) (hl : l.length ≤ 9223372036854775807) (hc : l.length ≤ c) :
    Calls Tryd.prog 6 #[.slice A l.length c, .int .u32 id, .int .u32 size] w fun e w' => e = .returned (.bool true) ∧ Only [] w w' := by
  have hG := fun W (k : Only [] w W) => great_any W A c l [] [] (hb.kept k (by simp)) hl
  have hS := fun W (k : Only [] w W) (h : l.length ≤ 100) => resize_any W A c l id size (hb.kept k (by simp)) hc (by omega)
  have hRS := fun W (k : Only [] w W) (h : l.length ≤ 100) => rresize_any W A c l id size (hb.kept k (by simp)) (by omega)
  have hlen := resizeR_length l id size
  replace hG := Lib.hid hG
  replace hS := Lib.hid hS
  replace hRS := Lib.hid hRS
  replace hlen := Lib.hid hlen
  go_enter Tryd.func6, Tryd.ntmps6
  go_wp2_with fail
  refine (alive_any _).mono ?_; rintro e w1 ⟨rfl, k1⟩
  go_wp2_with fail
  refine (hG.out _ k1).mono ?_; rintro e w2 ⟨⟨r, rfl, hr⟩, rfl⟩
  cases r with
  | true =>
    go_wp2_with fail
    refine (alive_any _).mono ?_; rintro e w3 ⟨rfl, k3⟩
    go_wp2
    go_ret
    exact ⟨rfl, k1.trans k3⟩
  | false =>
  obtain ⟨h100, _, _⟩ := hr rfl
  clear hr
  replace h100 := Lib.hid h100
  go_wp2_with fail
  refine (hS.out _ k1 h100.out).mono ?_; rintro e w3 ⟨v, rfl, m3⟩
  have hk3 := k1.trans m3.only
  obtain ⟨A3, c3, rfl, e3, _⟩ := m3.shape ndE_length
  clear m3
  go_wp2_with fail
  refine (hRS.out _ hk3 h100.out).mono ?_; rintro e w4 ⟨v', rfl, m4⟩
  have hk4 := hk3.trans m4.only
  have e34 := e3.kept m4.only (by simp)
  obtain ⟨A4, c4, rfl, e4, _⟩ := m4.shape ndE_length
  have hsame := fun W (k : Only [] w4 W) => rsame_yes W A3 A4 c3 c4 (resizeR l id size).1 (e34.kept k (by simp)) (e4.kept k (by simp)) (by have := hlen.out; have := h100.out; omega)
  replace hsame := Lib.hid hsame
  clear m4 e3 e34 e4
  go_wp2_with fail
  refine (alive_any _).mono ?_; rintro e w5 ⟨rfl, k5⟩
  go_wp2_with fail
  refine (hsame.out _ k5).mono ?_; rintro e w6 ⟨rfl, k6⟩
  go_wp2
  go_ret
  exact ⟨rfl, hk4.trans (k5.trans k6)⟩
end Go.Proofs.YteiekfccfddmjaaDoor
