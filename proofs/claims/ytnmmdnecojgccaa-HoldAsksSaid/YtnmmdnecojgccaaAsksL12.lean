/- HoldAsks: what every ask for a hold makes of every lock is the document's. -/
import Derived.Test.YtnmmdnecojgccaaAlive12
import Derived.Test.YtnmmdnecojgccaaRask12
namespace Go.Proofs.Ytnmmdnecojgccaa
open Go.RowKit
set_option linter.unusedVariables false

theorem turn_len (L : Lk) : (turnL L).hs.length ≤ L.hs.length := by unfold turnL; split; exact Nat.le_refl _; exact Nat.zero_le _
theorem join_len (L : Lk) (c m : Int) : (joinL L c m).1.hs.length ≤ L.hs.length + 1 := by
  unfold joinL
  split
  · exact Nat.le_succ _
  split
  · exact Nat.le_succ_of_le (turn_len L)
  split
  · exact Nat.le_succ _
  · exact Nat.le_of_eq (ins_length _ _)
theorem ask_len (L : Lk) (c m : Int) : (askL L c m).1.hs.length ≤ L.hs.length + 1 := by
  unfold askL
  split
  · exact Nat.zero_le _
  split
  · exact Nat.le_succ _
  split
  · exact Nat.le_succ _
  split
  · exact Nat.le_succ _
  · have h1 := join_len (withL L (withoutH L.hs c)) c m
    have h2 := (without_sub L.hs c).length_le
    simp only [withL] at h1 ⊢
    omega
set_option maxRecDepth 100000 in
set_option maxHeartbeats 8000000 in
theorem holdAsks_walk (w : World) (L : Lk) (A : Option Addr) (c : Nat) (cl m : Int) (hb : Els holE 2 w A L.hs) (hl : L.hs.length ≤ 9223372036854775807) (hc : L.hs.length ≤ c) (he : 0 ≤ L.epoch ∧ L.epoch ≤ 4294967295) :
    Calls Try.prog 4 #[lkV L (.slice A L.hs.length c), .int .u32 cl, .int .u32 m] w fun e w' => e = .returned (.bool true) ∧ Only [] w w' := by
  have hS := fun W (k : Only [] w W) => ask_any W L A c cl m (hb.kept k (by simp)) hl he
  have hR := fun W (k : Only [] w W) => rask_any W L A c cl m (hb.kept k (by simp)) hl he
  have hlen := ask_len L cl m
  generalize askL L cl m = R at *
  obtain ⟨⟨jf, je, ju, jc, jfe, jgo, jl⟩, jk, jr⟩ := R
  obtain ⟨f, ep, u, ct, fe, go, l⟩ := L
  have k0 := (Only.refl [] w).alloc (.cells #[.int .u32 f, .int .u32 ep, .int .u32 u, .int .u32 ct, .bool fe, .bool go, .slice A l.length c] 25)
  have b0 := Lx.new w f ep u ct fe go l (.slice A l.length c)
  simp only at hb hl hc he hlen
  simp only [lkV] at hS hR ⊢
  replace hS := Lib.hid hS
  replace hR := Lib.hid hR
  replace hlen := Lib.hid hlen
  replace hb := Lib.hid hb
  go_enter Try.func4, Try.ntmps4
  go_wp2_with fail
  refine (alive_any _).mono ?_; rintro e w1 ⟨rfl, k1'⟩
  have k1 := k0.trans k1'
  have b1 := b0.kept k1' (by simp)
  obtain ⟨c0, c1, c2, c3, c4, c5, c6⟩ := b1.at (Only.refl [] _) (by simp)
  clear b0 k0 k1'
  by_cases h100 : (100 : Int) < (l.length : Int)
  · have d100 : decide ((100 : Int) < (l.length : Int)) = true := decide_eq_true h100
    go_wp2_with fail
    refine (alive_any _).mono ?_; rintro e wz ⟨rfl, kz⟩
    go_wp2
    go_ret
    exact ⟨rfl, k1.trans kz⟩
  have d100 : decide ((100 : Int) < (l.length : Int)) = false := decide_eq_false h100
  have hl100 : l.length ≤ 100 := by omega
  replace h100 := Lib.hid h100
  go_wp2_with fail
  refine (hS.out _ k1).mono ?_; rintro e w2 ⟨v2, rfl, m2⟩
  simp only at m2
  obtain ⟨A2, d2, rfl, e2, _⟩ := m2.shape
  have k2 := k1.trans m2.only
  have b2 := b1.kept m2.only (by simp)
  clear b1 m2 c0 c1 c2 c3 c4 c5 c6
  go_wp2_with (refine wpList_store_lk ⟨jf, je, ju, jc, jfe, jgo, jl⟩ noL (.slice A2 jl.length d2) _ rfl rfl _ _ rfl w2.heap.size rfl rfl (Lx.zero w2) ?_; intro w3 b3 k3'; have k3 := k2.trans (laid k3'); have e3 := Els.kept e2 (laid k3') (by simp); obtain ⟨c0, c1, c2, c3, c4, c5, c6⟩ := Lx.at b2 (laid k3') (by simp); clear k3')
  refine (hR.out _ k3).mono ?_; rintro e w4 ⟨A4, d4, rfl, e4, k4'⟩
  simp only at e4
  have k4 := k3.trans k4'
  have b4 := Lx.kept b3 k4' (by simp)
  have e34 := Els.kept e3 k4' (by simp)
  clear b2 b3 e2 e3 k4' c0 c1 c2 c3 c4 c5 c6
  go_wp2_with (refine wpList_store_lk ⟨jf, je, ju, jc, jfe, jgo, jl⟩ noL (.slice A4 jl.length d4) _ rfl rfl _ _ rfl w4.heap.size rfl rfl (Lx.zero w4) ?_; intro w5 b5 k5'; have k5 := k4.trans (laid k5'); have e35 := Els.kept e34 (laid k5') (by simp); have e45 := Els.kept e4 (laid k5') (by simp); have b45 := Lx.kept b4 (laid k5') (by simp); clear k5')
  refine (alive_any _).mono ?_; rintro e w6 ⟨rfl, k6'⟩
  have k6 := k5.trans k6'
  obtain ⟨c0, c1, c2, c3, c4, c5, c6⟩ := Lx.at b45 k6' (by simp)
  obtain ⟨g0, g1, g2, g3, g4, g5, g6⟩ := Lx.at b5 k6' (by simp)
  have e36 := Els.kept e35 k6' (by simp)
  have e46 := Els.kept e45 k6' (by simp)
  have hsame := rsame_yes w6 ⟨jf, je, ju, jc, jfe, jgo, jl⟩ A2 A4 d2 d4 e36 e46 (by simp only; have := hlen.out; omega)
  simp only [lkV] at hsame
  replace hsame := Lib.hid hsame
  clear e34 e4 e35 e45 e36 e46 b4 b5 b45 k6'
  go_wp2_with fail
  refine hsame.out.mono ?_; rintro e w7 ⟨rfl, k7⟩
  go_wp2
  go_ret
  exact ⟨by simp, k6.trans k7⟩
end Go.Proofs.Ytnmmdnecojgccaa
