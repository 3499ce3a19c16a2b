/- How two clients stand to each other; a client's place among holders (slices.BinarySearchFunc, place). -/
import Derived.Test.YtnmmdnecojgccaaOp12
namespace Go.Proofs.Ytnmmdnecojgccaa
open Go.RowKit

def cmpI (a b : Int) : Int := if a < b then -1 else if b < a then 1 else 0
theorem nan_any (w : World) (a : Int) : Calls Try.prog 37 #[.int .u32 a] w fun e w' => e = .returned (.bool false) ∧ w' = w := by
  go_enter Try.func37, Try.ntmps37
  go_wp2
  go_ret
  exact ⟨rfl, rfl⟩
theorem cmp_any (w : World) (a b : Int) : Calls Try.prog 33 #[.int .u32 a, .int .u32 b] w fun e w' => e = .returned (.int .i64 (cmpI a b)) ∧ w' = w := by
  unfold cmpI
  by_cases h : a < b
  · rw [if_pos h]
    go_enter Try.func33, Try.ntmps33
    go_wp2_with fail
    refine (nan_any _ _).mono ?_; rintro e w1 ⟨rfl, rfl⟩
    go_wp2_with fail
    refine (nan_any _ _).mono ?_; rintro e w1 ⟨rfl, rfl⟩
    go_wp2
    go_ret
    exact ⟨rfl, rfl⟩
  · rw [if_neg h]
    by_cases h2 : b < a
    · rw [if_pos h2]
      go_enter Try.func33, Try.ntmps33
      go_wp2_with fail
      refine (nan_any _ _).mono ?_; rintro e w1 ⟨rfl, rfl⟩
      go_wp2_with fail
      refine (nan_any _ _).mono ?_; rintro e w1 ⟨rfl, rfl⟩
      go_wp2
      go_ret
      exact ⟨rfl, rfl⟩
    · rw [if_neg h2]
      go_enter Try.func33, Try.ntmps33
      go_wp2_with fail
      refine (nan_any _ _).mono ?_; rintro e w1 ⟨rfl, rfl⟩
      go_wp2_with fail
      refine (nan_any _ _).mono ?_; rintro e w1 ⟨rfl, rfl⟩
      go_wp2
      go_ret
      exact ⟨rfl, rfl⟩
theorem cmpI_lt (a b : Int) : cmpI a b < 0 ↔ a < b := by unfold cmpI; split <;> (try split) <;> omega
theorem cmpI_eq (a b : Int) : cmpI a b = 0 ↔ a = b := by unfold cmpI; split <;> (try split) <;> omega
theorem order_any (w : World) (x : Hol) (c : Int) : Calls Try.prog 32 #[holV x, .int .u32 c] w fun e w' => e = .returned (.int .i64 (cmpI x.client c)) ∧ Only [] w w' := by
  obtain ⟨x0, x1⟩ := x
  have hc := fun W => cmp_any W x0 c
  have k0 := (Only.refl [] w).alloc (.cells #[.int .u32 x0, .int .u32 x1] 47)
  simp only
  generalize cmpI x0 c = r at *
  unfold holV
  replace hc := Lib.hid hc
  go_enter Try.func32, Try.ntmps32
  go_wp2_with fail
  refine (hc.out _).mono ?_; rintro e w1 ⟨rfl, rfl⟩
  go_wp2
  go_ret
  exact ⟨rfl, k0⟩

set_option maxRecDepth 100000 in
set_option maxHeartbeats 4000000 in
theorem search_any (w : World) (A : Option Addr) (c : Nat) (l : List Hol) (t : Int) (hb : Els holE 2 w A l) (hr : l.Pairwise cliLt) (hl : l.length ≤ 1048576) :
    Calls Try.prog 31 #[.slice A l.length c, .int .u32 t, .func (.func 32) #[] #[]] w fun e w' => e = .returned (.tuple #[.int .i64 (posC l t : Nat), .bool (findC l t).isSome]) ∧ Only [] w w' := by
  have hlI : (l.length : Int) ≤ 1048576 := by omega
  have hp := posC_le l t
  have hat := findC_at hr t
  have hiff := fun (j : Nat) (x : Hol) => posC_iff hr (c := t) (j := j) (x := x)
  have hord := fun W (x : Hol) => order_any W x t
  have hlt_ := fun x : Hol => cmpI_lt x.client t
  have heq_ := fun x : Hol => cmpI_eq x.client t
  obtain ⟨F, hF⟩ : ∃ F : Hol → Int, F = fun x => cmpI x.client t := ⟨_, rfl⟩
  have hFx : ∀ x, cmpI x.client t = F x := fun x => by rw [hF]
  simp only [hFx] at hord hlt_ heq_
  clear hF hFx
  generalize findC l t = gi at *
  generalize posC l t = p at *
  replace hat := Lib.hid hat
  replace hiff := Lib.hid hiff
  replace hr := Lib.hid hr
  replace hord := Lib.hid hord
  replace hlt_ := Lib.hid hlt_
  replace heq_ := Lib.hid heq_
  go_enter Try.func31, Try.ntmps31
  go_wp2_with fail
  go_loopw [9, 10] (fun a b wr => ∃ lo hi : Nat, a = .int .i64 lo ∧ b = .int .i64 hi ∧ lo ≤ p ∧ p ≤ hi ∧ hi ≤ l.length ∧ Only [] w wr) (fun a b _ => (intOf b - intOf a).toNat)
  case atStart => exact ⟨0, l.length, rfl, rfl, Nat.zero_le _, hp, Nat.le_refl _, Only.refl _ _⟩
  case round =>
    obtain ⟨lo, hi, rfl, rfl, h1, h2, h3, hk⟩ := hrel
    by_cases hlt : lo < hi
    · have hm : (lo + hi) / 2 < l.length := by omega
      obtain ⟨g, o, rfl, hg, hca⟩ := hb.get hm
      have hca' := hca.kept hk (by simp)
      have hx : l[(lo + hi) / 2]? = some l[(lo + hi) / 2] := List.getElem?_eq_getElem hm
      obtain ⟨c0, c1⟩ := hols_at hca' hm
      have hpx := hiff.out _ _ hx
      have hcx := fun W => hord.out W l[(lo + hi) / 2]
      have hl1 := hlt_.out l[(lo + hi) / 2]
      generalize l[(lo + hi) / 2] = x at *
      obtain ⟨x0, x1⟩ := x
      unfold holV at hcx
      generalize F ⟨x0, x1⟩ = r at *
      simp only at c0 c1 hpx hcx hl1
      replace hx := Lib.hid hx
      replace hcx := Lib.hid hcx
      have hlow : r < 0 ↔ (lo + hi) / 2 < p := hl1.trans hpx
      clear hca hca' hpx hl1
      generalize hmd : (lo + hi) / 2 = md at *
      have hmdI : ((lo : Int) + (hi : Int)) / 2 = (md : Int) := by omega
      have hmdb : lo ≤ md ∧ md < hi := by omega
      by_cases hneg : r < 0
      · have dneg : decide (r < 0) = true := decide_eq_true hneg
        have hq := hlow.1 hneg
        replace hlow := Lib.hid hlow
        replace hmd := Lib.hid hmd
        replace hneg := Lib.hid hneg
        replace hmdI := Lib.hid hmdI
        go_wp2_with (rw [hmdI.out])
        refine (hcx.out _).mono ?_; rintro e w3 ⟨rfl, k3⟩
        clear c0 c1
        go_wp2_with fail
        go_roundw
        case rel => exact ⟨md + 1, hi, by go_num, rfl, by omega, h2, h3, hk.trans k3⟩
        case measure => simp [intOf]; omega
      · have dneg : decide (r < 0) = false := decide_eq_false hneg
        have hq : ¬ md < p := fun h => hneg (hlow.2 h)
        replace hlow := Lib.hid hlow
        replace hmd := Lib.hid hmd
        replace hneg := Lib.hid hneg
        replace hmdI := Lib.hid hmdI
        go_wp2_with (rw [hmdI.out])
        refine (hcx.out _).mono ?_; rintro e w3 ⟨rfl, k3⟩
        clear c0 c1
        go_wp2_with fail
        go_roundw
        case rel => exact ⟨lo, md, rfl, rfl, h1, by omega, by omega, hk.trans k3⟩
        case measure => simp [intOf]; omega
    · obtain rfl : lo = p := by omega
      obtain rfl : lo = hi := by omega
      by_cases hn : lo < l.length
      · obtain ⟨g, o, rfl, hg, hca⟩ := hb.get hn
        have hca' := hca.kept hk (by simp)
        have hx : l[lo]? = some l[lo] := List.getElem?_eq_getElem hn
        obtain ⟨c0, c1⟩ := hols_at hca' hn
        have hcx := fun W => hord.out W l[lo]
        have hl1 := heq_.out l[lo]
        have hga := hat.out
        rw [hx] at hga
        generalize l[lo] = x at *
        obtain ⟨x0, x1⟩ := x
        unfold holV at hcx
        generalize F ⟨x0, x1⟩ = r at *
        simp only at c0 c1 hcx hga hl1
        have dres : (r == 0) = gi.isSome := by
          rw [hga]
          by_cases e : x0 = t
          · rw [if_pos e]; simpa using hl1.2 e
          · rw [if_neg e]; simpa using fun h => e (hl1.1 h)
        have dn : decide ((lo : Int) < (l.length : Int)) = true := decide_eq_true (by omega)
        obtain ⟨gb, hgb⟩ : ∃ gb, gb = gi.isSome := ⟨_, rfl⟩
        rw [← hgb] at dres
        replace hgb := Lib.hid hgb
        replace hx := Lib.hid hx
        replace hcx := Lib.hid hcx
        clear hca hca' hl1 hga hat
        go_wp2_with fail
        refine (hcx.out _).mono ?_; rintro e w3 ⟨rfl, k3⟩
        clear c0 c1
        go_wp2
        go_ret2
        exact ⟨by rw [← hgb.out]; rfl, hk.trans k3⟩
      · have hga := hat.out
        rw [List.getElem?_eq_none (by omega)] at hga
        simp only at hga
        subst hga
        have dn : decide ((lo : Int) < (l.length : Int)) = false := decide_eq_false (by omega)
        clear hat
        go_wp2
        go_ret2
        exact ⟨rfl, hk⟩

theorem place_any (w : World) (L : Lk) (A : Option Addr) (c : Nat) (t : Int) (hb : Els holE 2 w A L.hs) (hr : L.hs.Pairwise cliLt) (hl : L.hs.length ≤ 1048576) :
    Calls Try.prog 24 #[lkV L (.slice A L.hs.length c), .int .u32 t] w fun e w' => e = .returned (.tuple #[.int .i64 (posC L.hs t : Nat), .bool (findC L.hs t).isSome]) ∧ Only [] w w' := by
  obtain ⟨f, e, u, k, fe, go, l⟩ := L
  simp only at hb hr hl
  have hs := fun W (k : Only [] w W) => search_any W A c l t (hb.kept k (by simp)) hr hl
  have k0 := (Only.refl [] w).alloc (.cells #[.int .u32 f, .int .u32 e, .int .u32 u, .int .u32 k, .bool fe, .bool go, .slice A l.length c] 25)
  simp only [lkV]
  replace hs := Lib.hid hs
  go_enter Try.func24, Try.ntmps24
  go_wp2_with fail
  refine (hs.out _ k0).mono ?_; rintro e w3 ⟨rfl, k3⟩
  go_wp2
  go_ret2
  exact ⟨rfl, k0.trans k3⟩
end Go.Proofs.Ytnmmdnecojgccaa
