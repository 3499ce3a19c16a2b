/- sound, Start. -/
import Derived.Test.YtmelaiefbpdifaaGreatDoorFSo13
namespace Go.Proofs.YtmelaiefbpdifaaGreatDoor.Srv
open Go.RowKit Go.Maps
open Pgs (Pg pgE keyB headB ldL ldOk errL load_at under_at)
set_option maxRecDepth 100000 in
set_option maxHeartbeats 4000000 in
theorem sound_any (w1 : World) (rp mb lp : Nat) (M : List Rw) (hR : RowsB w1 rp mb lp M) (hS : Sorted M) (hM : M.length ≤ 1024) (hsm : ∀ r ∈ M, 1 ≤ r.key.length ∧ r.key.length ≤ 16 ∧ r.val.length ≤ 200) :
  Calls Tryz.prog 45 #[.pointer (some ⟨rp, 0, none⟩)] w1 fun e w' => e = .returned (.bool (soundB M)) ∧ Only [] w1 w' := by
 have hget := get_any w1 rp mb lp M bK (by decide) hR
 change Calls _ _ #[_, .string ⟨#[66]⟩] w1 _ at hget
 have hund := fun W (k : Only [] w1 W) => under_at W rp mb lp M (hR.kept k (by simp) (by simp)) hS (by omega) [69]
 change ∀ W, Only [] w1 W → Calls _ _ #[_, .string ⟨#[69]⟩] W _ at hund
 have hload := fun W (k : Only [] w1 W) => loadable_any W rp mb lp M (hR.kept k (by simp) (by simp)) hS hM hsm
 have hlen : (underL M [69]).length ≤ 1024 := by
  have h3 : (underL M [69]).length ≤ M.length := by unfold underL; rw [List.length_map]; exact List.length_filter_le _ _
  omega
 have hsz := strOf_size (valL M bK)
 have hsmall : ∀ c ∈ underL M [69], c.key.length ≤ 16 ∧ c.val.length ≤ 200 := fun c hc => small_under hsm hc
 have hdef : soundB M = ((!((findR M bK).isSome && decide ((valL M bK).length ≠ 4))) && ((underL M [69]).all okEp && loadB M)) := rfl
 clear hR hS hM hsm
 generalize hres : soundB M = res at *
 generalize (findR M bK).isSome = b at *
 generalize hvl : (valL M bK) = vl at *
 generalize strOf vl = vs at *
 generalize hU : underL M [69] = U at *
 generalize loadB M = lb at *
 replace hsmall := Lib.hid hsmall
 replace hres := Lib.hid hres
 replace hvl := Lib.hid hvl
 replace hU := Lib.hid hU
 replace hload := Lib.hid hload
 replace hund := Lib.hid hund
 by_cases hb4 : b = true ∧ vl.length ≠ 4
 ·obtain ⟨rfl, h4⟩ := hb4
  have hr : res = false := by rw [hdef, decide_eq_true h4]; rfl
  subst hr
  have d1 : ((vs.size : Int) != 4) = true := by rw [bne_iff_ne]; omega
  replace hdef := Lib.hid hdef
  replace hsz := Lib.hid hsz
  go_enter Tryz.func45, Tryz.ntmps45
  go_wp2_with fail
  refine hget.mono ?_; rintro e w2 ⟨rfl, k2⟩
  go_wp2
  go_ret
  exact ⟨rfl, k2⟩
 have hdef2 : res = (U.all okEp && lb) := by
  rw [hdef]
  cases b with
  | false => rfl
  | true =>
   have : vl.length = 4 := Decidable.byContradiction fun h => hb4 ⟨rfl, h⟩
   rw [this]; rfl
 have hcase : (b = false) ∨ (b = true ∧ ((vs.size : Int) != 4) = false) := by
  cases b with
  | false => exact .inl rfl
  | true =>
   refine .inr ⟨rfl, ?_⟩
   have : vl.length = 4 := Decidable.byContradiction fun h => hb4 ⟨rfl, h⟩
   rw [bne_eq_false_iff_eq]; omega
 replace hdef := Lib.hid hdef2
 clear hb4 hdef2
 replace hsz := Lib.hid hsz
 rcases hcase with rfl | ⟨rfl, d1⟩
 ·go_enter Tryz.func45, Tryz.ntmps45
  go_wp2_with fail
  refine hget.mono ?_; rintro e w2 ⟨rfl, k2⟩
  clear hget
  go_wp2_with fail
  refine (hund.out _ k2).mono ?_; rintro e w3 ⟨v, rfl, hne⟩
  obtain ⟨B, cb, rfl, hcb, hB, k3, _⟩ := hne
  obtain ⟨n, hn⟩ : ∃ n, n = U.length := ⟨_, rfl⟩
  rw [← hn] at hlen hcb ⊢
  have HN := Lib.hid hn
  have k13 := k2.trans k3
  clear hn k2 k3
  go_wp2_with fail
  go_loopw [21] (fun i wr => ∃ (k : Nat), k ≤ n ∧ i = .int .i64 k ∧ Hid (∀ c ∈ U.take k, okEp c = true) ∧ Only [] w3 wr) (fun i _ => n - (intOf i).toNat)
  case atStart => exact ⟨0, Nat.zero_le _, rfl, fun c hc => by simp at hc, Only.refl [] _⟩
  case round =>
   obtain ⟨k, hk, rfl, hall, kr⟩ := hrel
   by_cases hlt : k < n
   ·have hk' : k < U.length := by have := HN.out; omega
    obtain ⟨g, off, rfl, _, hat⟩ := hB.get hk'
    obtain ⟨c0, c1, c2⟩ := chs_at (hat.kept kr (by simp)) hk'
    have hmem : U[k] ∈ U := List.getElem_mem hk'
    have hsm2 := hsmall.out _ hmem
    have hnext := fun (hf : okEp U[k] = true) => all_take hk' hall.out hf
    have hbad := fun (hf : okEp U[k] = false) => not_all hmem hf
    have s0 := strOf_size U[k].key
    have s1 := strOf_size U[k].val
    have hok : okEp U[k] = (decide (U[k].key.length = 5) && decide (U[k].val.length = 4)) := rfl
    generalize hch : U[k] = ch at *
    obtain ⟨ky, vy, gn⟩ := ch
    simp only at c0 c1 c2 s0 s1 hok hsm2
    generalize strOf vy = vys at *
    generalize strOf ky = ks at *
    replace hch := Lib.hid hch
    have kx : Only [] w1 (wr.alloc (.cells #[.string ks, .string vys, .bool gn] 133)) := (k13.trans kr).alloc _
    have kx3 : Only [] w3 (wr.alloc (.cells #[.string ks, .string vys, .bool gn] 133)) := kr.alloc _
    by_cases h5 : ky.length = 5
    ·have e1 : ((ks.size : Int) != 5) = false := by rw [bne_eq_false_iff_eq]; omega
     by_cases h4 : vy.length = 4
     ·have e2 : ((vys.size : Int) != 4) = false := by rw [bne_eq_false_iff_eq]; omega
      have hn := hnext (by rw [hok, decide_eq_true h5, decide_eq_true h4]; rfl)
      replace hn := Lib.hid hn
      clear hnext hbad
      replace hok := Lib.hid hok
      replace s0 := Lib.hid s0
      replace s1 := Lib.hid s1
      replace h5 := Lib.hid h5
      replace h4 := Lib.hid h4
      clear hat hsm2 hmem kx
      go_wp2
      go_roundw
      case rel => exact ⟨k + 1, by omega, by go_num, hn, kx3⟩
      case measure => simp [intOf]; omega
     ·have e2 : ((vys.size : Int) != 4) = true := by rw [bne_iff_ne]; omega
      have hr : res = false := by rw [hdef.out, hbad (by rw [hok, decide_eq_false h4, Bool.and_false])]; rfl
      subst hr
      clear hnext hbad
      replace hok := Lib.hid hok
      replace s0 := Lib.hid s0
      replace s1 := Lib.hid s1
      replace h5 := Lib.hid h5
      replace kx := Lib.hid kx
      clear hat hsm2 hmem kx3
      go_wp2
      go_ret
      exact ⟨rfl, kx.out⟩
    ·have e1 : ((ks.size : Int) != 5) = true := by rw [bne_iff_ne]; omega
     have hr : res = false := by rw [hdef.out, hbad (by rw [hok, decide_eq_false h5, Bool.false_and])]; rfl
     subst hr
     clear hnext hbad
     replace hok := Lib.hid hok
     replace s0 := Lib.hid s0
     replace s1 := Lib.hid s1
     replace kx := Lib.hid kx
     clear hat hsm2 hmem kx3
     go_wp2
     go_ret
     exact ⟨rfl, kx.out⟩
   ·have hkn : U.take k = U := List.take_of_length_le (by have := HN.out; omega)
    rw [hkn] at hall
    have hr : res = lb := by rw [hdef.out, List.all_eq_true.2 hall.out]; rfl
    subst hr
    have k1r := k13.trans kr
    go_wp2_with fail
    refine (hload.out _ k1r).mono ?_; rintro e w5 ⟨rfl, k5⟩
    have kend := k1r.trans k5
    go_wp2
    go_ret
    exact ⟨rfl, kend⟩
 ·go_enter Tryz.func45, Tryz.ntmps45
  go_wp2_with fail
  refine hget.mono ?_; rintro e w2 ⟨rfl, k2⟩
  clear hget
  go_wp2_with fail
  refine (hund.out _ k2).mono ?_; rintro e w3 ⟨v, rfl, hne⟩
  obtain ⟨B, cb, rfl, hcb, hB, k3, _⟩ := hne
  obtain ⟨n, hn⟩ : ∃ n, n = U.length := ⟨_, rfl⟩
  rw [← hn] at hlen hcb ⊢
  have HN := Lib.hid hn
  have k13 := k2.trans k3
  clear hn k2 k3
  go_wp2_with fail
  go_loopw [21] (fun i wr => ∃ (k : Nat), k ≤ n ∧ i = .int .i64 k ∧ Hid (∀ c ∈ U.take k, okEp c = true) ∧ Only [] w3 wr) (fun i _ => n - (intOf i).toNat)
  case atStart => exact ⟨0, Nat.zero_le _, rfl, fun c hc => by simp at hc, Only.refl [] _⟩
  case round =>
   obtain ⟨k, hk, rfl, hall, kr⟩ := hrel
   by_cases hlt : k < n
   ·have hk' : k < U.length := by have := HN.out; omega
    obtain ⟨g, off, rfl, _, hat⟩ := hB.get hk'
    obtain ⟨c0, c1, c2⟩ := chs_at (hat.kept kr (by simp)) hk'
    have hmem : U[k] ∈ U := List.getElem_mem hk'
    have hsm2 := hsmall.out _ hmem
    have hnext := fun (hf : okEp U[k] = true) => all_take hk' hall.out hf
    have hbad := fun (hf : okEp U[k] = false) => not_all hmem hf
    have s0 := strOf_size U[k].key
    have s1 := strOf_size U[k].val
    have hok : okEp U[k] = (decide (U[k].key.length = 5) && decide (U[k].val.length = 4)) := rfl
    generalize hch : U[k] = ch at *
    obtain ⟨ky, vy, gn⟩ := ch
    simp only at c0 c1 c2 s0 s1 hok hsm2
    generalize strOf vy = vys at *
    generalize strOf ky = ks at *
    replace hch := Lib.hid hch
    have kx : Only [] w1 (wr.alloc (.cells #[.string ks, .string vys, .bool gn] 133)) := (k13.trans kr).alloc _
    have kx3 : Only [] w3 (wr.alloc (.cells #[.string ks, .string vys, .bool gn] 133)) := kr.alloc _
    by_cases h5 : ky.length = 5
    ·have e1 : ((ks.size : Int) != 5) = false := by rw [bne_eq_false_iff_eq]; omega
     by_cases h4 : vy.length = 4
     ·have e2 : ((vys.size : Int) != 4) = false := by rw [bne_eq_false_iff_eq]; omega
      have hn := hnext (by rw [hok, decide_eq_true h5, decide_eq_true h4]; rfl)
      replace hn := Lib.hid hn
      clear hnext hbad
      replace hok := Lib.hid hok
      replace s0 := Lib.hid s0
      replace s1 := Lib.hid s1
      replace h5 := Lib.hid h5
      replace h4 := Lib.hid h4
      clear hat hsm2 hmem kx
      go_wp2
      go_roundw
      case rel => exact ⟨k + 1, by omega, by go_num, hn, kx3⟩
      case measure => simp [intOf]; omega
     ·have e2 : ((vys.size : Int) != 4) = true := by rw [bne_iff_ne]; omega
      have hr : res = false := by rw [hdef.out, hbad (by rw [hok, decide_eq_false h4, Bool.and_false])]; rfl
      subst hr
      clear hnext hbad
      replace hok := Lib.hid hok
      replace s0 := Lib.hid s0
      replace s1 := Lib.hid s1
      replace h5 := Lib.hid h5
      replace kx := Lib.hid kx
      clear hat hsm2 hmem kx3
      go_wp2
      go_ret
      exact ⟨rfl, kx.out⟩
    ·have e1 : ((ks.size : Int) != 5) = true := by rw [bne_iff_ne]; omega
     have hr : res = false := by rw [hdef.out, hbad (by rw [hok, decide_eq_false h5, Bool.false_and])]; rfl
     subst hr
     clear hnext hbad
     replace hok := Lib.hid hok
     replace s0 := Lib.hid s0
     replace s1 := Lib.hid s1
     replace kx := Lib.hid kx
     clear hat hsm2 hmem kx3
     go_wp2
     go_ret
     exact ⟨rfl, kx.out⟩
   ·have hkn : U.take k = U := List.take_of_length_le (by have := HN.out; omega)
    rw [hkn] at hall
    have hr : res = lb := by rw [hdef.out, List.all_eq_true.2 hall.out]; rfl
    subst hr
    have k1r := k13.trans kr
    go_wp2_with fail
    refine (hload.out _ k1r).mono ?_; rintro e w5 ⟨rfl, k5⟩
    have kend := k1r.trans k5
    go_wp2
    go_ret
    exact ⟨rfl, kend⟩
end Go.Proofs.YtmelaiefbpdifaaGreatDoor.Srv
