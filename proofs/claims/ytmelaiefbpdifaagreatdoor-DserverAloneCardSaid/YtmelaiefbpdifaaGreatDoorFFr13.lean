/- How many pages of an object want new rows. -/
import Derived.Test.YtmelaiefbpdifaaGreatDoorFFn3
namespace Go.Proofs.YtmelaiefbpdifaaGreatDoor.Srv
open Go.RowKit Go.Maps
open Pgs (Pg pgE pgE_length pgE_one info_pg keyB headB find keyB_length okP_mem)
theorem getR_is (M : List Rw) (k : List UInt8) : (findR M k).isSome = (getR M k).isSome := (get_val M k).2
theorem fresh_take {M : List Rw} {y : Nat} {o : List Pg} {k : Nat} (h : k < o.length) : freshN M y (o.take (k + 1)) = freshN M y (o.take k) + if (findR M (keyB y o[k].n.toNat)).isSome then 0 else 1 := by
 unfold freshN
 rw [List.take_add_one, List.getElem?_eq_getElem h, List.filter_append, List.length_append, getR_is]
 congr 1
 simp only [Option.toList_some, List.filter_cons, List.filter_nil]
 cases getR M (keyB y o[k].n.toNat) <;> rfl
theorem fresh_le (M : List Rw) (y : Nat) (o : List Pg) : freshN M y o ≤ o.length := List.length_filter_le _ _
set_option maxRecDepth 100000 in
set_option maxHeartbeats 2000000 in
theorem fresh_at (w1 : World) (sb rp mb lp : Nat) (M : List Rw) (hsb : w1.cell? ⟨sb, 3, none⟩ = some (.pointer (some ⟨rp, 0, none⟩))) (hR : RowsB w1 rp mb lp M) (x : Int) (y : Nat) (hx : x = y) (hy : y < 4294967296) (A : Option Addr) (c m : Nat) (o : List Pg) (hm : m = o.length) (hA : Els pgE 2 w1 A o) (ho : Pgs.right o = true) :
  Calls Tryz.prog 70 #[.pointer (some ⟨sb, 0, none⟩), .int .u32 x, .slice A m c] w1 fun e w' => e = .returned (.int .i64 (freshN M y o : Int)) ∧ Only [] w1 w' := by
 have hlen := Pgs.right_len ho
 have hmem := okP_mem o (-1) ho
 have hkey := fun W (k : Nat) (hk : k < 32) => Pgs.key_any W y k hy hk
 rw [← hx] at hkey
 have hget := fun W (k : Only [] w1 W) (q : List UInt8) (hq : q.length ≤ 1048576) => get_any W rp mb lp M q hq (hR.kept k (by simp) (by simp))
 have hlen2 : m ≤ 32 := by omega
 replace hkey := Lib.hid hkey
 replace hget := Lib.hid hget
 replace hmem := Lib.hid hmem
 replace hm := Lib.hid hm
 have hfr := Lib.hid (fresh_le M y)
 clear hR hlen hx
 go_enter Tryz.func70, Tryz.ntmps70
 go_wp2_with fail
 go_loopw [7, 14] (fun v i wr => ∃ k : Nat, k ≤ m ∧ i = .int .i64 k ∧ v = .int .i64 (freshN M y (o.take k) : Int) ∧ Only [] w1 wr) (fun _ i _ => m - (intOf i).toNat)
 case atStart => exact ⟨0, Nat.zero_le _, rfl, rfl, Only.refl [] _⟩
 case round =>
  obtain ⟨k, hk, rfl, rfl, kr⟩ := hrel
  by_cases hlt : k < m
  ·have hk' : k < o.length := by have := hm.out; omega
   obtain ⟨g, off, rfl, _, hat⟩ := hA.get hk'
   obtain ⟨c0, c1⟩ := Pgs.pgs_at (hat.kept kr (by simp)) hk'
   have hnext := fresh_take (M := M) (y := y) hk'
   obtain ⟨n1, n2, _, _⟩ := hmem.out o[k] (List.getElem_mem hk')
   have hT : freshN M y (o.take k) ≤ 32 := by
    have h1 := hfr.out (o.take k)
    rw [List.length_take] at h1
    omega
   have hsbr := kr.cell hsb (by simp)
   generalize o[k] = pg at *
   obtain ⟨pn, pd⟩ := pg
   simp only at c0 c1 n1 n2 hnext
   obtain ⟨z, hz⟩ : ∃ z : Nat, pn = z := ⟨pn.toNat, by omega⟩
   rw [hz, Int.toNat_natCast] at hnext
   rw [hz] at c0
   have hz32 : z < 32 := by omega
   have hkc := hkey.out (k := z) (hk := hz32)
   have hgc := fun W (k : Only [] w1 W) => hget.out W k (keyB y z) (by rw [keyB_length]; decide)
   generalize strOf (keyB y z) = ks at *
   generalize strOf (valL M (keyB y z)) = vv at *
   generalize (findR M (keyB y z)).isSome = b at *
   generalize hT1 : freshN M y (o.take (k + 1)) = T1 at *
   generalize freshN M y (o.take k) = T0 at *
   generalize strOf pd = ps at *
   clear n1 n2 hz hat
   replace hkc := Lib.hid hkc
   replace hgc := Lib.hid hgc
   replace hnext := Lib.hid hnext
   replace hT1 := Lib.hid hT1
   go_wp2
   obtain ⟨W1, hW1⟩ : ∃ W1, W1 = wr.alloc (.cells #[.int .i64 (z : Int), .string ps] 138) := ⟨_, rfl⟩
   rw [← hW1]
   have k1 : Only [] wr W1 := by rw [hW1]; exact (Only.refl [] wr).alloc _
   have p1 : Blk W1 wr.heap.size 138 #[.int .i64 (z : Int), .string ps] := by rw [hW1]; exact Blk.new wr _ _
   have e1 := p1.cell 0
   simp only [List.getElem?_toArray, List.getElem?_cons_zero] at e1
   have f1 := k1.cell hsbr (by simp)
   generalize wr.heap.size = q at *
   have e2 := (Only.refl [] W1).drew.cell e1 (by simp)
   have f2 := (Only.refl [] W1).drew.cell f1 (by simp)
   have kk := (kr.trans k1).drew
   clear hW1 p1 k1 e1 f1 c0 c1
   refine wp_region_held_drew (S := fun w' => w'.cell? ⟨sb, 3, none⟩ = some (.pointer (some ⟨rp, 0, none⟩)) ∧ w'.cell? ⟨q, 0, none⟩ = some (.int .i64 (z : Int))) (by kernel_rfl) ⟨f2, e2⟩ (fun hHeld => ?_)
   generalize W1.drew = wd at *
   refine held_take 0 (.pointer (some ⟨sb, 0, none⟩)) rfl (by kernel_rfl) (by kernel_rfl) (by kernel_rfl) (fun _ _ _ h => h) hHeld (Or.inl ⟨by rfl, fun w' hSw => by (try dsimp only at hSw); (try subst hSw); go_simp⟩) ?_
   simp only [Act.put, List.setIfInBounds_toArray, List.set_cons_zero, List.set_cons_succ]
   refine held_take 1 (.pointer (some ⟨sb, 0, none⟩)) rfl (by kernel_rfl) (by kernel_rfl) (by kernel_rfl) (fun _ _ _ h => h) hHeld (Or.inl ⟨by rfl, fun w' hSw => by (try dsimp only at hSw); (try subst hSw); go_simp⟩) ?_
   simp only [Act.put, List.setIfInBounds_toArray, List.set_cons_zero, List.set_cons_succ]
   refine held_take 2 (.pointer (some ⟨sb, 3, none⟩)) rfl (by kernel_rfl) (by kernel_rfl) (by kernel_rfl) (fun _ _ _ h => h) hHeld (Or.inl ⟨by rfl, fun w' hSw => by (try dsimp only at hSw); (try subst hSw); go_simp⟩) ?_
   simp only [Act.put, List.setIfInBounds_toArray, List.set_cons_zero, List.set_cons_succ]
   refine held_take 3 (.pointer (some ⟨rp, 0, none⟩)) rfl (by kernel_rfl) (by kernel_rfl) (by kernel_rfl) (fun _ _ _ h => h) hHeld (Or.inl ⟨by rfl, fun w' hSw => by obtain ⟨hc, _⟩ := hSw; go_simp⟩) ?_
   simp only [Act.put, List.setIfInBounds_toArray, List.set_cons_zero, List.set_cons_succ]
   refine held_take 4 (.int .u32 x) rfl (by kernel_rfl) (by kernel_rfl) (by kernel_rfl) (fun _ _ _ h => h) hHeld (Or.inl ⟨by rfl, fun w' hSw => by (try dsimp only at hSw); (try subst hSw); go_simp⟩) ?_
   simp only [Act.put, List.setIfInBounds_toArray, List.set_cons_zero, List.set_cons_succ]
   refine held_take 5 (.pointer (some ⟨q, 0, none⟩)) rfl (by kernel_rfl) (by kernel_rfl) (by kernel_rfl) (fun _ _ _ h => h) hHeld (Or.inl ⟨by rfl, fun w' hSw => by (try dsimp only at hSw); (try subst hSw); go_simp⟩) ?_
   simp only [Act.put, List.setIfInBounds_toArray, List.set_cons_zero, List.set_cons_succ]
   refine held_take 6 (.int .i64 (z : Int)) rfl (by kernel_rfl) (by kernel_rfl) (by kernel_rfl) (fun _ _ _ h => h) hHeld (Or.inl ⟨by rfl, fun w' hSw => by obtain ⟨_, hc⟩ := hSw; go_simp⟩) ?_
   simp only [Act.put, List.setIfInBounds_toArray, List.set_cons_zero, List.set_cons_succ]
   refine held_step 7 rfl (by kernel_rfl) (fun K hK => ?_)
   go_simp
   refine (hkc.out _).mono ?_; rintro e w3 ⟨rfl, k3⟩
   have e3 := k3.cell e2 (by simp)
   have f3 := k3.cell f2 (by simp)
   have kk3 := kk.trans k3
   go_wp2_with fail
   refine hK.out _ _ ⟨f3, e3⟩ (fun hHeld => ?_)
   clear hK K
   refine held_step 8 rfl (by kernel_rfl) (fun K hK => ?_)
   go_simp
   refine (hgc.out _ kk3).mono ?_; rintro e w4 ⟨rfl, k4⟩
   have e4 := k4.cell e3 (by simp)
   have f4 := k4.cell f3 (by simp)
   have kk4 := kk3.trans k4
   go_wp2_with fail
   refine hK.out _ _ ⟨f4, e4⟩ (fun hHeld => ?_)
   clear hK K
   refine held_take 9 (.tuple #[.string vv, .bool b]) rfl (by kernel_rfl) (by kernel_rfl) (by kernel_rfl) (fun _ _ _ h => h) hHeld (Or.inl ⟨by rfl, fun w' hSw => by (try dsimp only at hSw); (try subst hSw); go_simp⟩) ?_
   simp only [Act.put, List.setIfInBounds_toArray, List.set_cons_zero, List.set_cons_succ]
   refine held_take 10 (.string vv) rfl (by kernel_rfl) (by kernel_rfl) (by kernel_rfl) (fun _ _ _ h => h) hHeld (Or.inl ⟨by rfl, fun w' hSw => by (try dsimp only at hSw); (try subst hSw); go_simp⟩) ?_
   simp only [Act.put, List.setIfInBounds_toArray, List.set_cons_zero, List.set_cons_succ]
   refine held_take 11 (.bool b) rfl (by kernel_rfl) (by kernel_rfl) (by kernel_rfl) (fun _ _ _ h => h) hHeld (Or.inl ⟨by rfl, fun w' hSw => by (try dsimp only at hSw); (try subst hSw); go_simp⟩) ?_
   simp only [Act.put, List.setIfInBounds_toArray, List.set_cons_zero, List.set_cons_succ]
   refine held_take 12 (.string vv) rfl (by kernel_rfl) (by kernel_rfl) (by kernel_rfl) (fun _ _ _ h => h) hHeld (Or.inl ⟨by rfl, fun w' hSw => by (try dsimp only at hSw); (try subst hSw); go_simp⟩) ?_
   simp only [Act.put, List.setIfInBounds_toArray, List.set_cons_zero, List.set_cons_succ]
   refine held_take 13 (.bool b) rfl (by kernel_rfl) (by kernel_rfl) (by kernel_rfl) (fun _ _ _ h => h) hHeld (Or.inl ⟨by rfl, fun w' hSw => by (try dsimp only at hSw); (try subst hSw); go_simp⟩) ?_
   simp only [Act.put, List.setIfInBounds_toArray, List.set_cons_zero, List.set_cons_succ]
   refine wpAnyH_done (by kernel_rfl) ?_ _
   clear hHeld
   replace kk4 := Lib.hid kk4
   clear kk3 kk k3 k4 e2 f2 e3 f3 e4 f4
   cases b with
   | true =>
    go_wp2
    go_roundw
    case rel => exact ⟨k + 1, by omega, by go_num, by have := hnext.out; simp at this; rw [hT1.out, this], kk4.out⟩
    case measure => simp [intOf]; omega
   | false =>
    go_wp2
    go_roundw
    case rel => exact ⟨k + 1, by omega, by go_num, by have := hnext.out; simp at this; rw [hT1.out, this]; go_num, kk4.out⟩
    case measure => simp [intOf]; omega
  ·have hkn : o.take k = o := List.take_of_length_le (by have := hm.out; omega)
   rw [hkn]
   go_wp2
   go_ret
   exact ⟨rfl, kr⟩
end Go.Proofs.YtmelaiefbpdifaaGreatDoor.Srv
