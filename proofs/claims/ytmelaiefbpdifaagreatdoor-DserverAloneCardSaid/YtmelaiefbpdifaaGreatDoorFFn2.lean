/- A file's epoch, as the server's rows have it. -/
import Derived.Test.YtmelaiefbpdifaaGreatDoorFFn1
namespace Go.Proofs.YtmelaiefbpdifaaGreatDoor.Srv
open Go.RowKit Go.Maps
set_option maxRecDepth 100000 in
theorem known_at (w : World) (sb rp mb lp : Nat) (M : List Rw) (x : Int) (n : Nat) (hx : x = n) (hn : n < 4294967296) (hsb : w.cell? ⟨sb, 3, none⟩ = some (.pointer (some ⟨rp, 0, none⟩))) (hr : RowsB w rp mb lp M) (hv : (valL M (eK n)).length ≤ 1048576) :
  Calls Tryz.prog 57 #[.pointer (some ⟨sb, 0, none⟩), .int .u32 x] w fun e w' => e = .returned (.tuple #[.int .u32 (numOf (valL M (eK n)) : Int), .bool (findR M (eK n)).isSome]) ∧ Only [] w w' := by
 have hkey := fun W => epochKey_any W x n hx hn
 have hget := fun W (k : Only [] w W) => get_any W rp mb lp M (eK n) (by rw [eK_length]; decide) (hr.kept k (by simp) (by simp))
 have hnum := fun W => numberOf_any W (valL M (eK n)) hv
 replace hkey := Lib.hid hkey
 replace hget := Lib.hid hget
 replace hnum := Lib.hid hnum
 clear hr hv hx
 generalize strOf (valL M (eK n)) = vs at *
 generalize numOf (valL M (eK n)) = y at *
 generalize strOf (eK n) = ks at *
 generalize (findR M (eK n)).isSome = b at *
 go_enter Tryz.func57, Tryz.ntmps57
 go_wp2_with fail
 have kd : Only [] w w.drew := (Only.refl [] w).drew
 have cd := kd.cell hsb (by simp)
 refine wp_region_held_drew (S := fun w' => w'.cell? ⟨sb, 3, none⟩ = some (.pointer (some ⟨rp, 0, none⟩))) (by kernel_rfl) cd (fun hHeld => ?_)
 generalize w.drew = wd at *
 refine held_take 0 (.pointer (some ⟨sb, 0, none⟩)) rfl (by kernel_rfl) (by kernel_rfl) (by kernel_rfl) (fun _ _ _ h => h) hHeld (Or.inl ⟨by rfl, fun w' hSw => by (try dsimp only at hSw); (try subst hSw); go_simp⟩) ?_
 simp only [Act.put, List.setIfInBounds_toArray, List.set_cons_zero, List.set_cons_succ]
 refine held_take 1 (.pointer (some ⟨sb, 0, none⟩)) rfl (by kernel_rfl) (by kernel_rfl) (by kernel_rfl) (fun _ _ _ h => h) hHeld (Or.inl ⟨by rfl, fun w' hSw => by (try dsimp only at hSw); (try subst hSw); go_simp⟩) ?_
 simp only [Act.put, List.setIfInBounds_toArray, List.set_cons_zero, List.set_cons_succ]
 refine held_take 2 (.pointer (some ⟨sb, 3, none⟩)) rfl (by kernel_rfl) (by kernel_rfl) (by kernel_rfl) (fun _ _ _ h => h) hHeld (Or.inl ⟨by rfl, fun w' hSw => by (try dsimp only at hSw); (try subst hSw); go_simp⟩) ?_
 simp only [Act.put, List.setIfInBounds_toArray, List.set_cons_zero, List.set_cons_succ]
 refine held_take 3 (.pointer (some ⟨rp, 0, none⟩)) rfl (by kernel_rfl) (by kernel_rfl) (by kernel_rfl) (fun _ _ _ h => h) hHeld (Or.inl ⟨by rfl, fun w' hSw => by (try dsimp only at hSw); (try subst hSw); go_simp⟩) ?_
 simp only [Act.put, List.setIfInBounds_toArray, List.set_cons_zero, List.set_cons_succ]
 refine held_take 4 (.int .u32 x) rfl (by kernel_rfl) (by kernel_rfl) (by kernel_rfl) (fun _ _ _ h => h) hHeld (Or.inl ⟨by rfl, fun w' hSw => by (try dsimp only at hSw); (try subst hSw); go_simp⟩) ?_
 simp only [Act.put, List.setIfInBounds_toArray, List.set_cons_zero, List.set_cons_succ]
 refine held_step 5 rfl (by kernel_rfl) (fun K hK => ?_)
 go_simp
 refine (hkey.out _).mono ?_; rintro e w1 ⟨rfl, k1⟩
 have c1 := k1.cell cd (by simp)
 have k01 := kd.trans k1
 go_wp2_with fail
 refine hK.out _ _ c1 (fun hHeld => ?_)
 clear hK K
 refine held_step 6 rfl (by kernel_rfl) (fun K hK => ?_)
 go_simp
 refine (hget.out _ k01).mono ?_; rintro e w2 ⟨rfl, k2⟩
 have c2 := k2.cell c1 (by simp)
 have k02 := k01.trans k2
 go_wp2_with fail
 refine hK.out _ _ c2 (fun hHeld => ?_)
 clear hK K
 refine held_take 7 (.tuple #[.string vs, .bool b]) rfl (by kernel_rfl) (by kernel_rfl) (by kernel_rfl) (fun _ _ _ h => h) hHeld (Or.inl ⟨by rfl, fun w' hSw => by (try dsimp only at hSw); (try subst hSw); go_simp⟩) ?_
 simp only [Act.put, List.setIfInBounds_toArray, List.set_cons_zero, List.set_cons_succ]
 refine held_take 8 (.string vs) rfl (by kernel_rfl) (by kernel_rfl) (by kernel_rfl) (fun _ _ _ h => h) hHeld (Or.inl ⟨by rfl, fun w' hSw => by (try dsimp only at hSw); (try subst hSw); go_simp⟩) ?_
 simp only [Act.put, List.setIfInBounds_toArray, List.set_cons_zero, List.set_cons_succ]
 refine held_take 9 (.bool b) rfl (by kernel_rfl) (by kernel_rfl) (by kernel_rfl) (fun _ _ _ h => h) hHeld (Or.inl ⟨by rfl, fun w' hSw => by (try dsimp only at hSw); (try subst hSw); go_simp⟩) ?_
 simp only [Act.put, List.setIfInBounds_toArray, List.set_cons_zero, List.set_cons_succ]
 refine held_take 10 (.string vs) rfl (by kernel_rfl) (by kernel_rfl) (by kernel_rfl) (fun _ _ _ h => h) hHeld (Or.inl ⟨by rfl, fun w' hSw => by (try dsimp only at hSw); (try subst hSw); go_simp⟩) ?_
 simp only [Act.put, List.setIfInBounds_toArray, List.set_cons_zero, List.set_cons_succ]
 refine held_take 11 (.bool b) rfl (by kernel_rfl) (by kernel_rfl) (by kernel_rfl) (fun _ _ _ h => h) hHeld (Or.inl ⟨by rfl, fun w' hSw => by (try dsimp only at hSw); (try subst hSw); go_simp⟩) ?_
 simp only [Act.put, List.setIfInBounds_toArray, List.set_cons_zero, List.set_cons_succ]
 refine wpAnyH_done (by kernel_rfl) ?_ _
 clear hHeld
 go_wp2_with fail
 refine (hnum.out _).mono ?_; rintro e w3 ⟨rfl, k3⟩
 have kend := k02.trans k3
 go_wp2
 go_ret2
 exact ⟨rfl, kend⟩
theorem epoch_at (w : World) (sb rp mb lp : Nat) (M : List Rw) (x : Int) (n : Nat) (hx : x = n) (hn : n < 4294967296) (hsb : w.cell? ⟨sb, 3, none⟩ = some (.pointer (some ⟨rp, 0, none⟩))) (hr : RowsB w rp mb lp M) (hv : (valL M (eK n)).length ≤ 1048576) :
  Calls Tryz.prog 18 #[.pointer (some ⟨sb, 0, none⟩), .int .u32 x] w fun e w' => e = .returned (.int .u32 (numOf (valL M (eK n)) : Int)) ∧ Only [] w w' := by
 have hk := known_at w sb rp mb lp M x n hx hn hsb hr hv
 clear hx hr hv
 go_enter Tryz.func18, Tryz.ntmps18
 go_wp2_with fail
 refine hk.mono ?_; rintro e w1 ⟨rfl, k1⟩
 go_wp2
 go_ret
 exact ⟨rfl, k1⟩
end Go.Proofs.YtmelaiefbpdifaaGreatDoor.Srv
