/- RowsNil: no rows are nothing, and a device that may not be is refused. -/
import Derived.Test.YthpjkhmkjhgbkaaGreatDoorGh
namespace Go.Proofs.YthpjkhmkjhgbkaaGreatDoor
open Go.RowKit Go.Maps

theorem clamp_few {x : Int} (h0 : 0 ≤ x) (h : x ≤ 41) : clamp x ≤ 41 := by unfold clamp; omega

set_option maxRecDepth 100000 in
set_option maxHeartbeats 2000000 in
theorem rowsNil_walk (w : World) (key : ByteArray) (b : Int) (h0 : 0 ≤ b) (h1 : b ≤ 255) :
    Calls Tryz.prog 6 #[.string key, .int .u8 b] w fun e w' => e = .returned (.bool true) ∧ Only [] w w' := by
  have halive := fun W => alive_any W
  have hget := fun W => get_nil W key
  have hall := fun W => all_nil W
  have hunder := fun W => under_nil W key
  have hfree := fun W => free_nil W
  have hcom := fun W v => commit5_nil W v
  have hopen := fun W => open5_nil W
  have hnew := fun W (k : Only [] w W) x a b => ownNewI_any w W x a b k
  have hrem := Int.tmod_lt_of_pos b (show (0 : Int) < 42 by decide)
  have hrem0 := Int.tmod_nonneg 42 h0
  replace halive := Lib.hid halive
  replace hget := Lib.hid hget
  replace hall := Lib.hid hall
  replace hunder := Lib.hid hunder
  replace hfree := Lib.hid hfree
  replace hcom := Lib.hid hcom
  replace hopen := Lib.hid hopen
  replace hnew := Lib.hid hnew
  go_enter Tryz.func6, Tryz.ntmps6
  go_wp2_with fail
  refine (halive.out _).mono ?_
  rintro e w1 ⟨rfl, k1⟩
  go_wp2_with fail
  refine (hget.out _).mono ?_
  rintro e w2 ⟨rfl, rfl⟩
  go_wp2_with fail
  refine (hnew.out _ k1 _ (by first | omega | skip) (by first | omega | skip)).mono ?_
  rintro e w3 ⟨p, F, rfl, hd3, _, _⟩
  go_wp2_with fail
  refine (hd3.few5 (by rw [fresh_firm]; exact clamp_few (by omega) (by omega)) (by show 0 + 40 ≤ 1048576; decide)).mono ?_
  rintro e w4 ⟨rfl, k4⟩
  clear hd3 k1
  go_wp2_with fail
  refine (hopen.out _).mono ?_
  rintro e w5 ⟨rfl, rfl⟩
  go_wp2_with fail
  refine (halive.out _).mono ?_
  rintro e w6 ⟨rfl, k6⟩
  have k06 := k4.trans k6
  clear k4 k6
  go_wp2_with fail
  refine (hall.out _).mono ?_
  rintro e w7 ⟨rfl, rfl⟩
  go_wp2_with fail
  refine (hunder.out _).mono ?_
  rintro e w8 ⟨rfl, rfl⟩
  go_wp2_with fail
  refine (hfree.out _).mono ?_
  rintro e w9 ⟨rfl, rfl⟩
  go_wp2_with fail
  refine (hcom.out _ _).mono ?_
  rintro e w10 ⟨rfl, rfl⟩
  go_wp2
  go_ret
  exact ⟨rfl, k06⟩
end Go.Proofs.YthpjkhmkjhgbkaaGreatDoor
