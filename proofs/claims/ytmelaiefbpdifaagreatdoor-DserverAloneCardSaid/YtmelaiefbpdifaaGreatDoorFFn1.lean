/- Numbers as bytes, and back; keys of epochs; what lies in a file; a file's epoch. -/
import Derived.Test.YtmelaiefbpdifaaGreatDoorFGf
namespace Go.Proofs.YtmelaiefbpdifaaGreatDoor.Srv
open Go.RowKit Go.Maps
def eK (x : Nat) : List UInt8 := 69 :: be4 x
def bK : List UInt8 := [66]
def numOf (l : List UInt8) : Nat := (rNumber l 0).1
theorem eK_length (x : Nat) : (eK x).length = 5 := rfl
theorem numOf_lt (l : List UInt8) : numOf l < 4294967296 := by
 unfold numOf rNumber
 have h1 := hd4_lt l
 split
 ·simp
 ·split
  ·simp
  ·simp only; omega
theorem numOf_be4 (n : Nat) (h : n < 4294967296) : numOf (be4 n) = n := by
 have := rNumber_be4 n [] h
 rw [List.append_nil] at this
 unfold numOf
 rw [this]
theorem bytesOf_any (w : World) (x : Int) (n : Nat) (hx : x = n) (hn : n < 4294967296) :
  Calls Tryz.prog 94 #[.int .u32 x] w fun e w' => e = .returned (.string (strOf (be4 n))) ∧ Only [] w w' := by
 have hnum := fun W p F (h : Wr W p F []) => wnumber_any W p F [] x n hx hn h (by simp)
 have h1 : Wr (w.alloc (.cells #[.slice none 0 0] 249)) w.heap.size [] [] := ⟨.slice none 0 0, Blk.new w _ _, ⟨rfl, .inl ⟨rfl, rfl⟩⟩, by simp [Value.ownBlock], by simp [Value.ownBlock]⟩
 have k1 : Only [] w (w.alloc (.cells #[.slice none 0 0] 249)) := (Only.refl [] w).alloc _
 replace hnum := Lib.hid hnum
 clear hx
 go_enter Tryz.func94, Tryz.ntmps94
 go_wp2_with fail
 refine (hnum.out _ _ _ h1).mono ?_
 rintro e w2 ⟨rfl, F2, hw2, ho2, hF2⟩
 go_wp2_with fail
 refine (bytes_any _ _ _ _ hw2).mono ?_
 rintro e w3 ⟨rfl, rfl⟩
 go_wp2
 go_ret
 exact ⟨rfl, k1.then ho2 (fun i hi => .inr (by simp at hi; omega))⟩
theorem numberOf_any (w : World) (l : List UInt8) (h : l.length ≤ 1048576) :
  Calls Tryz.prog 93 #[.string (strOf l)] w fun e w' => e = .returned (.int .u32 (numOf l : Int)) ∧ Only [] w w' := by
 have hnew := newReader_two w (strOf l) (by rw [strOf_size]; omega)
 rw [strOf_list] at hnew
 generalize strOf l = s at *
 unfold numOf
 go_enter Tryz.func93, Tryz.ntmps93
 go_wp2_with fail
 refine hnew.mono ?_
 rintro e w1 ⟨p, g, rfl, hr, hp, hg, k1, _⟩
 go_wp2_with fail
 refine (rnum_any w1 p g l 0 hr).mono ?_
 rintro e w2 ⟨rfl, _, k2⟩
 go_wp2
 go_ret
 exact ⟨rfl, k1.then k2 (fun i hi => .inr (by simp at hi; omega))⟩
theorem epochKey_any (w : World) (x : Int) (n : Nat) (hx : x = n) (hn : n < 4294967296) :
  Calls Tryz.prog 111 #[.int .u32 x] w fun e w' => e = .returned (.string (strOf (eK n))) ∧ Only [] w w' := by
 have hb := bytesOf_any w x n hx hn
 have happ : strOf [69] ++ strOf (be4 n) = strOf (eK n) := strOf_append _ _
 have s1 : (strOf [69]).size = 1 := by rw [strOf_size]; rfl
 have s2 : (strOf (be4 n)).size = 4 := by rw [strOf_size]; rfl
 have hadd : ∀ W, (Op.stringOp .add (strOf [69]) (strOf (be4 n))).run Tryz.prog W = .ok (.string (strOf (eK n))) W := fun W => by
  rw [run_string_add_sum W _ _ (by omega), happ]
 change ∀ W, (Op.stringOp .add ⟨#[69]⟩ (strOf (be4 n))).run Tryz.prog W = .ok (.string (strOf (eK n))) W at hadd
 clear happ s1 s2 hx
 generalize strOf (eK n) = S3 at *
 generalize strOf (be4 n) = S2 at *
 go_enter Tryz.func111, Tryz.ntmps111
 go_wp2_with fail
 refine hb.mono ?_
 rintro e w1 ⟨rfl, k1⟩
 go_wp2
 go_ret
 exact ⟨rfl, k1⟩
theorem within_any (w : World) (x y : Int) (h0 : 0 ≤ x ∧ x < 4294967296) (h1 : 0 ≤ y ∧ y < 4294967296) :
  Calls Tryz.prog 202 #[.int .u32 x, .int .u64 y] w fun e w' => e = .returned (.bool (decide (x + y ≤ 1024))) ∧ w' = w := by
 have hw : IntKind.u64.wrap x = x := by rw [IntKind.wrap_u64]; omega
 have hw2 : IntKind.u64.wrap (x + y) = x + y := by rw [IntKind.wrap_u64]; omega
 go_enter Tryz.func202, Tryz.ntmps202
 go_wp2
 go_ret
 simp
end Go.Proofs.YtmelaiefbpdifaaGreatDoor.Srv
