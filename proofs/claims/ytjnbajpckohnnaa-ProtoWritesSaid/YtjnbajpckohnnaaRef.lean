/- The walks of the document's answers: an item's bytes. -/
import Derived.Test.YtjnbajpckohnnaaWr2
import Derived.Test.YtjnbajpckohnnaaRd4
namespace Go.Proofs.Ytjnbajpckohnnaa
open Go.RowKit

theorem fnumber_any (w : World) (x : Int) (n : Nat) (hx : x = n) (hn : n < 4294967296) :
    Calls Try.prog 22 #[.int .u32 x] w fun e w' => e = .returned (.string (strOf (be4 n))) ∧ Only [] w w' := by
  have h0 : 0 ≤ x := by omega
  have h1 : x < 4294967296 := by omega
  have hs := Lib.hid (src_be4 w n x hx hn)
  clear hx
  go_enter Try.func22, Try.ntmps22
  go_wp2_with (refine wpList_to_string _ rfl 40 9 5 (.tmp 17) rfl Try.underlying40 Try.underlying5 Try.underlying9 _ 4 4 (be4 n) rfl hs.out ?_)
  go_ret
  exact ⟨rfl, (Only.refl [] w).alloc _⟩

theorem padN_test (n k : Nat) (hk : k ≤ padN n) : (4 + n + k) % 4 = 0 ↔ k = padN n := by
  unfold padN at *
  omega
theorem zeros_snoc (k : Nat) : zeros k ++ [0] = zeros (k + 1) := by
  unfold zeros
  rw [List.replicate_succ']

/-- A text on its way: its length, its bytes, k zero bytes. -/
def textAt (l : List UInt8) (k : Nat) : List UInt8 := be4 l.length ++ l ++ zeros k
theorem textAt_length (l : List UInt8) (k : Nat) : (textAt l k).length = 4 + l.length + k := by simp [textAt, be4_length, zeros]; omega
theorem textAt_zero (l : List UInt8) : be4 l.length ++ l = textAt l 0 := by simp [textAt, zeros]
theorem textAt_snoc (l : List UInt8) (k : Nat) : textAt l k ++ [0] = textAt l (k + 1) := by unfold textAt; rw [List.append_assoc, zeros_snoc]
theorem textAt_end (l : List UInt8) : textAt l (padN l.length) = encT l := by simp [textAt, encT]

set_option maxHeartbeats 400000 in
theorem ftext_list (w : World) (l : List UInt8) (hs : l.length ≤ 1048576) :
    Calls Try.prog 23 #[.string (strOf l)] w fun e w' => e = .returned (.string (strOf (encT l))) ∧ Only [] w w' := by
  have hsize : (strOf l).size = l.length := strOf_size l
  have hpad := padN_lt l.length
  have h0 := textAt_zero l
  go_enter Try.func23, Try.ntmps23
  go_wp2_with fail
  refine (fnumber_any _ _ l.length (by omega) (by omega)).mono ?_
  rintro e w1 ⟨rfl, k1⟩
  go_wp2_with (refine wpList_concat _ rfl 9 9 (.tmp 7) (.tmp 8) rfl (be4 l.length) l rfl rfl (by simp [be4_length]; omega) ?_)
  clear h0 hsize
  go_loop [3] (fun t => ∃ k : Nat, k ≤ padN l.length ∧ t = .string (strOf (textAt l k))) (fun t => 4 + l.length + padN l.length - strLen t)
  case atStart => exact ⟨0, Nat.zero_le _, rfl⟩
  case round =>
    obtain ⟨k, hk, rfl⟩ := hrel
    have hsz : (strOf (textAt l k)).size = 4 + l.length + k := by rw [strOf_size, textAt_length]
    by_cases he : k = padN l.length
    · have ht : ((4 + (l.length : Int) + (k : Int)) % 4 != 0) = false := by
        have := (padN_test l.length k hk).2 he
        simp; omega
      have HE := Lib.hid he
      clear he
      go_wp2
      go_ret
      refine ⟨?_, k1⟩
      have := HE.out
      subst this
      rw [← textAt_end]
      rfl
    · have ht : ((4 + (l.length : Int) + (k : Int)) % 4 != 0) = true := by
        have := mt (padN_test l.length k hk).1 he
        simp; omega
      have hlt : k < padN l.length := by omega
      clear he
      have H1 := Lib.hid (textAt_snoc l k)
      have H2 := Lib.hid (textAt_length l k)
      go_wp2_with (refine wpList_concat _ rfl 9 9 (.tmp 14) _ rfl (textAt l k) [0] rfl rfl (by rw [H2.out]; simp; omega) ?_)
      rw [H1.out]
      go_wp2
      go_round
      case rel => exact ⟨k + 1, by omega, rfl⟩
      case measure => simp only [strLen, strOf_size, textAt_length]; omega

theorem ftext_any (w : World) (s : ByteArray) (hs : s.size ≤ 1048576) :
    Calls Try.prog 23 #[.string s] w fun e w' => e = .returned (.string (strOf (encT s.data.toList))) ∧ Only [] w w' := by
  have := ftext_list w s.data.toList (by simpa using hs)
  rwa [strOf_toList] at this

/-- A list on its way. -/
def listAt (l : List Nat) (k : Nat) : List UInt8 := be4 l.length ++ encNs (l.take k)
theorem listAt_length (l : List Nat) (k : Nat) (h : k ≤ l.length) : (listAt l k).length = 4 + 4 * k := by simp [listAt, be4_length, encNs_length]; omega
theorem listAt_zero (l : List Nat) : be4 l.length = listAt l 0 := by simp [listAt, encNs]
theorem listAt_snoc (l : List Nat) (k : Nat) (h : k < l.length) : listAt l k ++ be4 l[k] = listAt l (k + 1) := by unfold listAt; rw [encNs_take l k h, List.append_assoc]
theorem listAt_end (l : List Nat) : listAt l l.length = encL l := by simp [listAt, encL]

end Go.Proofs.Ytjnbajpckohnnaa
