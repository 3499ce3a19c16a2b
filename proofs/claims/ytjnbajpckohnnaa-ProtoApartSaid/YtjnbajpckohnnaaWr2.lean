/- The walks of a writer, more: texts, lists, and what was written. -/
import Derived.Test.YtjnbajpckohnnaaWr
import Derived.LoopTactic
namespace Go.Proofs.Ytjnbajpckohnnaa
open Go.RowKit

theorem padN_lt (n : Nat) : padN n < 4 := by unfold padN; omega

theorem padding_any (w : World) (x : Int) (n : Nat) (hx : x = n) (hn : n < 18446744073709551616) :
    Calls Try.prog 33 #[.int .u64 x] w fun e w' => e = .returned (.int .u64 (padN n : Nat)) ∧ w = w' := by
  have h0 : 0 ≤ x := by omega
  have h1 : x < 18446744073709551616 := by omega
  have e : ((padN n : Nat) : Int) = (4 - x % 4) % 4 := by unfold padN; omega
  rw [e]
  clear e hx
  go_enter Try.func33, Try.ntmps33
  go_wp2
  go_ret
  exact ⟨rfl, rfl⟩

set_option maxHeartbeats 400000 in
theorem wtext_any (w : World) (p : Nat) (F : List Nat) (bs : List UInt8) (s : ByteArray) (hw : Wr w p F bs) (hlen : bs.length + s.size + 8 ≤ 1048576) :
    Calls Try.prog 18 #[.pointer (some ⟨p, 0, none⟩), .string s] w (Gives (fun w' => Wrote w w' p F (bs ++ encT s.data.toList))) := by
  have hs : s.size ≤ 1048576 := by omega
  have hl : s.data.toList.length = s.size := by simp
  have hpad := padN_lt s.size
  have hp0 := hw.lt
  go_enter Try.func18, Try.ntmps18
  go_wp2_with fail
  refine (wnumber_any _ p F bs _ s.size (by omega) (by omega) hw (by omega)).mono ?_
  rintro e w1 ⟨rfl, hw1⟩
  obtain ⟨F1, a1, a2, a3⟩ := hw1
  have H3 := Lib.hid a3
  clear a3
  go_wp2_with (refine wpList_to_bytes _ rfl 9 40 5 (.tmp 13) rfl Try.underlying9 Try.underlying40 Try.underlying5 s rfl (by unfold maxLen; omega) ?_; intro w2 c k2 hc1 hc2 hb2 hlt2)
  have hsrc := SrcV.of_bytes c hb2
  rw [hl] at hsrc
  have hsrc' := hsrc
  rw [← hl] at hsrc'
  refine (put_any _ p F1 _ _ s.data.toList (a1.kept k2 (by simp) (by simp)) (by rw [hl]; exact hsrc) (by simp [be4_length]; omega)).mono ?_
  rintro e w3 ⟨rfl, hw3⟩
  have hw3' := hw3.from k2
  obtain ⟨F3, b1, b2, b3⟩ := hw3'
  have H5 := Lib.hid b3
  clear b3 hw3 hsrc hsrc' hb2
  obtain ⟨i0, hi, hz0, hz1, hz2⟩ := info_parts info_u8
  go_wp2_with fail
  refine (padding_any _ _ s.size (by omega) (by omega)).mono ?_
  rintro e w4 ⟨rfl, rfl⟩
  go_wp2_with (refine wpList_make_full _ rfl (.tmp 18) (.tmp 18) 40 rfl 0 5 i0 (.int .u8 0) 1 Try.underlying40 hi hz0 hz1 .u64 .u64 _ _ (padN s.size) rfl rfl rfl rfl ?c1 ?c2 ?c3 ?go)
  case c1 => rw [hz2]; omega
  case c2 => unfold maxLen; omega
  case c3 => omega
  case go =>
    intro w5 hown5 hg5
    have k5 : Only [] w3 w5 := (Only.refl [] w3).grown hg5 (by intro k hk; cases hk)
    rw [madeCells_bytes] at hown5
    have hsrc5 := ownsRow_src hown5
    clear hown5
    go_wp2_with fail
    refine (put_any _ p F3 _ _ (zeros (padN s.size)) (b1.kept k5 (by simp) (by simp)) (by simpa [zeros] using hsrc5) (by simp [be4_length, zeros]; omega)).mono ?_
    rintro e w6 ⟨rfl, hw6⟩
    have hw6' := hw6.from k5
    go_wp2
    go_end0
    refine ⟨rfl, Wrote.join a2 H3.out (Wrote.join b2 H5.out ?_)⟩
    simpa [encT] using hw6'

theorem wtext_nil (w : World) (s : ByteArray) (hs : s.size ≤ 140737488351232) :
    Calls Try.prog 18 #[.pointer none, .string s] w (Gives (fun w' => Only [] w w')) := by
  have hpad := padN_lt s.size
  obtain ⟨i0, hi, hz0, hz1, hz2⟩ := info_parts info_u8
  go_enter Try.func18, Try.ntmps18
  go_wp2_with fail
  refine (wnumber_nil _ _ (by omega) (by omega)).mono ?_
  rintro e w1 ⟨rfl, k1⟩
  go_wp2_with (refine wpList_to_bytes _ rfl 9 40 5 (.tmp 13) rfl Try.underlying9 Try.underlying40 Try.underlying5 s rfl (by unfold maxLen; omega) ?_; intro w2 c k2 hc1 hc2 hb2 hlt2)
  refine (put_nil _ _).mono ?_
  rintro e w3 ⟨rfl, rfl⟩
  clear hb2
  go_wp2_with fail
  refine (padding_any _ _ s.size (by omega) (by omega)).mono ?_
  rintro e w4 ⟨rfl, rfl⟩
  go_wp2_with (refine wpList_make_full _ rfl (.tmp 18) (.tmp 18) 40 rfl 0 5 i0 (.int .u8 0) 1 Try.underlying40 hi hz0 hz1 .u64 .u64 _ _ (padN s.size) rfl rfl rfl rfl ?c1 ?c2 ?c3 ?go)
  case c1 => rw [hz2]; omega
  case c2 => unfold maxLen; omega
  case c3 => omega
  case go =>
    intro w5 hown5 hg5
    have k5 : Only [] w2 w5 := (Only.refl [] w2).grown hg5 (by intro k hk; cases hk)
    clear hown5
    go_wp2_with fail
    refine (put_nil _ _).mono ?_
    rintro e w6 ⟨rfl, rfl⟩
    go_wp2
    go_end0
    exact ⟨rfl, (k1.trans k2).trans k5⟩

theorem bytes_any (w : World) (p : Nat) (F : List Nat) (bs : List UInt8) (hw : Wr w p F bs) :
    Calls Try.prog 19 #[.pointer (some ⟨p, 0, none⟩)] w fun e w' => e = .returned (.string (strOf bs)) ∧ w = w' := by
  obtain ⟨v, hb, hown, hne, hF⟩ := hw
  obtain ⟨A, c, rfl⟩ := ownsRow_slice hown
  have hcell := hb.cell 0
  simp only [List.getElem?_toArray, List.getElem?_cons_zero] at hcell
  have hsrc := ownsRow_src hown
  go_enter Try.func19, Try.ntmps19
  go_wp2_with (refine wpList_to_string _ rfl 40 9 5 (.tmp 8) rfl Try.underlying40 Try.underlying5 Try.underlying9 A bs.length c bs rfl hsrc ?_)
  go_ret
  exact ⟨rfl, rfl⟩

theorem bytes_nil (w : World) :
    Calls Try.prog 19 #[.pointer none] w fun e w' => e = .returned (.string ⟨#[]⟩) ∧ w = w' := by
  go_enter Try.func19, Try.ntmps19
  go_wp2
  go_ret
  exact ⟨rfl, rfl⟩

end Go.Proofs.Ytjnbajpckohnnaa
