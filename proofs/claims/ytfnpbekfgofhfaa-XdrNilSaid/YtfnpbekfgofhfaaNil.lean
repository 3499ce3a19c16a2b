/- The walk of XdrNil: no reader reads nothing, no writer writes nothing. -/
import Derived.Test.YtfnpbekfgofhfaaAlive
namespace Go.Proofs.Ytfnpbekfgofhfaa
open Go.RowKit

set_option maxHeartbeats 400000 in
theorem wlist_nil (w : World) (A : Option Addr) (c : Nat) (l : List Nat) (hl : Nums w [] A l) (h32 : ∀ n ∈ l, n < 4294967296) (hL : l.length ≤ 1048576) :
    Calls Try.prog 35 #[.pointer none, .slice A l.length c] w (Gives (fun w' => Only [] w w')) := by
  have H32 := Lib.hid h32
  have HL := Lib.hid hl
  clear h32 hl
  go_enter Try.func35, Try.ntmps35
  go_wp2_with fail
  refine (wnumber_nil _ _ (by omega) (by omega)).mono ?_
  rintro e w1 ⟨rfl, k1⟩
  go_wp2_with fail
  go_loopw [13] (fun i wr => ∃ k : Nat, k ≤ l.length ∧ i = .int .i64 k ∧ Only [] w wr) (fun i _ => l.length - (intOf i).toNat)
  case atStart => exact ⟨0, Nat.zero_le _, rfl, k1⟩
  case round =>
    clear k1
    obtain ⟨k, hk, rfl, hwr⟩ := hrel
    by_cases hlt : k < l.length
    · obtain ⟨g, o, rfl, _, hnums⟩ : ∃ g o, A = some ⟨g, o, none⟩ ∧ g ∉ [] ∧ NumsAt w g o l := by
        rcases HL.out with h0 | h0
        · rw [h0] at hlt; simp at hlt
        · exact h0
      have hcell := (hnums.kept hwr (by simp)) k hlt
      have h32 := H32.out _ (List.getElem_mem hlt)
      have h32' : ((l[k] : Nat) : Int) < 4294967296 := by omega
      clear hnums
      go_wp2_with fail
      refine (wnumber_nil _ _ (by omega) h32').mono ?_
      rintro e w2 ⟨rfl, k2⟩
      go_wp2
      go_roundw
      case rel => exact ⟨k + 1, by omega, by go_num, hwr.trans k2⟩
      case measure => simp [intOf]; omega
    · obtain rfl : k = l.length := by omega
      go_wp2
      go_end0
      exact ⟨rfl, hwr⟩

set_option maxHeartbeats 1000000 in
theorem xdrNil_walk (w : World) (n : Int) (s : ByteArray) (most : Int) (h0 : 0 ≤ n) (h1 : n < 18446744073709551616) (hs : s.size ≤ 140737488351232) :
    Calls Try.prog 7 #[.int .u64 n, .string s, .int .i64 most] w fun e w' => e = .returned (.bool true) ∧ Only [] w w' := by
  go_enter Try.func7, Try.ntmps7
  go_wp2_with fail
  refine (alive_any _).mono ?_
  rintro e w1 ⟨rfl, k1⟩
  go_wp2_with fail
  refine (wnumber_nil _ _ (by omega) (by omega)).mono ?_
  rintro e w2 ⟨rfl, k2⟩
  go_wp2_with fail
  refine (wlong_nil _ _ h0 h1).mono ?_
  rintro e w3 ⟨rfl, k3⟩
  go_wp2_with fail
  refine (wflag_nil _ true).mono ?_
  rintro e w4 ⟨rfl, k4⟩
  go_wp2_with fail
  refine (wtext_nil _ s hs).mono ?_
  rintro e w5 ⟨rfl, k5⟩
  have g5 := (((k1.trans k2).trans k3).trans k4).trans k5
  have n5 := nums_lit w5 [] 1 2 (by simp)
  clear k1 k2 k3 k4 k5
  go_wp2_with fail
  refine (wlist_nil _ _ 2 [1, 2] n5 (by decide) (by decide)).mono ?_
  rintro e w6 ⟨rfl, k6⟩
  have g6 := (g5.alloc (.cells #[.int .u32 1, .int .u32 2] 44)).trans k6
  clear g5 n5 k6
  go_wp2_with fail
  refine (alive_any _).mono ?_
  rintro e w7 ⟨rfl, k7⟩
  have g7 := g6.trans k7
  clear g6 k7
  go_wp2_with (first
    | (with_reducible refine (bytes_nil _).mono ?_; rintro e w8 ⟨rfl, rfl⟩)
    | (with_reducible refine (rnum_nil _).mono ?_; rintro e w8 ⟨rfl, rfl⟩)
    | (with_reducible refine (rlong_nil _).mono ?_; rintro e w8 ⟨rfl, rfl⟩)
    | (with_reducible refine (rflag_nil _).mono ?_; rintro e w8 ⟨rfl, rfl⟩)
    | (with_reducible refine (rtext_nil _ most).mono ?_; rintro e w8 ⟨rfl, rfl⟩)
    | (with_reducible refine (rlist_nil _ most).mono ?_; rintro e w8 ⟨rfl, rfl⟩)
    | (with_reducible refine (rend_nil _).mono ?_; rintro e w8 ⟨rfl, rfl⟩)
    | (with_reducible refine (err_nil _).mono ?_; rintro e w8 ⟨rfl, rfl⟩)
    | (with_reducible refine (left_nil _).mono ?_; rintro e w8 ⟨rfl, rfl⟩))
  go_ret
  exact ⟨rfl, g7⟩

end Go.Proofs.Ytfnpbekfgofhfaa
