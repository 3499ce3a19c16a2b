/- block: bytes of one kind; small. -/
import Derived.Test.YtohkfeolfemcnaaWrite
import Derived.Test.YtohkfeolfemcnaaNew
namespace Go.Proofs.Ytohkfeolfemcnaa
open Go.RowKit

theorem info_u8 : (Try.prog.info? 5).map (fun i => (i.zero, i.size, i.bytes)) = some (some (.int .u8 0), 1, 1) := by kernel_rfl

theorem byteVs_rep_succ (k : Nat) (b : UInt8) : byteVs (rep k b) ++ [byteV b] = byteVs (rep (k + 1) b) := by
  rw [rep_succ, byteVs_append]
  rfl

set_option maxHeartbeats 400000 in
theorem block_any (w : World) (b : UInt8) (n : Nat) (hn : n ≤ 1048576) :
    Calls Try.prog 20 #[.int .u8 (b.toNat : Int), .int .i64 (n : Int)] w fun e w' => e = .returned (.string (strOf (rep n b))) ∧ Only [] w w' := by
  have hsrc : ∀ W : World, SrcV (W.alloc (.cells #[byteV b] 5)) (.slice (some ⟨W.heap.size, 0, none⟩) 1 1) 1 [byteV b] := fun W => by
    refine ⟨_, _, rfl, rfl, .inr ⟨_, rfl, fun j u hu => ?_⟩⟩
    rw [addr_add, Nat.zero_add, (Blk.new W _ _).cell j]
    simpa using hu
  have hone : ∀ u ∈ [byteV b], u.oneCell' = true := by
    intro u hu
    simp at hu
    subst hu
    rfl
  have hbv : Hid (byteV b = .int .u8 (b.toNat : Int)) := rfl
  have hb0 : 0 ≤ (b.toNat : Int) := by omega
  have hsrc := Lib.hid hsrc
  obtain ⟨x, hx⟩ : ∃ x : Int, x = (b.toNat : Int) := ⟨_, rfl⟩
  rw [← hx] at hbv hb0 ⊢
  replace hx := Lib.hid hx
  go_enter Try.func20, Try.ntmps20
  go_wp2_with fail
  go_loopw [5, 6] (fun t i wr => ∃ k : Nat, k ≤ n ∧ i = .int .i64 k ∧ wr.ownsRow 0 5 1 t k (byteVs (rep k b)) ∧ Only [] w wr ∧ ∀ g, t.ownBlock = some g → w.heap.size ≤ g) (fun _ i _ => n - (intOf i).toNat)
  case atStart => exact ⟨0, Nat.zero_le _, rfl, World.ownsRow_nil _ 0 _ 1, Only.refl _ _, by simp [Value.ownBlock]⟩
  case round =>
    obtain ⟨k, hk, rfl, hown, hkept, hblk⟩ := hrel
    by_cases hlt : k < n
    · have ha := ownsRow_kept hown ((Only.refl [] wr).alloc (.cells #[byteV b] 5)) (by simp)
      have hs := hsrc.out wr
      rw [show byteV b = .int .u8 x from hbv] at ha hs hone
      have k1 := hkept.alloc (.cells #[.int .u8 x] 5)
      clear hown
      go_wp2_with (at_builtin; refine wpList_append_src _ rfl (.tmp 12) (.tmp 14) 68 rfl 5 (.int .u8 0) 1 Try.underlying68 info_u8 rfl _ k _ rfl ha (.slice (some ⟨wr.heap.size, 0, none⟩) 1 1) 1 [.int .u8 x] rfl hs hone ?c1 ?c2 ?go)
      case c1 => unfold maxLen; omega
      case c2 => omega
      case go =>
        intro v' w1 hown1 hg hat
        have hown2 : w1.ownsRow 0 5 1 v' (k + 1) (byteVs (rep (k + 1) b)) := by
          rw [← byteVs_rep_succ, show byteV b = .int .u8 x from hbv]
          exact hown1
        have k2 : Only [] w w1 := (k1.grown hg (fun g hg => .inr (hblk g hg)))
        have hblk' : ∀ g, v'.ownBlock = some g → w.heap.size ≤ g := by
          intro g hg'
          rcases hat with h | h
          · exact hblk g (by rw [← h]; exact hg')
          · rw [h] at hg'
            injection hg' with hg'
            have := k1.size
            rw [← hg']
            simpa using this
        replace hown2 := Lib.hid hown2
        replace k2 := Lib.hid k2
        replace hblk' := Lib.hid hblk'
        clear hown1 hg hat hblk hs ha k1
        go_wp2
        go_roundw
        case rel => exact ⟨k + 1, by omega, by go_num, hown2.out, k2.out, hblk'.out⟩
        case measure => simp [intOf]; omega
    · have hkn : k = n := by omega
      subst hkn
      obtain ⟨A, c, rfl⟩ := ownsRow_slice hown
      have hc := run_to_string (P := Try.prog) wr 68 9 5 Try.underlying68 Try.underlying5 Try.underlying9 _ _ _ _ (ownsRow_src hown)
      clear hown
      go_wp2
      go_ret
      exact ⟨rfl, hkept⟩

end Go.Proofs.Ytohkfeolfemcnaa
