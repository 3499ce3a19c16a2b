/- What every law asks first: 'alive'. -/
import Derived.Test.YtohkfeolfemcnaaDo
namespace Go.Proofs.Ytohkfeolfemcnaa
open Go.RowKit

theorem i64_range {n : Int} (h : (Lit.int .i64 n).wf = true) : -9223372036854775808 ≤ n ∧ n ≤ 9223372036854775807 := by
  have e1 : IntKind.i64.min = -9223372036854775808 := by decide +kernel
  have e2 : IntKind.i64.max = 9223372036854775807 := by decide +kernel
  simp only [Lit.wf, Bool.and_eq_true, decide_eq_true_eq] at h
  omega
theorem u64_range {n : Int} (h : (Lit.int .u64 n).wf = true) : 0 ≤ n ∧ n < 18446744073709551616 := by
  have e1 : IntKind.u64.min = 0 := by decide +kernel
  have e2 : IntKind.u64.max = 18446744073709551615 := by decide +kernel
  simp only [Lit.wf, Bool.and_eq_true, decide_eq_true_eq] at h
  omega
theorem u8_range {n : Int} (h : (Lit.int .u8 n).wf = true) : 0 ≤ n ∧ n < 256 := by
  have e1 : IntKind.u8.min = 0 := by decide +kernel
  have e2 : IntKind.u8.max = 255 := by decide +kernel
  simp only [Lit.wf, Bool.and_eq_true, decide_eq_true_eq] at h
  omega

/-- Since w, by whatever was done, a device of the call's own has come to the state s. -/
def Run (w w' : World) (p : Nat) (s : St) : Prop := ∃ F, Dev w' p F s ∧ Only [] w w' ∧ ∀ i ∈ F, w.heap.size ≤ i
theorem Run.only {w w1 w2 : World} {p : Nat} {s : St} (h : Run w w1 p s) (k : Only [] w1 w2) : Run w w2 p s := by
  obtain ⟨F, h1, h2, h3⟩ := h
  exact ⟨F, h1.kept k (by simp), h2.trans k, h3⟩
theorem Run.did {w w1 w2 : World} {p : Nat} {F : List Nat} {s : St} (k : Only [] w w1) (hF : ∀ i ∈ F, w.heap.size ≤ i) (h : Did w1 w2 p F s) : Run w w2 p s := by
  obtain ⟨F', h1, h2, h3⟩ := h
  refine ⟨F', h1, k.then h2 (fun i hi => .inr (hF i hi)), fun i hi => ?_⟩
  rcases h3.out i hi with h | h
  · exact hF i h
  · exact Nat.le_trans k.size h
theorem Run.fine {w w1 : World} {p : Nat} {s : St} (h : Run w w1 p s) : Fine s := by
  obtain ⟨F, h1, _⟩ := h
  exact h1.fine

/-! The contracts over a device of the call's own. -/
section
variable {w w1 : World} {p : Nat} {s : St}
theorem Run.write (h : Run w w1 p s) (k : Int) (b : List UInt8) (h0 : -9223372036854775808 ≤ k) (h1 : k ≤ 9223372036854775807) (hlen : s.late.length < 1048576) :
    Calls Try.prog 24 #[.pointer (some ⟨p, 0, none⟩), .int .i64 k, .string (strOf b)] w1 fun e w' => e = .returned (.int .i64 (writeErr s k b)) ∧ Run w w' p (written s k b) := by
  obtain ⟨F, hd, k, hF⟩ := h
  exact (write_any w1 p F s _ b h0 h1 hlen hd).mono fun e w' h => ⟨h.1, Run.did k hF h.2⟩
theorem Run.barrier (h : Run w w1 p s) :
    Calls Try.prog 25 #[.pointer (some ⟨p, 0, none⟩)] w1 fun e w' => e = .returned (.int .i64 (barErr s)) ∧ Run w w' p (barred s) := by
  obtain ⟨F, hd, k, hF⟩ := h
  exact (barrier_any w1 p F s hd).mono fun e w' h => ⟨h.1, Run.did k hF h.2.did⟩
theorem Run.fuse (h : Run w w1 p s) (n : Int) (h0 : -9223372036854775808 ≤ n) (h1 : n ≤ 9223372036854775807) :
    Calls Try.prog 21 #[.pointer (some ⟨p, 0, none⟩), .int .i64 n] w1 fun e w' => e = .returned (.tuple #[]) ∧ Run w w' p (lit s n) := by
  obtain ⟨F, hd, k, hF⟩ := h
  exact (fuse_any w1 p F s n h0 h1 hd).mono fun e w' h => ⟨h.1, Run.did k hF h.2.did⟩
theorem Run.crash (h : Run w w1 p s) (keep : Nat) (hk : keep < 18446744073709551616) :
    Calls Try.prog 22 #[.pointer (some ⟨p, 0, none⟩), .int .u64 (keep : Int)] w1 fun e w' => e = .returned (.tuple #[]) ∧ Run w w' p (crashed s keep) := by
  obtain ⟨F, hd, k, hF⟩ := h
  exact (crash_any w1 p F s keep hk hd).mono fun e w' h => ⟨h.1, Run.did k hF h.2.did⟩
theorem Run.do (h : Run w w1 p s) (x : Deed) (hx : x.okay) (hlen : s.late.length < 1048576) :
    Calls Try.prog 13 #[.pointer (some ⟨p, 0, none⟩), .agg #[.int .i64 x.kind, .int .i64 x.at_, .int .u8 (x.b.toNat : Int), .int .u64 (x.keep : Int)]] w1 fun e w' => e = .returned (.int .i64 (actErr s x)) ∧ Run w w' p (actSt s x) := by
  obtain ⟨F, hd, k, hF⟩ := h
  exact (do_any w1 p F s x hx hlen hd).mono fun e w' h => ⟨h.1, Run.did k hF h.2⟩
theorem Run.read (h : Run w w1 p s) (k : Int) :
    Calls Try.prog 17 #[.pointer (some ⟨p, 0, none⟩), .int .i64 k] w1 fun e w' => e = .returned (.tuple #[.string (strOf (readB s k)), .int .i64 (readErr s k)]) ∧ w' = w1 := by
  obtain ⟨F, hd, _, _⟩ := h
  exact read_any w1 p F s k hd
theorem Run.settled (h : Run w w1 p s) (k : Int) :
    Calls Try.prog 19 #[.pointer (some ⟨p, 0, none⟩), .int .i64 k] w1 fun e w' => e = .returned (.string (strOf (firmB s k))) ∧ w' = w1 := by
  obtain ⟨F, hd, _, _⟩ := h
  exact settled_any w1 p F s k hd
theorem Run.blocks (h : Run w w1 p s) :
    Calls Try.prog 23 #[.pointer (some ⟨p, 0, none⟩)] w1 fun e w' => e = .returned (.int .i64 (s.firm.length : Int)) ∧ w' = w1 := by
  obtain ⟨F, hd, _, _⟩ := h
  exact blocks_any w1 p F s hd
theorem Run.dead (h : Run w w1 p s) :
    Calls Try.prog 15 #[.pointer (some ⟨p, 0, none⟩)] w1 fun e w' => e = .returned (.bool s.dead) ∧ w' = w1 := by
  obtain ⟨F, hd, _, _⟩ := h
  exact dead_any w1 p F s hd
theorem Run.unsettled (h : Run w w1 p s) :
    Calls Try.prog 16 #[.pointer (some ⟨p, 0, none⟩)] w1 fun e w' => e = .returned (.int .i64 (s.late.length : Int)) ∧ w' = w1 := by
  obtain ⟨F, hd, _, _⟩ := h
  exact unsettled_any w1 p F s hd
end
theorem Run.new (w w1 : World) (k : Int) (h0 : -9223372036854775808 ≤ k) (h1 : k ≤ 9223372036854775807) (k1 : Only [] w w1) :
    Calls Try.prog 10 #[.int .i64 k] w1 fun e w' => ∃ p, e = .returned (.pointer (some ⟨p, 0, none⟩)) ∧ Run w w' p (fresh (clamp k)) := by
  refine (new_any w1 k h0 h1).mono ?_
  rintro e w' ⟨p, F, he, hd, hk, hF⟩
  exact ⟨p, he, F, hd, k1.trans hk, fun i hi => Nat.le_trans k1.size (hF i hi)⟩

theorem alive_states (X Y : List UInt8) (hX : X.length = 256) (hY : Y.length = 256) :
    writeErr (fresh 2) 0 X = 0 ∧ writeErr (written (fresh 2) 0 X) 1 Y = 0 ∧
    crashed (written (written (fresh 2) 0 X) 1 Y) 2 = ⟨[rep 256 0, Y], [], -1, false⟩ ∧ (written (fresh 2) 0 X).late.length < 1048576 := by
  have e1 : written (fresh 2) 0 X = ⟨[rep 256 0, rep 256 0], [(0, X)], -1, false⟩ := by
    simp [written, fresh, hasBlock, hX, burns, burnt, List.replicate_succ]
  have e2 : written (⟨[rep 256 0, rep 256 0], [(0, X)], -1, false⟩ : St) 1 Y = ⟨[rep 256 0, rep 256 0], [(0, X), (1, Y)], -1, false⟩ := by
    simp [written, hasBlock, hY, burns, burnt]
  refine ⟨?_, ?_, ?_, ?_⟩
  · simp [writeErr, fresh, hasBlock, hX, burns]
  · rw [e1]
    simp [writeErr, hasBlock, hY, burns]
  · rw [e1, e2]
    simp [crashed, settledAll, settle, settleFrom, keepBit]
  · rw [e1]
    simp

theorem alive_any (w : World) : Calls Try.prog 9 #[] w fun e w' => e = .returned (.bool true) ∧ Only [] w w' := by
  have h97 : ((97 : UInt8).toNat : Int) = 97 := rfl
  have h98 : ((98 : UInt8).toNat : Int) = 98 := rfl
  have h00 : ((0 : UInt8).toNat : Int) = 0 := rfl
  obtain ⟨s1, s2, s3, s4⟩ := alive_states (rep 256 97) (rep 256 98) (rep_length _ _) (rep_length _ _)
  have r0 : readB ⟨[rep 256 0, rep 256 98], [], -1, false⟩ 0 = rep 256 0 := by simp [readB, hasBlock, nowOf]
  have r1 : readB ⟨[rep 256 0, rep 256 98], [], -1, false⟩ 1 = rep 256 98 := by simp [readB, hasBlock, nowOf]
  have q0 : readErr ⟨[rep 256 0, rep 256 98], [], -1, false⟩ 0 = 0 := by simp [readErr, hasBlock]
  have q1 : readErr ⟨[rep 256 0, rep 256 98], [], -1, false⟩ 1 = 0 := by simp [readErr, hasBlock]
  have hc2 : clamp 2 = 2 := by decide
  go_enter Try.func9, Try.ntmps9
  go_wp2_with fail
  refine (Run.new w w 2 (by decide) (by decide) (Only.refl _ _)).mono ?_
  rintro e w1 ⟨p, rfl, h1⟩
  rw [hc2] at h1
  go_wp2_with fail
  refine (block_any _ 97 256 (by decide)).mono ?_
  rintro e w2 ⟨rfl, k2⟩
  have h2 := h1.only k2
  go_wp2_with fail
  refine (h2.write 0 (rep 256 97) (by decide) (by decide) (by decide)).mono ?_
  rintro e w3 ⟨rfl, h3⟩
  rw [s1]
  go_wp2_with fail
  refine (block_any _ 98 256 (by decide)).mono ?_
  rintro e w4 ⟨rfl, k4⟩
  have h4 := h3.only k4
  go_wp2_with fail
  refine (h4.write 1 (rep 256 98) (by decide) (by decide) s4).mono ?_
  rintro e w5 ⟨rfl, h5⟩
  rw [s2]
  go_wp2_with fail
  refine (h5.crash 2 (by decide)).mono ?_
  rintro e w6 ⟨rfl, h6⟩
  rw [s3] at h6
  clear h1 h2 h3 h4 h5 s1 s2 s3 s4
  go_wp2_with fail
  refine (h6.read 0).mono ?_
  rintro e w7 ⟨rfl, rfl⟩
  rw [r0, q0]
  go_wp2_with fail
  refine (h6.read 1).mono ?_
  rintro e w8 ⟨rfl, rfl⟩
  rw [r1, q1]
  clear r0 r1 q0 q1
  go_wp2_with fail
  refine (block_any _ 0 256 (by decide)).mono ?_
  rintro e w9 ⟨rfl, k9⟩
  have h9 := h6.only k9
  go_wp2_with fail
  refine (block_any _ 98 256 (by decide)).mono ?_
  rintro e w10 ⟨rfl, k10⟩
  have h10 := h9.only k10
  go_wp2_with fail
  refine (h10.blocks).mono ?_
  rintro e w11 ⟨rfl, rfl⟩
  obtain ⟨F, _, k11, _⟩ := h10
  go_wp2
  go_ret
  exact ⟨rfl, k11⟩

end Go.Proofs.Ytohkfeolfemcnaa
