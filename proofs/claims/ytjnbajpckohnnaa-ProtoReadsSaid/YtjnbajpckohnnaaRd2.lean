/- The walks of a reader, more: long numbers, flags, lengths, and the end. -/
import Derived.Test.YtjnbajpckohnnaaRd
namespace Go.Proofs.Ytjnbajpckohnnaa
open Go.RowKit

attribute [local go_sem] Forth.normal Forth.exit Forth.ret Forth.panic

theorem u64_join (x y : Nat) (hx : x < 4294967296) (hy : y < 4294967296) : bits .or .u64 ((x : Int) * 4294967296) (y : Int) = ((x * 4294967296 + y : Nat) : Int) := by
  rw [bits_join .u64 64 (by decide) (fun n h0 h1 => by rw [IntKind.wrap_u64]; omega) 32 _ _ (by omega) (by omega) (by omega) (by omega) (by omega) (by omega)]
  omega

theorem size_u8 : ∀ w, (Go.sizeOf 5).run Try.prog w = .ok 1 w := fun _ => by kernel_rfl

theorem rend_any (w : World) (p g : Nat) (bs : List UInt8) (err : Nat) (h : Rd w p g bs err) :
    Calls Try.prog 27 #[.pointer (some ⟨p, 0, none⟩)] w (Took w p g (.int .i64 (rEnd bs err : Nat)) bs (rEnd bs err)) := by
  obtain ⟨o, c, h⟩ := h
  unfold rEnd
  by_cases he : err ≠ 0
  · rw [if_pos he]
    have he' : ((err : Int) != 0) = true := by simp; omega
    go_enter Try.func27, Try.ntmps27
    go_wp2_with fail
    refine wp_scope_forth 0 rfl ?_
    go_wp2_with fail
    refine (err_any _ p g o c bs err h).mono ?_
    rintro e w1 ⟨rfl, rfl⟩
    go_wp2_with fail
    go_step3
    refine ⟨rfl, ?_⟩
    go_wp2_with fail
    refine (fail_any _ p g bs err _ ⟨o, c, h⟩).mono ?_
    rintro e w1 ⟨rfl, h1, k1⟩
    go_wp2
    rw [Exit.noGoto_ret]
    go_ret
    exact ⟨rfl, h1, k1⟩
  · rw [if_neg he]
    have he0 : err = 0 := by omega
    subst he0
    by_cases hl : bs.length = 0
    · rw [if_pos hl]
      have hl' : (bs.length : Int) ≤ 0 := by omega
      go_enter Try.func27, Try.ntmps27
      go_wp2_with fail
      refine wp_scope_forth 0 rfl ?_
      go_wp2_with fail
      refine (err_any _ p g o c bs 0 h).mono ?_
      rintro e w1 ⟨rfl, rfl⟩
      go_wp2_with fail
      refine (left_any _ p g o c bs 0 h).mono ?_
      rintro e w1 ⟨rfl, rfl⟩
      go_wp2
      rw [Forth.ret]
      go_ret
      exact ⟨rfl, ⟨o, c, h⟩, Only.refl _ _⟩
    · rw [if_neg hl]
      have hl' : (0 : Int) < (bs.length : Int) := by omega
      go_enter Try.func27, Try.ntmps27
      go_wp2_with fail
      refine wp_scope_forth 0 rfl ?_
      go_wp2_with fail
      refine (err_any _ p g o c bs 0 h).mono ?_
      rintro e w1 ⟨rfl, rfl⟩
      go_wp2_with fail
      refine (left_any _ p g o c bs 0 h).mono ?_
      rintro e w1 ⟨rfl, rfl⟩
      go_wp2_with fail
      go_step3
      refine ⟨rfl, ?_⟩
      go_wp2_with fail
      refine (fail_any _ p g bs 0 4 ⟨o, c, h⟩).mono ?_
      rintro e w1 ⟨rfl, h1, k1⟩
      go_wp2
      rw [Exit.noGoto_ret]
      go_ret
      exact ⟨rfl, h1, k1⟩

theorem rend_nil (w : World) : Calls Try.prog 27 #[.pointer none] w fun e w' => e = .returned (.int .i64 2) ∧ w = w' := by
  go_enter Try.func27, Try.ntmps27
  go_wp2_with fail
  refine wp_scope_forth 0 rfl ?_
  go_wp2_with fail
  refine (err_nil _).mono ?_
  rintro e w1 ⟨rfl, rfl⟩
  go_wp2_with fail
  go_step3
  refine ⟨rfl, ?_⟩
  go_wp2_with fail
  refine (fail_nil _ _).mono ?_
  rintro e w1 ⟨rfl, rfl⟩
  go_wp2
  rw [Exit.noGoto_ret]
  go_ret
  exact ⟨rfl, rfl⟩

end Go.Proofs.Ytjnbajpckohnnaa
