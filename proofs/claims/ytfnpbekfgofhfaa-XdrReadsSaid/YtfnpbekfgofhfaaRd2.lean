/- The walks of a reader, more: long numbers, flags, lengths, and the end. -/
import Derived.Test.YtfnpbekfgofhfaaRd
namespace Go.Proofs.Ytfnpbekfgofhfaa
open Go.RowKit

attribute [local go_sem] Forth.normal Forth.exit Forth.ret Forth.panic

theorem u64_join (x y : Nat) (hx : x < 4294967296) (hy : y < 4294967296) : bits .or .u64 ((x : Int) * 4294967296) (y : Int) = ((x * 4294967296 + y : Nat) : Int) := by
  rw [bits_join .u64 64 (by decide) (fun n h0 h1 => by rw [IntKind.wrap_u64]; omega) 32 _ _ (by omega) (by omega) (by omega) (by omega) (by omega) (by omega)]
  omega

theorem size_u8 : ∀ w, (Go.sizeOf 5).run Try.prog w = .ok 1 w := fun _ => by kernel_rfl

theorem long_fail (w : World) (p g o c : Nat) (bs : List UInt8) (err : Nat) (h : RdAt w p g o c bs err) (hn : err ≠ 0 ∨ (bs.length : Int) < 8) :
    Calls Try.prog 18 #[.pointer (some ⟨p, 0, none⟩)] w (Took w p g (.int .u64 0) bs (lackE err)) := by
  have hne : (((lackE err : Nat) : Int) != 0) = true := by have := lackE_ne err; simp; omega
  go_enter Try.func18, Try.ntmps18
  go_wp2_with fail
  refine wp_scope_forth 0 rfl ?_
  go_wp2_with fail
  refine (next_fail _ p g o c bs err _ h hn).mono ?_
  rintro e w1 ⟨rfl, rfl⟩
  go_wp2_with fail
  go_step3
  refine ⟨rfl, ?_⟩
  go_wp2_with fail
  refine (fail_any _ p g bs err _ ⟨o, c, h⟩).mono ?_
  rintro e w1 ⟨rfl, h1, k1⟩
  go_wp2
  rw [Exit.noGoto_ret]
  go_ret
  exact ⟨rfl, h1, k1⟩

set_option maxHeartbeats 400000 in
theorem long_ok (w : World) (p g o c : Nat) (bs : List UInt8) (h : RdAt w p g o c bs 0) (hn : 8 ≤ bs.length) :
    Calls Try.prog 18 #[.pointer (some ⟨p, 0, none⟩)] w (Took w p g (.int .u64 ((hd4 bs * 4294967296 + hd4 (bs.drop 4) : Nat) : Int)) (bs.drop 8) 0) := by
  have hle := h.le
  obtain ⟨o', ho', hsl⟩ := slice_tail (P := Try.prog) 25 5 Try.underlying25 size_u8 g o 8 c 4 .i64 4 rfl (by omega)
  obtain rfl := ho' (by omega)
  clear ho'
  have l1 := hd4_lt bs
  have l2 := hd4_lt (bs.drop 4)
  rw [← u64_join _ _ l1 l2]
  have l1' : ((hd4 bs : Nat) : Int) < 4294967296 := by omega
  have l2' : ((hd4 (bs.drop 4) : Nat) : Int) < 4294967296 := by omega
  go_enter Try.func18, Try.ntmps18
  go_wp2_with fail
  refine wp_scope_forth 0 rfl ?_
  go_wp2_with fail
  refine (next_ok _ p g o c bs _ 8 rfl h hn).mono ?_
  rintro e w1 ⟨rfl, rfl⟩
  go_wp2_with fail
  refine (consume_any _ p g o c bs 0 _ 8 c h hn).mono ?_
  rintro e w1 ⟨rfl, h1, k1⟩
  have hb := h.bytes.kept k1 (by simpa using h.ne)
  have hb4 := hb.drop 4
  have H1 := Lib.hid h1
  clear h1 hle h
  go_wp2_with fail
  go_quiet ((first
    | ((with_reducible refine Calls.quiet_of (number_any _ g o 8 c bs ?_ ?_ ?_)); exact hb; omega; omega)
    | ((with_reducible refine Calls.quiet_of (number_any _ g (o + 4) 4 (c - 4) (bs.drop 4) ?_ ?_ ?_)); exact hb4; (simp; omega); omega)))
  go_wp2
  rw [Forth.ret]
  go_ret
  exact ⟨rfl, H1.out.drewN _, k1.drewN _⟩

theorem rlong_any (w : World) (p g : Nat) (bs : List UInt8) (err : Nat) (h : Rd w p g bs err) :
    Calls Try.prog 18 #[.pointer (some ⟨p, 0, none⟩)] w (Took w p g (.int .u64 ((rLong bs err).1 : Int)) (rLong bs err).2.1 (rLong bs err).2.2) := by
  obtain ⟨o, c, h⟩ := h
  unfold rLong
  by_cases he : err ≠ 0
  · rw [if_pos he]
    have := long_fail w p g o c bs err h (.inl he)
    rwa [show lackE err = err by unfold lackE; rw [if_neg he]] at this
  · rw [if_neg he]
    have he0 : err = 0 := by omega
    subst he0
    by_cases hl : bs.length < 8
    · rw [if_pos hl]
      exact long_fail w p g o c bs 0 h (.inr (by omega))
    · rw [if_neg hl]
      exact long_ok w p g o c bs h (by omega)

theorem rlong_nil (w : World) : Calls Try.prog 18 #[.pointer none] w fun e w' => e = .returned (.int .u64 0) ∧ w = w' := by
  go_enter Try.func18, Try.ntmps18
  go_wp2_with fail
  refine wp_scope_forth 0 rfl ?_
  go_wp2_with fail
  refine (next_nil _ _).mono ?_
  rintro e w1 ⟨rfl, rfl⟩
  go_wp2_with fail
  go_step3
  refine ⟨rfl, ?_⟩
  go_wp2_with fail
  refine (fail_nil _ _).mono ?_
  rintro e w1 ⟨rfl, rfl⟩
  go_wp2
  rw [Exit.noGoto_ret]
  go_ret
  exact ⟨rfl, rfl⟩

theorem flag_fail (w : World) (p g o c : Nat) (bs : List UInt8) (err : Nat) (h : RdAt w p g o c bs err) (hn : err ≠ 0 ∨ (bs.length : Int) < 4) :
    Calls Try.prog 20 #[.pointer (some ⟨p, 0, none⟩)] w (Took w p g (.bool false) bs (lackE err)) := by
  have hne : (((lackE err : Nat) : Int) != 0) = true := by have := lackE_ne err; simp; omega
  go_enter Try.func20, Try.ntmps20
  go_wp2_with fail
  refine wp_scope_forth 0 rfl ?_
  go_wp2_with fail
  refine (next_fail _ p g o c bs err _ h hn).mono ?_
  rintro e w1 ⟨rfl, rfl⟩
  go_wp2_with fail
  go_step3
  refine ⟨rfl, ?_⟩
  go_wp2_with fail
  refine (fail_any _ p g bs err _ ⟨o, c, h⟩).mono ?_
  rintro e w1 ⟨rfl, h1, k1⟩
  go_wp2
  rw [Exit.noGoto_ret]
  go_ret
  exact ⟨rfl, h1, k1⟩

theorem flag_form (w : World) (p g o c : Nat) (bs : List UInt8) (h : RdAt w p g o c bs 0) (hn : 4 ≤ bs.length) (h1 : 1 < hd4 bs) :
    Calls Try.prog 20 #[.pointer (some ⟨p, 0, none⟩)] w (Took w p g (.bool false) bs 3) := by
  have h1' : (1 : Int) < (hd4 bs : Nat) := by omega
  go_enter Try.func20, Try.ntmps20
  go_wp2_with fail
  refine wp_scope_forth 0 rfl ?_
  go_wp2_with fail
  refine (next_ok _ p g o c bs _ 4 rfl h hn).mono ?_
  rintro e w1 ⟨rfl, rfl⟩
  go_wp2_with fail
  refine (number_any _ g o 4 c bs h.bytes hn (Nat.le_refl _)).mono ?_
  rintro e w2 ⟨rfl, m, rfl⟩
  go_wp2_with fail
  go_step3
  refine ⟨rfl, ?_⟩
  go_wp2_with fail
  refine (fail_any _ p g bs 0 3 ⟨o, c, h.drewN m⟩).mono ?_
  rintro e w1 ⟨rfl, h1, k1⟩
  go_wp2
  rw [Exit.noGoto_ret]
  go_ret
  exact ⟨rfl, h1, ((Only.refl [p] w).drewN m).trans k1⟩

theorem flag_ok (w : World) (p g o c : Nat) (bs : List UInt8) (h : RdAt w p g o c bs 0) (hn : 4 ≤ bs.length) (h1 : hd4 bs ≤ 1) :
    Calls Try.prog 20 #[.pointer (some ⟨p, 0, none⟩)] w (Took w p g (.bool (decide (hd4 bs = 1))) (bs.drop 4) 0) := by
  have h1' : ((hd4 bs : Nat) : Int) ≤ 1 := by omega
  have e1 : decide (hd4 bs = 1) = (((hd4 bs : Nat) : Int) == 1) := by
    rw [Bool.eq_iff_iff]; simp; omega
  rw [e1]
  clear e1
  go_enter Try.func20, Try.ntmps20
  go_wp2_with fail
  refine wp_scope_forth 0 rfl ?_
  go_wp2_with fail
  refine (next_ok _ p g o c bs _ 4 rfl h hn).mono ?_
  rintro e w1 ⟨rfl, rfl⟩
  go_wp2_with fail
  refine (number_any _ g o 4 c bs h.bytes hn (Nat.le_refl _)).mono ?_
  rintro e w2 ⟨rfl, m, rfl⟩
  go_wp2_with fail
  refine (consume_any _ p g o c bs 0 _ 4 c (h.drewN m) hn).mono ?_
  rintro e w1 ⟨rfl, h1, k1⟩
  have hb := h.bytes.kept (((Only.refl [p] w).drewN m).trans k1) (by simpa using h.ne)
  go_wp2_with fail
  refine (number_any _ g o 4 c bs hb hn (Nat.le_refl _)).mono ?_
  rintro e w2 ⟨rfl, m', rfl⟩
  go_wp2
  rw [Forth.ret]
  go_ret
  exact ⟨rfl, h1.drewN _, (((Only.refl [p] w).drewN m).trans k1).drewN _⟩

theorem rflag_any (w : World) (p g : Nat) (bs : List UInt8) (err : Nat) (h : Rd w p g bs err) :
    Calls Try.prog 20 #[.pointer (some ⟨p, 0, none⟩)] w (Took w p g (.bool (rFlag bs err).1) (rFlag bs err).2.1 (rFlag bs err).2.2) := by
  obtain ⟨o, c, h⟩ := h
  unfold rFlag
  by_cases he : err ≠ 0
  · rw [if_pos he]
    have := flag_fail w p g o c bs err h (.inl he)
    rwa [show lackE err = err by unfold lackE; rw [if_neg he]] at this
  · rw [if_neg he]
    have he0 : err = 0 := by omega
    subst he0
    by_cases hl : bs.length < 4
    · rw [if_pos hl]
      exact flag_fail w p g o c bs 0 h (.inr (by omega))
    · rw [if_neg hl]
      by_cases h1 : 1 < hd4 bs
      · rw [if_pos h1]
        exact flag_form w p g o c bs h (by omega) h1
      · rw [if_neg h1]
        exact flag_ok w p g o c bs h (by omega) (by omega)

theorem rflag_nil (w : World) : Calls Try.prog 20 #[.pointer none] w fun e w' => e = .returned (.bool false) ∧ w = w' := by
  go_enter Try.func20, Try.ntmps20
  go_wp2_with fail
  refine wp_scope_forth 0 rfl ?_
  go_wp2_with fail
  refine (next_nil _ _).mono ?_
  rintro e w1 ⟨rfl, rfl⟩
  go_wp2_with fail
  go_step3
  refine ⟨rfl, ?_⟩
  go_wp2_with fail
  refine (fail_nil _ _).mono ?_
  rintro e w1 ⟨rfl, rfl⟩
  go_wp2
  rw [Exit.noGoto_ret]
  go_ret
  exact ⟨rfl, rfl⟩

theorem rend_any (w : World) (p g : Nat) (bs : List UInt8) (err : Nat) (h : Rd w p g bs err) :
    Calls Try.prog 27 #[.pointer (some ⟨p, 0, none⟩)] w (Took w p g (.int .i64 (rEnd bs err : Nat)) bs (rEnd bs err)) := by
  obtain ⟨o, c, h⟩ := h
  unfold rEnd
  by_cases he : err ≠ 0
  · rw [if_pos he]
    have he' : ((err : Int) != 0) = true := by simp; omega
    go_enter Try.func27, Try.ntmps27
    go_wp2_with fail
    refine wp_scope_forth 0 rfl ?_
    go_wp2_with fail
    refine (err_any _ p g o c bs err h).mono ?_
    rintro e w1 ⟨rfl, rfl⟩
    go_wp2_with fail
    go_step3
    refine ⟨rfl, ?_⟩
    go_wp2_with fail
    refine (fail_any _ p g bs err _ ⟨o, c, h⟩).mono ?_
    rintro e w1 ⟨rfl, h1, k1⟩
    go_wp2
    rw [Exit.noGoto_ret]
    go_ret
    exact ⟨rfl, h1, k1⟩
  · rw [if_neg he]
    have he0 : err = 0 := by omega
    subst he0
    by_cases hl : bs.length = 0
    · rw [if_pos hl]
      have hl' : (bs.length : Int) ≤ 0 := by omega
      go_enter Try.func27, Try.ntmps27
      go_wp2_with fail
      refine wp_scope_forth 0 rfl ?_
      go_wp2_with fail
      refine (err_any _ p g o c bs 0 h).mono ?_
      rintro e w1 ⟨rfl, rfl⟩
      go_wp2_with fail
      refine (left_any _ p g o c bs 0 h).mono ?_
      rintro e w1 ⟨rfl, rfl⟩
      go_wp2
      rw [Forth.ret]
      go_ret
      exact ⟨rfl, ⟨o, c, h⟩, Only.refl _ _⟩
    · rw [if_neg hl]
      have hl' : (0 : Int) < (bs.length : Int) := by omega
      go_enter Try.func27, Try.ntmps27
      go_wp2_with fail
      refine wp_scope_forth 0 rfl ?_
      go_wp2_with fail
      refine (err_any _ p g o c bs 0 h).mono ?_
      rintro e w1 ⟨rfl, rfl⟩
      go_wp2_with fail
      refine (left_any _ p g o c bs 0 h).mono ?_
      rintro e w1 ⟨rfl, rfl⟩
      go_wp2_with fail
      go_step3
      refine ⟨rfl, ?_⟩
      go_wp2_with fail
      refine (fail_any _ p g bs 0 4 ⟨o, c, h⟩).mono ?_
      rintro e w1 ⟨rfl, h1, k1⟩
      go_wp2
      rw [Exit.noGoto_ret]
      go_ret
      exact ⟨rfl, h1, k1⟩

theorem rend_nil (w : World) : Calls Try.prog 27 #[.pointer none] w fun e w' => e = .returned (.int .i64 2) ∧ w = w' := by
  go_enter Try.func27, Try.ntmps27
  go_wp2_with fail
  refine wp_scope_forth 0 rfl ?_
  go_wp2_with fail
  refine (err_nil _).mono ?_
  rintro e w1 ⟨rfl, rfl⟩
  go_wp2_with fail
  go_step3
  refine ⟨rfl, ?_⟩
  go_wp2_with fail
  refine (fail_nil _ _).mono ?_
  rintro e w1 ⟨rfl, rfl⟩
  go_wp2
  rw [Exit.noGoto_ret]
  go_ret
  exact ⟨rfl, rfl⟩

end Go.Proofs.Ytfnpbekfgofhfaa
