/- The walks of the laws of layer 1: whatever comes in, the call returns true. -/
import Derived.Test.YthmicabihpfeiaaWalks2
namespace Go.Proofs.Ythmicabihpfeiaa
open Go.RowKit Go.Proofs.Ythmicabihpfeiaa.Fl

theorem int_range {n : Int} (h : (Lit.int .i64 n).wf = true) : -9223372036854775808 ≤ n ∧ n ≤ 9223372036854775807 := by
  have e1 : IntKind.i64.min = -9223372036854775808 := by decide +kernel
  have e2 : IntKind.i64.max = 9223372036854775807 := by decide +kernel
  simp only [Lit.wf, Bool.and_eq_true, decide_eq_true_eq] at h
  omega

theorem u32_range {n : Int} (h : (Lit.int .u32 n).wf = true) : 0 ≤ n ∧ n ≤ 4294967295 := by
  have e1 : IntKind.u32.min = 0 := by decide +kernel
  have e2 : IntKind.u32.max = 4294967295 := by decide +kernel
  simp only [Lit.wf, Bool.and_eq_true, decide_eq_true_eq] at h
  omega

/-- May there be unit k of n columns? -/
def Fit (k n : Int) : Prop := 1 ≤ n ∧ n ≤ 16 ∧ 0 ≤ k ∧ k < n * 2147483648
def Bad (k n : Int) : Prop := n < 1 ∨ 16 < n ∨ k < 0 ∨ n * 2147483648 ≤ k
theorem fit_or_bad (k n : Int) : Fit k n ∨ Bad k n := by unfold Fit Bad; omega

theorem zero_eq : (FloatKind.f64.format.order 0 0 == some .eq) = true := by decide +kernel

theorem planePlaces_walk (k n : Int) (x y : Nat) (hk : k ≤ 9223372036854775807) (w : World) :
    Calls Try.prog 3 #[.int .i64 k, .int .i64 n, .float .f64 x, .float .f64 y] w fun e w' => e = .returned (.bool true) ∧ Grown w w' := by
  have z0 := zero_eq
  rcases fit_or_bad k n with hf | hf
  · obtain ⟨n1, n2, k0, k1⟩ := hf
    have hat := at_place n1 n2 k0 k1
    have hu : (k / n * n + k % n == k) = true := by rw [beq_iff_eq, Int.mul_comm]; exact Int.mul_ediv_add_emod k n
    have b0 : 0 ≤ k / n := hat.2.2.2.2.1
    have b1 : k / n < 2147483648 := hat.2.2.2.2.2.1
    have hb := mul_bd (k / n) n b0 b1 n1 n2
    rcases at_or_off x y n with ⟨c, r, h⟩ | h
    · have p1 := h.2.2.1
      have p2 := h.2.2.2.1
      have p3 := h.2.2.2.2.1
      have p4 := h.2.2.2.2.2.1
      have hb' := mul_bd r n p3 p4 n1 n2
      have g0 : decide (0 ≤ r * n + c) = true := by simp; omega
      have g1 : decide (r * n + c ≥ 0) = true := by simp; omega
      go_enter Try.func3, Try.ntmps3
      go_wp2_with fail
      refine (alive_any _).mono ?_; rintro e w1 ⟨rfl, hg1⟩
      go_wp2_with fail
      refine (place_yes k n _ n1 n2 k0 k1).mono ?_; rintro e w2 ⟨rfl, hg2⟩
      go_wp2_with fail
      refine (unit_yes x y c r n _ h).mono ?_; rintro e w' ⟨rfl, rfl⟩
      go_wp2_with fail
      refine (runit_yes x y c r n _ h).mono ?_; rintro e w' ⟨rfl, rfl⟩
      go_wp2_with fail
      refine (alive_any _).mono ?_; rintro e w3 ⟨rfl, hg3⟩
      go_wp2_with fail
      refine (rok_yes k n _ n1 n2 k0 k1).mono ?_; rintro e w' ⟨rfl, rfl⟩
      go_wp2_with fail
      refine (unit_yes _ _ _ _ n _ hat).mono ?_; rintro e w' ⟨rfl, rfl⟩
      go_wp2_with fail
      refine (rplace_any k n _ n1 n2 k0 k1).mono ?_; rintro e w4 ⟨rfl, hg4⟩
      go_wp2_with fail
      refine (same_yes _ _ _ _ _ _ n _ hat hat).mono ?_; rintro e w' ⟨rfl, rfl⟩
      go_wp2_with fail
      go_ret; exact ⟨rfl, Grown.trans (Grown.trans hg1 hg2) (Grown.trans hg3 hg4)⟩
    · go_enter Try.func3, Try.ntmps3
      go_wp2_with fail
      refine (alive_any _).mono ?_; rintro e w1 ⟨rfl, hg1⟩
      go_wp2_with fail
      refine (place_yes k n _ n1 n2 k0 k1).mono ?_; rintro e w2 ⟨rfl, hg2⟩
      go_wp2_with fail
      refine (unit_no x y n _ h).mono ?_; rintro e w' ⟨rfl, rfl⟩
      go_wp2_with fail
      refine (runit_no x y n _ h).mono ?_; rintro e w' ⟨rfl, rfl⟩
      go_wp2_with fail
      refine (alive_any _).mono ?_; rintro e w3 ⟨rfl, hg3⟩
      go_wp2_with fail
      refine (rok_yes k n _ n1 n2 k0 k1).mono ?_; rintro e w' ⟨rfl, rfl⟩
      go_wp2_with fail
      refine (unit_yes _ _ _ _ n _ hat).mono ?_; rintro e w' ⟨rfl, rfl⟩
      go_wp2_with fail
      refine (rplace_any k n _ n1 n2 k0 k1).mono ?_; rintro e w4 ⟨rfl, hg4⟩
      go_wp2_with fail
      refine (same_yes _ _ _ _ _ _ n _ hat hat).mono ?_; rintro e w' ⟨rfl, rfl⟩
      go_wp2_with fail
      go_ret; exact ⟨rfl, Grown.trans (Grown.trans hg1 hg2) (Grown.trans hg3 hg4)⟩
  · rcases at_or_off x y n with ⟨c, r, h⟩ | h
    · have p1 := h.2.2.1
      have p2 := h.2.2.2.1
      have p3 := h.2.2.2.2.1
      have p4 := h.2.2.2.2.2.1
      have p5 := h.2.2.2.2.2.2.1
      have p6 := h.2.2.2.2.2.2.2
      have hb' := mul_bd r n p3 p4 p5 p6
      have g0 : decide (0 ≤ r * n + c) = true := by simp; omega
      go_enter Try.func3, Try.ntmps3
      go_wp2_with fail
      refine (alive_any _).mono ?_; rintro e w1 ⟨rfl, hg1⟩
      go_wp2_with fail
      refine (place_no k n _ hf).mono ?_; rintro e w' ⟨rfl, rfl⟩
      go_wp2_with fail
      refine (unit_yes x y c r n _ h).mono ?_; rintro e w' ⟨rfl, rfl⟩
      go_wp2_with fail
      refine (runit_yes x y c r n _ h).mono ?_; rintro e w' ⟨rfl, rfl⟩
      go_wp2_with fail
      refine (alive_any _).mono ?_; rintro e w3 ⟨rfl, hg3⟩
      go_wp2_with fail
      refine (rok_no k n _ hk hf).mono ?_; rintro e w' ⟨rfl, rfl⟩
      go_wp2_with fail
      go_ret; exact ⟨rfl, Grown.trans hg1 hg3⟩
    · go_enter Try.func3, Try.ntmps3
      go_wp2_with fail
      refine (alive_any _).mono ?_; rintro e w1 ⟨rfl, hg1⟩
      go_wp2_with fail
      refine (place_no k n _ hf).mono ?_; rintro e w' ⟨rfl, rfl⟩
      go_wp2_with fail
      refine (unit_no x y n _ h).mono ?_; rintro e w' ⟨rfl, rfl⟩
      go_wp2_with fail
      refine (runit_no x y n _ h).mono ?_; rintro e w' ⟨rfl, rfl⟩
      go_wp2_with fail
      refine (alive_any _).mono ?_; rintro e w3 ⟨rfl, hg3⟩
      go_wp2_with fail
      refine (rok_no k n _ hk hf).mono ?_; rintro e w' ⟨rfl, rfl⟩
      go_wp2_with fail
      go_ret; exact ⟨rfl, Grown.trans hg1 hg3⟩

end Go.Proofs.Ythmicabihpfeiaa
