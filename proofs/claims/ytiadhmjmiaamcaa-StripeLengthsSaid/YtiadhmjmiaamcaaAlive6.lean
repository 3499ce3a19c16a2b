/- The document's Same; what every right program answers; a map that comes in. -/
import Derived.Test.YtiadhmjmiaamcaaRfr
import Derived.Deep.Strs
import Derived.OpenShut
namespace Go.Proofs.Ytiadhmjmiaamcaa
open Go.RowKit Go.WideShapes Go.ChangeShapes Go.Proofs.Ytiadhmjmiaamcaa.Fl

set_option maxHeartbeats 1000000 in
theorem rsame_yes (w : World) (A B : Option Addr) (c d : Nat) (l : List Fg) (hA : Els fgE 4 w A l) (hB : Els fgE 4 w B l) (hl : l.length ≤ 1024) :
    Calls Try.prog 20 #[.slice A l.length c, .slice B l.length d] w fun e w' => e = .returned (.bool true) ∧ Only [] w w' := by
  obtain ⟨n, hn⟩ : ∃ n, n = l.length := ⟨_, rfl⟩
  rw [← hn] at hl ⊢
  replace hn := Lib.hid hn
  go_enter Try.func20, Try.ntmps20
  go_wp2_with fail
  go_loopw [5] (fun i wr => ∃ k m : Nat, k ≤ n ∧ i = .int .i64 k ∧ wr = w.drewN m) (fun i _ => n - (intOf i).toNat)
  case atStart => exact ⟨0, 0, by omega, rfl, rfl⟩
  case round =>
    obtain ⟨k, m, hk, rfl, rfl⟩ := hrel
    by_cases hlt : k < n
    · have hk' : k < l.length := by have := hn.out; omega
      obtain ⟨g, o, rfl, _, hat⟩ := hA.get hk'
      obtain ⟨g', o', rfl, _, hat'⟩ := hB.get hk'
      obtain ⟨c0, c1, c2, c3⟩ := fgs_at hat hk'
      obtain ⟨d0, d1, d2, d3⟩ := fgs_at hat' hk'
      generalize l[k] = f at *
      obtain ⟨f0, f1, f2, f3⟩ := f
      simp only at c0 c1 c2 c3 d0 d1 d2 d3
      clear hat hat' hA hB
      go_wp2_with fail
      go_quiet (fail)
      go_wp2_with fail
      go_roundw
      case rel => exact ⟨k + 1, _, by omega, by go_num, rfl⟩
      case measure => simp [intOf]; omega
    · clear hA hB
      go_wp2
      go_ret
      exact ⟨rfl, (Only.refl [] w).drewN m⟩

theorem srv_13 : srv 3 4 1 13 = 2 := by decide +kernel
theorem pos_13 : pos 3 4 13 = 5 := by decide +kernel
theorem len_13 : lenC 3 4 1 2 13 = 5 := by decide +kernel
theorem frs_24 : frs 3 4 1 2 4 = [⟨2, 2, 0, 2⟩, ⟨3, 0, 2, 2⟩] := by
  have h := frs_seg (s := 3) (u := 4) (t := 1) (o := 2) (by decide) 0 1 (.inr rfl) (by decide +kernel)
  have h' := frs_seg (s := 3) (u := 4) (t := 1) (o := 2) (by decide) 2 1 (.inl (by decide +kernel)) (by decide +kernel)
  rw [show (4 : Nat) = 2 + (1 + 1) from rfl, h', show (2 : Nat) = 0 + (1 + 1) from rfl, h]
  rfl

set_option maxHeartbeats 1000000 in
/-- What every right program answers. -/
theorem alive_any (w : World) : Calls Try.prog 11 #[] w fun e w' => e = .returned (.bool true) ∧ Only [] w w' := by
  have hR : Rt 3 4 1 := by unfold Rt; omega
  have R := Lib.hid hR
  clear hR
  have hs := srv_13
  have hp := pos_13
  have hl := len_13
  go_enter Try.func11, Try.ntmps11
  go_wp2_with fail
  refine (where_ok 3 4 1 13 _ R.out (by omega) (by omega)).mono ?_; rintro e w1 ⟨rfl, k1⟩
  obtain ⟨c0, c1, c2⟩ := box3 k1
  go_wp2_with fail
  refine (frags_ok 3 4 1 2 4 4 rfl _ R.out (by omega) (by omega) (by omega)).mono ?_; rintro e w2 ⟨v, rfl, hm⟩
  have k2 := k1.trans hm.only
  obtain ⟨c0, c1, c2⟩ := box3 k2
  rw [frs_24] at hm
  obtain ⟨A, cp, rfl, hel, hcp, _, _⟩ := hm.shape fgE_length
  have h1 : 1 < [(⟨2, 2, 0, 2⟩ : Fg), ⟨3, 0, 2, 2⟩].length := by decide
  obtain ⟨g, o, rfl, _, hat⟩ := hel.get h1
  obtain ⟨d0, d1, d2, d3⟩ := fgs_at hat h1
  clear hat hel hm
  simp only [List.length_cons, List.length_nil, List.getElem_cons_succ, List.getElem_cons_zero, Nat.one_mul, Nat.zero_add, Nat.reduceAdd] at d0 d1 d2 d3 ⊢
  go_wp2_with fail
  refine (len_ok 3 4 1 2 13 _ R.out (by omega) (by omega) (by omega) (by omega)).mono ?_; rintro e w3 ⟨rfl, k3⟩
  have k4 := k2.trans k3
  obtain ⟨c0, c1, c2⟩ := box3 k4
  have e0 := k3.cell d0 (by simp)
  have e1 := k3.cell d1 (by simp)
  have e2 := k3.cell d2 (by simp)
  have e3 := k3.cell d3 (by simp)
  go_wp2_with fail
  refine (right_yes 3 4 1 _ R.out).mono ?_; rintro e w5 ⟨rfl, k5⟩
  go_wp2
  go_ret
  exact ⟨rfl, (k4.trans k5).boxed⟩

theorem int_range {n : Int} (h : (Lit.int .i64 n).wf = true) : -9223372036854775808 ≤ n ∧ n ≤ 9223372036854775807 := by
  have e1 : IntKind.i64.min = -9223372036854775808 := by decide +kernel
  have e2 : IntKind.i64.max = 9223372036854775807 := by decide +kernel
  simp only [Lit.wf, Bool.and_eq_true, decide_eq_true_eq] at h
  omega

section
variable {H : Type} {enc : TypeId × Value → H} {w : World}
/-- A map that comes in. -/
theorem open_map {v : Value} {d : DataW H} {ps : List MemPlace} {r : Reach} {b0 : Nat} (hv : Value.okWide Try.prog w r b0 23 v) (h : DataW.Trod enc Try.prog w 0 (fun _ => true) true 23 v d ps) :
    ∃ s u t : Int, v = .agg #[.int .i64 s, .int .i64 u, .int .i64 t] ∧ (-9223372036854775808 ≤ s ∧ s ≤ 9223372036854775807) ∧ (-9223372036854775808 ≤ u ∧ u ≤ 9223372036854775807) ∧ (-9223372036854775808 ≤ t ∧ t ≤ 9223372036854775807) := by
  obtain ⟨cs, rfl, hsz⟩ := okWide_struct Try.underlying23 hv
  have hC : Try.prog.cellsOf 23 = 3 := by kernel_rfl
  have ci : Try.prog.cellsOf 3 = 1 := by kernel_rfl
  rw [hC] at hsz
  obtain ⟨fuel, hf⟩ := h
  obtain ⟨y0, y1, y2, n, _, hl, h0, h1, h2⟩ := Deep.trod_struct3 Try.underlying23 hf
  obtain ⟨a, b, c, rfl⟩ : ∃ a b c, cs = #[a, b, c] := by
    rcases cs with ⟨l⟩
    match l, hsz with
    | [a, b, c], _ => exact ⟨a, b, c, rfl⟩
  simp [Value.cells, ci] at h0 h1 h2
  obtain ⟨z0, e0, _, w0⟩ := DataW.trod_int Try.underlying3 h0
  obtain ⟨z1, e1, _, w1⟩ := DataW.trod_int Try.underlying3 h1
  obtain ⟨z2, e2, _, w2⟩ := DataW.trod_int Try.underlying3 h2
  injection e0 with e0 _; injection e1 with e1 _; injection e2 with e2 _
  subst e0; subst e1; subst e2
  exact ⟨z0, z1, z2, rfl, int_range w0, int_range w1, int_range w2⟩
end

end Go.Proofs.Ytiadhmjmiaamcaa
