/- A list of pages that comes in. -/
import Derived.Test.YtchlcmgdfbabdaaGreatDoorTot7
namespace Go.Proofs.YtchlcmgdfbabdaaGreatDoor.Pgs
open Go.RowKit Go.ChangeShapes Go.WideShapes Go.ChangeAt Go.Deep

theorem int_range {n : Int} (h : (Lit.int .i64 n).wf = true) : -9223372036854775808 ≤ n ∧ n ≤ 9223372036854775807 := by
  have e1 : IntKind.i64.min = -9223372036854775808 := by decide +kernel
  have e2 : IntKind.i64.max = 9223372036854775807 := by decide +kernel
  simp only [Lit.wf, Bool.and_eq_true, decide_eq_true_eq] at h
  omega
theorem u32_range {n : Int} (h : (Lit.int .u32 n).wf = true) : 0 ≤ n ∧ n < 4294967296 := by
  have e1 : IntKind.u32.min = 0 := by decide +kernel
  have e2 : IntKind.u32.max = 4294967295 := by decide +kernel
  simp only [Lit.wf, Bool.and_eq_true, decide_eq_true_eq] at h
  omega

section
variable {H : Type} {enc : TypeId × Value → H} {w : World}
set_option maxRecDepth 100000 in
theorem open_pgs' {v : Value} {fuel : Nat} {x : DataW H × List MemPlace} (h : DataW.trod enc Tryz.prog w 0 (fun _ => true) true fuel 31 [v] = some x) : ∃ (A : Option Addr) (c : Nat) (l : List Pg), v = .slice A (List.length l) c ∧ Els pgE 2 w A l ∧ l.length ≤ 9223372036854775807 ∧ l.length ≤ c := by
  rcases open_structs Tryz.underlying31 Tryz.underlying69 (by kernel_rfl) (by kernel_rfl) (by decide) h with h0 | ⟨A, len, cap, hcs, ⟨hm, hcap⟩, hz⟩
  · injection h0 with h0 _
    exact ⟨none, 0, [], h0, .inl rfl, by simp, by simp⟩
  · injection hcs with hcs _
    subst hcs
    have hm' : len ≤ 9223372036854775807 := by simp only [maxLen] at hm; omega
    rcases hz with rfl | ⟨g, o, rfl, hg, hall⟩
    · exact ⟨A, cap, [], rfl, .inl rfl, by simp, by simp⟩
    have each : ∀ i, i < len → ∃ x : Pg, w.cell? ⟨g, o + i * 2, none⟩ = some (.int .i64 x.n) ∧ w.cell? ⟨g, o + i * 2 + 1, none⟩ = some (.string (strOf x.d)) := by
      intro i hi
      obtain ⟨n0, v0, y0, k0, t0⟩ := hall i hi 0 _ rfl
      obtain ⟨n1, v1, y1, k1, t1⟩ := hall i hi 1 _ rfl
      obtain ⟨z0, e0, _, _⟩ := DataW.trod_int Tryz.underlying3 t0
      obtain ⟨s1, e1, _, _⟩ := DataW.trod_string Tryz.underlying9 t1
      injection e0 with e0 _; injection e1 with e1 _
      subst e0; subst e1
      refine ⟨⟨z0, s1.data.toList⟩, ?_, ?_⟩
      · simpa using k0
      · simp only [strOf_toList]
        simpa using k1
    obtain ⟨f, hf'⟩ := choose_lt each
    refine ⟨_, cap, (List.range len).map f, by simp, .inr ⟨g, o, rfl, hg, fun j hj i v hv => ?_⟩, by rw [List.length_map, List.length_range]; exact hm', by rw [List.length_map, List.length_range]; exact hcap⟩
    have e : ((List.range len).map f)[j] = f j := by simp
    rw [e] at hv
    obtain ⟨q0, q1⟩ := hf' j (by simpa using hj)
    match i, hv with
    | 0, hv => simp [pgE] at hv; subst hv; exact q0
    | 1, hv => simp [pgE] at hv; subst hv; exact q1
    | i + 2, hv => simp [pgE] at hv
set_option maxRecDepth 100000 in
/-- A list of pages that comes in. -/
theorem open_pgs {v : Value} {d : DataW H} {ps : List MemPlace} {r : Reach} {b0 : Nat} (hv : Value.okWide Tryz.prog w r b0 31 v) (h : DataW.Trod enc Tryz.prog w 0 (fun _ => true) true 31 v d ps) :
    ∃ A c l, v = .slice A (List.length l) c ∧ Els pgE 2 w A l ∧ l.length ≤ 9223372036854775807 ∧ l.length ≤ c := by
  obtain ⟨A, len, cap, rfl⟩ := okWide_slice Tryz.underlying31 hv
  obtain ⟨fuel, hf⟩ := h
  exact open_pgs' (by simpa [Value.cells] using hf)
end

end Go.Proofs.YtchlcmgdfbabdaaGreatDoor.Pgs
