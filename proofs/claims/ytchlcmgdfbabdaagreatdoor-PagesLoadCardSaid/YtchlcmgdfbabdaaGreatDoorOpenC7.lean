/- A list of changes that comes in. -/
import Derived.Test.YtchlcmgdfbabdaaGreatDoorOpen7
namespace Go.Proofs.YtchlcmgdfbabdaaGreatDoor.Pgs
open Go.RowKit Go.Maps Go.ChangeShapes Go.WideShapes Go.ChangeAt Go.Deep

section
variable {H : Type} {enc : TypeId × Value → H} {w : World}
set_option maxRecDepth 100000 in
theorem open_chs' {v : Value} {fuel : Nat} {x : DataW H × List MemPlace} (h : DataW.trod enc Tryz.prog w 0 (fun _ => true) true fuel 22 [v] = some x) : ∃ (A : Option Addr) (c : Nat) (l : List Ch), v = .slice A (List.length l) c ∧ Els chE 3 w A l ∧ okayC l ∧ l.length ≤ 9223372036854775807 ∧ l.length ≤ c := by
  rcases open_structs Tryz.underlying22 Tryz.underlying66 (by kernel_rfl) (by kernel_rfl) (by decide) h with h0 | ⟨A, len, cap, hcs, ⟨hm, hcap⟩, hz⟩
  · injection h0 with h0 _
    exact ⟨none, 0, [], h0, .inl rfl, by simp [okayC], by simp, by simp⟩
  · injection hcs with hcs _
    subst hcs
    have hm' : len ≤ 9223372036854775807 := by simp only [maxLen] at hm; omega
    rcases hz with rfl | ⟨g, o, rfl, hg, hall⟩
    · exact ⟨A, cap, [], rfl, .inl rfl, by simp [okayC], by simp, by simp⟩
    have each : ∀ i, i < len → ∃ x : Ch, (w.cell? ⟨g, o + i * 3, none⟩ = some (.string (strOf x.key)) ∧ w.cell? ⟨g, o + i * 3 + 1, none⟩ = some (.string (strOf x.val)) ∧ w.cell? ⟨g, o + i * 3 + 2, none⟩ = some (.bool x.gone)) ∧ x.key.length ≤ 9223372036854775807 ∧ x.val.length ≤ 9223372036854775807 := by
      intro i hi
      obtain ⟨n0, v0, y0, k0, t0⟩ := hall i hi 0 _ rfl
      obtain ⟨n1, v1, y1, k1, t1⟩ := hall i hi 1 _ rfl
      obtain ⟨n2, v2, y2, k2, t2⟩ := hall i hi 2 _ rfl
      obtain ⟨s0, e0, _, w0⟩ := DataW.trod_string Tryz.underlying9 t0
      obtain ⟨s1, e1, _, w1⟩ := DataW.trod_string Tryz.underlying9 t1
      obtain ⟨b, e2, _⟩ := DataW.trod_bool Tryz.underlying4 t2
      injection e0 with e0 _; injection e1 with e1 _; injection e2 with e2 _
      subst e0; subst e1; subst e2
      have hlen : ∀ s : ByteArray, s.data.toList.length = s.size := fun s => by rw [Array.length_toList]; rfl
      refine ⟨⟨s0.data.toList, s1.data.toList, b⟩, ⟨?_, ?_, k2⟩, ?_, ?_⟩
      · simp only [strOf_toList]
        simpa using k0
      · simp only [strOf_toList]
        simpa using k1
      · simp only [maxLen] at w0
        simp only [hlen]
        omega
      · simp only [maxLen] at w1
        simp only [hlen]
        omega
    obtain ⟨f, hf'⟩ := choose_lt each
    refine ⟨_, cap, (List.range len).map f, by simp, .inr ⟨g, o, rfl, hg, fun j hj i v hv => ?_⟩, ?_, by rw [List.length_map, List.length_range]; exact hm', by rw [List.length_map, List.length_range]; exact hcap⟩
    · have e : ((List.range len).map f)[j] = f j := by simp
      rw [e] at hv
      obtain ⟨⟨q0, q1, q2⟩, _⟩ := hf' j (by simpa using hj)
      match i, hv with
      | 0, hv => simp [chE] at hv; subst hv; exact q0
      | 1, hv => simp [chE] at hv; subst hv; exact q1
      | 2, hv => simp [chE] at hv; subst hv; exact q2
      | i + 3, hv => simp [chE] at hv
    · intro x hx
      simp only [List.mem_map, List.mem_range] at hx
      obtain ⟨i, hi, rfl⟩ := hx
      exact (hf' i hi).2
set_option maxRecDepth 100000 in
/-- A list of changes that comes in. -/
theorem open_chs {v : Value} {d : DataW H} {ps : List MemPlace} {r : Reach} {b0 : Nat} (hv : Value.okWide Tryz.prog w r b0 22 v) (h : DataW.Trod enc Tryz.prog w 0 (fun _ => true) true 22 v d ps) :
    ∃ A c l, v = .slice A (List.length l) c ∧ Els chE 3 w A l ∧ okayC l ∧ l.length ≤ 9223372036854775807 ∧ l.length ≤ c := by
  obtain ⟨A, len, cap, rfl⟩ := okWide_slice Tryz.underlying22 hv
  obtain ⟨fuel, hf⟩ := h
  exact open_chs' (by simpa [Value.cells] using hf)
end


end Go.Proofs.YtchlcmgdfbabdaaGreatDoor.Pgs
