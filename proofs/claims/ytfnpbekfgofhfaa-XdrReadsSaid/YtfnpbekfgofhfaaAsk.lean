/- Asks: lists of two numbers each, as they lie in memory. -/
import Derived.Test.YtfnpbekfgofhfaaOpen
namespace Go.Proofs.Ytfnpbekfgofhfaa
open Go.RowKit Go.WideShapes Go.ChangeShapes Go.Deep

/-- From place o of block g on lie the asks l, two cells each. -/
def AsksAt (w : World) (g o : Nat) (l : List (Int × Int)) : Prop := ∀ j (h : j < l.length), w.cell? ⟨g, o + j * 2, none⟩ = some (.int .i64 l[j].1) ∧ w.cell? ⟨g, o + j * 2 + 1, none⟩ = some (.int .i64 l[j].2)

/-- The slice at A reads as the asks l; all of it lies below block B. -/
structure Asks (w : World) (B : Nat) (A : Option Addr) (l : List (Int × Int)) : Prop where
  at_ : l = [] ∨ ∃ g o, A = some ⟨g, o, none⟩ ∧ g < B ∧ AsksAt w g o l
  r : ∀ x ∈ l, x.2 ≤ 9223372036854775807

theorem Asks.kept {w w' : World} {B : Nat} {A : Option Addr} {l : List (Int × Int)} (h : Asks w B A l) {S : List Nat} (k : Only S w w') (hS : ∀ i ∈ S, B ≤ i) : Asks w' B A l := by
  have hn : ∀ g, g < B → g ∉ S := fun g hg hm => by have := hS g hm; omega
  refine ⟨h.at_.imp id ?_, h.r⟩
  rintro ⟨g, o, h1, h2, h3⟩
  exact ⟨g, o, h1, h2, fun j hj => ⟨k.cell (h3 j hj).1 (hn g h2), k.cell (h3 j hj).2 (hn g h2)⟩⟩

section
variable {H : Type} {enc : TypeId × Value → H} {w : World}

/-- A list of asks that comes in. -/
theorem open_asks {v : Value} {d : DataW H} {ps : List MemPlace} {r : Reach} {b0 : Nat} (hv : Value.okWide Try.prog w r b0 36 v) (h : DataW.Trod enc Try.prog w 0 (fun _ => true) true 36 v d ps) :
    ∃ A c l, v = .slice A (List.length l) c ∧ Asks w w.heap.size A l ∧ l.length ≤ 9223372036854775807 := by
  obtain ⟨A, len, cap, rfl⟩ := okWide_slice Try.underlying36 hv
  obtain ⟨fuel, hf⟩ := h
  rcases open_structs Try.underlying36 Try.underlying43 (by kernel_rfl) (by kernel_rfl) (by decide) hf with h0 | ⟨A', len', cap', hcs, hm, hz⟩
  · have h0' : Value.slice A len cap = .slice none 0 0 := by simpa [Value.cells] using h0
    injection h0' with h1 h2 h3
    subst h1; subst h2; subst h3
    exact ⟨none, 0, [], rfl, ⟨.inl rfl, by simp⟩, by simp⟩
  · have hcs' : Value.slice A len cap = .slice A' len' cap' := by simpa [Value.cells] using hcs
    injection hcs' with h1 h2 h3
    subst h1; subst h2; subst h3
    have hm' : len ≤ 9223372036854775807 := by simp only [maxLen] at hm; omega
    rcases hz with rfl | ⟨g, o, rfl, hg, hall⟩
    · exact ⟨A, cap, [], rfl, ⟨.inl rfl, by simp⟩, by simp⟩
    have each : ∀ i, i < len → ∃ x : Int × Int, (w.cell? ⟨g, o + i * 2, none⟩ = some (.int .i64 x.1) ∧ w.cell? ⟨g, o + i * 2 + 1, none⟩ = some (.int .i64 x.2)) ∧ x.2 ≤ 9223372036854775807 := by
      intro i hi
      obtain ⟨n0, v0, y0, k0, t0⟩ := hall i hi 0 _ rfl
      obtain ⟨n1, v1, y1, k1, t1⟩ := hall i hi 1 _ rfl
      obtain ⟨a0, e0, _, _⟩ := DataW.trod_int Try.underlying3 t0
      obtain ⟨a1, e1, _, w1⟩ := DataW.trod_int Try.underlying3 t1
      injection e0 with e0 _; injection e1 with e1 _
      subst e0; subst e1
      exact ⟨(a0, a1), ⟨by simpa using k0, by simpa using k1⟩, (i64_range w1).2⟩
    obtain ⟨f, hf'⟩ := choose_lt each
    have hget : ∀ j (hj : j < ((List.range len).map f).length), ((List.range len).map f)[j] = f j := fun j hj => by simp
    refine ⟨_, cap, (List.range len).map f, by simp, ⟨.inr ⟨g, o, rfl, hg, fun j hj => ?_⟩, ?_⟩, by simpa using hm'⟩
    · rw [hget j hj]
      exact (hf' j (by simpa using hj)).1
    · intro x hx
      simp only [List.mem_map, List.mem_range] at hx
      obtain ⟨i, hi, rfl⟩ := hx
      exact (hf' i hi).2
end

end Go.Proofs.Ytfnpbekfgofhfaa
