/- Lists of structs that come in, opened to what lies in memory. -/
import Derived.Test.YtfnpbekfgofhfaaItem
import Derived.Deep.Slices
import Derived.Deep.Fields
namespace Go.Proofs.Ytfnpbekfgofhfaa
open Go.RowKit Go.WideShapes Go.ChangeShapes Go.Deep

section
variable {H : Type} {enc : TypeId × Value → H} {P : Program} {w : World} {base : Nat} {spare : Nat → Bool} {held : Bool}

theorem addr_plain {a : Addr} {v : Value} (h : w.cell? a = some v) : a = ⟨a.block, a.off, none⟩ := by
  obtain ⟨b, o, s⟩ := a
  cases s with
  | none => rfl
  | some x =>
    unfold World.cell? at h
    split at h
    · simp at h
    · cases h

/-- A slice of structs of one-cell fields: nil, or each element's cells, and each cell's reading. -/
theorem open_structs {t e : TypeId} {fs : Array Field} {fuel : Nat} {cs : List Value} {x : DataW H × List MemPlace} (ht : P.underlying t = some (.slice e)) (he : P.underlying e = some (.struct fs))
    (hone : oneCellFields P fs = true) (hC : P.cellsOf e = fs.size) (hpos : 0 < fs.size) (h : DataW.trod enc P w base spare held fuel t cs = some x) :
    cs = [.slice none 0 0] ∨ ∃ (A : Option Addr) (len cap : Nat), cs = [.slice A len cap] ∧ len ≤ maxLen ∧
      (len = 0 ∨ ∃ g o, A = some ⟨g, o, none⟩ ∧ g < w.heap.size ∧ ∀ i, i < len → ∀ (j : Nat) (f : Field), fs[j]? = some f →
        ∃ (n : Nat) (v : Value) (y : DataW H × List MemPlace), w.cell? ⟨g, o + i * fs.size + j, none⟩ = some v ∧ DataW.trod enc P w base spare held n f.type [v] = some y) := by
  rcases open_slice ht h with h0 | ⟨a, len, cap, m, n, D, Pl, hcs, hb, hl, hm, hmm, _, hi⟩
  · exact .inl h0.1
  right
  refine ⟨some a, len, cap, hcs, by omega, ?_⟩
  by_cases hz : len = 0
  · exact .inl hz
  right
  have hlm : ∀ i, i < len → i < m := fun i hi' => by rw [hmm]; split <;> omega
  have cell0 : ∃ v, w.cell? a = some v := by
    obtain ⟨cs', hc, _⟩ := hi 0 (hlm 0 (by omega))
    obtain ⟨_, hcl, hat⟩ := World.cells?_some hc
    have := hat 0 (by omega)
    rw [Nat.zero_mul] at this
    have hadd : (a.add 0).add 0 = a := by simp [Addr.add]
    rw [hadd] at this
    exact ⟨_, this.trans (List.getElem?_eq_getElem (by omega))⟩
  obtain ⟨v0, hv0⟩ := cell0
  have hap := addr_plain hv0
  refine ⟨a.block, a.off, by rw [← hap], World.block_lt_of_cell? w a hv0, fun i hil j f hj => ?_⟩
  obtain ⟨cs', hc, ht'⟩ := hi i (hlm i hil)
  obtain ⟨ys, n', _, _, hlen', hyl, hf⟩ := DataW.trod_struct he ht'
  obtain ⟨_, hcl, hat⟩ := World.cells?_some hc
  obtain ⟨ho, hk⟩ := hone_of hone j f hj
  have hjl : j < fs.size := (Array.getElem?_eq_some_iff.1 hj).1
  have hcell := hat j (by omega)
  have hcj : j < cs'.length := by omega
  have h1 := hf j f hj
  rw [ho, hk, List.drop_eq_getElem_cons hcj] at h1
  refine ⟨n', cs'[j], ys[j]'(by omega), ?_, ?_⟩
  · rw [hap, addr_add, hC, addr_add, List.getElem?_eq_getElem hcj] at hcell
    exact hcell
  · rw [List.getElem?_eq_getElem (by omega)] at h1
    exact h1

/-- A slice of numbers of one kind: nil, or each cell. -/
theorem open_nums {t e : TypeId} {k : IntKind} {fuel : Nat} {v : Value} {x : DataW H × List MemPlace} (ht : P.underlying t = some (.slice e)) (he : P.underlying e = some (.int k)) (hC : P.cellsOf e = 1)
    (h : DataW.trod enc P w base spare held fuel t [v] = some x) :
    ∃ (A : Option Addr) (zs : List Int) (cap : Nat), v = .slice A zs.length cap ∧ zs.length ≤ maxLen ∧ (∀ z ∈ zs, (Lit.int k z).wf = true) ∧
      (zs = [] ∨ ∃ g o, A = some ⟨g, o, none⟩ ∧ g < w.heap.size ∧ ∀ j (hj : j < zs.length), w.cell? ⟨g, o + j, none⟩ = some (.int k zs[j])) := by
  rcases open_ints ht he hC h with ⟨h0, _⟩ | ⟨a, len, cap, zs, hcs, hb, hl, hm, hz, _, hc, hw⟩
  · injection h0 with h0 _
    exact ⟨none, [], 0, h0, by simp [maxLen], by simp, .inl rfl⟩
  · injection hcs with hcs _
    have hle : len ≤ zs.length := by rw [hz]; split <;> omega
    refine ⟨some a, zs.take len, cap, ?_, by simp; omega, fun z hzz => hw z (List.mem_of_mem_take hzz), ?_⟩
    · rw [hcs, List.length_take, Nat.min_eq_left hle]
    · by_cases h0 : len = 0
      · left; simp [h0]
      · right
        have hc0 := hc 0 (by omega)
        have hadd : a.add 0 = a := by simp [Addr.add]
        rw [hadd] at hc0
        have hap := addr_plain hc0
        refine ⟨a.block, a.off, by rw [← hap], World.block_lt_of_cell? w a hc0, fun j hj => ?_⟩
        have hj' : j < zs.length := by simp at hj; omega
        have := hc j hj'
        rw [hap, addr_add] at this
        rw [this]
        simp [List.getD, List.getElem?_eq_getElem hj']
end

section
variable {H : Type} {enc : TypeId × Value → H} {w : World}

/-- A list of items that comes in. -/
theorem open_items {v : Value} {d : DataW H} {ps : List MemPlace} {r : Reach} {b0 : Nat} (hv : Value.okWide Try.prog w r b0 22 v) (h : DataW.Trod enc Try.prog w 0 (fun _ => true) true 22 v d ps) :
    ∃ A c its, v = .slice A (List.length its) c ∧ Its w w.heap.size A its ∧ its.length ≤ 9223372036854775807 := by
  obtain ⟨A, len, cap, rfl⟩ := okWide_slice Try.underlying22 hv
  obtain ⟨fuel, hf⟩ := h
  rcases open_structs Try.underlying22 Try.underlying33 (by kernel_rfl) (by kernel_rfl) (by decide) hf with h0 | ⟨A', len', cap', hcs, hm, hz⟩
  · have h0' : Value.slice A len cap = .slice none 0 0 := by simpa [Value.cells] using h0
    injection h0' with h1 h2 h3
    subst h1; subst h2; subst h3
    exact ⟨none, 0, [], rfl, ⟨.inl rfl, by simp, by simp, by simp, by simp, by simp⟩, by simp⟩
  · have hcs' : Value.slice A len cap = .slice A' len' cap' := by simpa [Value.cells] using hcs
    injection hcs' with h1 h2 h3
    subst h1; subst h2; subst h3
    have hm' : len ≤ 9223372036854775807 := by simp only [maxLen] at hm; omega
    rcases hz with rfl | ⟨g, o, rfl, hg, hall⟩
    · exact ⟨A, cap, [], rfl, ⟨.inl rfl, by simp, by simp, by simp, by simp, by simp⟩, by simp⟩
    have each : ∀ i, i < len → ∃ x : It, (w.cell? ⟨g, o + i * 4, none⟩ = some (.int .i64 x.kind) ∧ w.cell? ⟨g, o + i * 4 + 1, none⟩ = some (.int .u64 (x.n : Int)) ∧
        w.cell? ⟨g, o + i * 4 + 2, none⟩ = some (.string x.s) ∧ w.cell? ⟨g, o + i * 4 + 3, none⟩ = some (.slice x.A x.l.length x.c)) ∧
        (x.l = [] ∨ ∃ g o, x.A = some ⟨g, o, none⟩ ∧ g < w.heap.size ∧ NumsAt w g o x.l) ∧ x.n < 18446744073709551616 ∧ (∀ n ∈ x.l, n < 4294967296) ∧ x.s.size ≤ 9223372036854775807 ∧ x.l.length ≤ 9223372036854775807 := by
      intro i hi
      obtain ⟨n0, v0, y0, k0, t0⟩ := hall i hi 0 _ rfl
      obtain ⟨n1, v1, y1, k1, t1⟩ := hall i hi 1 _ rfl
      obtain ⟨n2, v2, y2, k2, t2⟩ := hall i hi 2 _ rfl
      obtain ⟨n3, v3, y3, k3, t3⟩ := hall i hi 3 _ rfl
      obtain ⟨a0, e0, _, _⟩ := DataW.trod_int Try.underlying3 t0
      obtain ⟨a1, e1, _, w1⟩ := DataW.trod_int Try.underlying30 t1
      obtain ⟨s, e2, _, hs⟩ := DataW.trod_string Try.underlying9 t2
      obtain ⟨A3, zs, c3, e3, hz3, hw3, hc3⟩ := open_nums Try.underlying31 Try.underlying44 (by kernel_rfl) t3
      injection e0 with e0 _; injection e1 with e1 _; injection e2 with e2 _
      subst e0; subst e1; subst e2; subst e3
      have r1 := u64_range w1
      have hzr : ∀ z ∈ zs, 0 ≤ z ∧ z < 4294967296 := fun z hz => u32_range (hw3 z hz)
      refine ⟨⟨a0, a1.toNat, s, A3, c3, zs.map Int.toNat⟩, ⟨by simpa using k0, ?_, by simpa using k2, ?_⟩, ?_, ?_, ?_, ?_, ?_⟩
      · simp only
        rw [Int.toNat_of_nonneg r1.1]
        simpa using k1
      · simp only [List.length_map]
        simpa using k3
      · rcases hc3 with rfl | ⟨g3, o3, rfl, hg3, hcc⟩
        · exact .inl rfl
        · refine .inr ⟨g3, o3, rfl, hg3, fun j hj => ?_⟩
          have hj' : j < zs.length := by simpa using hj
          rw [hcc j hj']
          have := (hzr zs[j] (List.getElem_mem hj')).1
          simp [Int.toNat_of_nonneg this]
      · simp only; omega
      · intro n hn
        simp only [List.mem_map] at hn
        obtain ⟨z, hz, rfl⟩ := hn
        have := hzr z hz
        omega
      · simp only [maxLen] at hs; omega
      · simp only [List.length_map]; simp only [maxLen] at hz3; omega
    haveI : Inhabited It := ⟨⟨0, 0, ⟨#[]⟩, none, 0, []⟩⟩
    obtain ⟨f, hf'⟩ := choose_lt each
    have hget : ∀ j (hj : j < ((List.range len).map f).length), ((List.range len).map f)[j] = f j := fun j hj => by simp
    have hmem : ∀ x ∈ (List.range len).map f, ∃ i, i < len ∧ x = f i := fun x hx => by
      simp only [List.mem_map, List.mem_range] at hx
      obtain ⟨i, hi, rfl⟩ := hx
      exact ⟨i, hi, rfl⟩
    refine ⟨_, cap, (List.range len).map f, by simp, ⟨.inr ⟨g, o, rfl, hg, fun j hj => ?_⟩, ?_, ?_, ?_, ?_, ?_⟩, by simpa using hm'⟩
    · rw [hget j hj]
      exact (hf' j (by simpa using hj)).1
    · intro x hx
      obtain ⟨i, hi, rfl⟩ := hmem x hx
      exact (hf' i hi).2.1
    · intro x hx
      obtain ⟨i, hi, rfl⟩ := hmem x hx
      exact (hf' i hi).2.2.1
    · intro x hx
      obtain ⟨i, hi, rfl⟩ := hmem x hx
      exact (hf' i hi).2.2.2.1
    · intro x hx
      obtain ⟨i, hi, rfl⟩ := hmem x hx
      exact (hf' i hi).2.2.2.2.1
    · intro x hx
      obtain ⟨i, hi, rfl⟩ := hmem x hx
      exact (hf' i hi).2.2.2.2.2
end

end Go.Proofs.Ytfnpbekfgofhfaa
