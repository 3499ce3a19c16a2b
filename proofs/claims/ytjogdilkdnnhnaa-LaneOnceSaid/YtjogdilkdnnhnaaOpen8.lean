/- What comes in, opened: a seat, a line, numbers, a run's acts. -/
import Derived.Test.YtjogdilkdnnhnaaLivesL
import Derived.Deep.Slices
import Derived.Deep.Fields
import Derived.ProofKit
import Derived.OpenShut
namespace Go.Proofs.Ytjogdilkdnnhnaa
open Go.RowKit Go.WideShapes Go.ChangeShapes Go.Deep

theorem i_range {n : Int} (h : (Lit.int .i64 n).wf = true) : I n := by
  have e1 : IntKind.i64.min = -9223372036854775808 := by decide +kernel
  have e2 : IntKind.i64.max = 9223372036854775807 := by decide +kernel
  simp only [Lit.wf, Bool.and_eq_true, decide_eq_true_eq] at h
  unfold I
  omega
theorem u_range {n : Int} (h : (Lit.int .u32 n).wf = true) : U n := by
  have e1 : IntKind.u32.min = 0 := by decide +kernel
  have e2 : IntKind.u32.max = 4294967295 := by decide +kernel
  simp only [Lit.wf, Bool.and_eq_true, decide_eq_true_eq] at h
  unfold U
  omega
theorem b_range {n : Int} (h : (Lit.int .u8 n).wf = true) : 0 ≤ n ∧ n ≤ 255 := by
  have e1 : IntKind.u8.min = 0 := by decide +kernel
  have e2 : IntKind.u8.max = 255 := by decide +kernel
  simp only [Lit.wf, Bool.and_eq_true, decide_eq_true_eq] at h
  omega

section
variable {H : Type} {enc : TypeId × Value → H} {P : Program} {w : World} {base : Nat} {spare : Nat → Bool} {held : Bool}

theorem addr_plain {a : Addr} {v : Value} (h : w.cell? a = some v) : a = ⟨a.block, a.off, none⟩ := by
  obtain ⟨b, o, s⟩ := a
  cases s with
  | none => rfl
  | some x =>
    unfold World.cell? at h
    split at h
    · simp at h
    · cases h

/-- A slice of structs of one-cell fields: nil, or each element's cells, and each cell's reading. -/
theorem open_structs {t e : TypeId} {fs : Array Field} {fuel : Nat} {cs : List Value} {x : DataW H × List MemPlace} (ht : P.underlying t = some (.slice e)) (he : P.underlying e = some (.struct fs))
    (hone : oneCellFields P fs = true) (hC : P.cellsOf e = fs.size) (hpos : 0 < fs.size) (h : DataW.trod enc P w base spare held fuel t cs = some x) :
    cs = [.slice none 0 0] ∨ ∃ (A : Option Addr) (len cap : Nat), cs = [.slice A len cap] ∧ len ≤ maxLen ∧
      (len = 0 ∨ ∃ g o, A = some ⟨g, o, none⟩ ∧ g < w.heap.size ∧ ∀ i, i < len → ∀ (j : Nat) (f : Field), fs[j]? = some f →
        ∃ (n : Nat) (v : Value) (y : DataW H × List MemPlace), w.cell? ⟨g, o + i * fs.size + j, none⟩ = some v ∧ DataW.trod enc P w base spare held n f.type [v] = some y) := by
  rcases open_slice ht h with h0 | ⟨a, len, cap, m, n, D, Pl, hcs, hb, hl, hm, hmm, _, hi⟩
  · exact .inl h0.1
  right
  refine ⟨some a, len, cap, hcs, by omega, ?_⟩
  by_cases hz : len = 0
  · exact .inl hz
  right
  have hlm : ∀ i, i < len → i < m := fun i hi' => by rw [hmm]; split <;> omega
  have cell0 : ∃ v, w.cell? a = some v := by
    obtain ⟨cs', hc, _⟩ := hi 0 (hlm 0 (by omega))
    obtain ⟨_, hcl, hat⟩ := World.cells?_some hc
    have := hat 0 (by omega)
    rw [Nat.zero_mul] at this
    have hadd : (a.add 0).add 0 = a := by simp [Addr.add]
    rw [hadd] at this
    exact ⟨_, this.trans (List.getElem?_eq_getElem (by omega))⟩
  obtain ⟨v0, hv0⟩ := cell0
  have hap := addr_plain hv0
  refine ⟨a.block, a.off, by rw [← hap], World.block_lt_of_cell? w a hv0, fun i hil j f hj => ?_⟩
  obtain ⟨cs', hc, ht'⟩ := hi i (hlm i hil)
  obtain ⟨ys, n', _, _, hlen', hyl, hf⟩ := DataW.trod_struct he ht'
  obtain ⟨_, hcl, hat⟩ := World.cells?_some hc
  obtain ⟨ho, hk⟩ := hone_of hone j f hj
  have hjl : j < fs.size := (Array.getElem?_eq_some_iff.1 hj).1
  have hcell := hat j (by omega)
  have hcj : j < cs'.length := by omega
  have h1 := hf j f hj
  rw [ho, hk, List.drop_eq_getElem_cons hcj] at h1
  refine ⟨n', cs'[j], ys[j]'(by omega), ?_, ?_⟩
  · rw [hap, addr_add, hC, addr_add, List.getElem?_eq_getElem hcj] at hcell
    exact hcell
  · rw [List.getElem?_eq_getElem (by omega)] at h1
    exact h1

/-- A slice of numbers of one kind: nil, or each cell. -/
theorem open_nums {t e : TypeId} {k : IntKind} {fuel : Nat} {v : Value} {x : DataW H × List MemPlace} (ht : P.underlying t = some (.slice e)) (he : P.underlying e = some (.int k)) (hC : P.cellsOf e = 1)
    (h : DataW.trod enc P w base spare held fuel t [v] = some x) :
    ∃ (A : Option Addr) (zs : List Int) (cap : Nat), v = .slice A zs.length cap ∧ zs.length ≤ maxLen ∧ (∀ z ∈ zs, (Lit.int k z).wf = true) ∧
      (zs = [] ∨ ∃ g o, A = some ⟨g, o, none⟩ ∧ g < w.heap.size ∧ ∀ j (hj : j < zs.length), w.cell? ⟨g, o + j, none⟩ = some (.int k zs[j])) := by
  rcases open_ints ht he hC h with ⟨h0, _⟩ | ⟨a, len, cap, zs, hcs, hb, hl, hm, hz, _, hc, hw⟩
  · injection h0 with h0 _
    exact ⟨none, [], 0, h0, by simp [maxLen], by simp, .inl rfl⟩
  · injection hcs with hcs _
    have hle : len ≤ zs.length := by rw [hz]; split <;> omega
    refine ⟨some a, zs.take len, cap, ?_, by simp; omega, fun z hzz => hw z (List.mem_of_mem_take hzz), ?_⟩
    · rw [hcs, List.length_take, Nat.min_eq_left hle]
    · by_cases h0 : len = 0
      · left; simp [h0]
      · right
        have hc0 := hc 0 (by omega)
        have hadd : a.add 0 = a := by simp [Addr.add]
        rw [hadd] at hc0
        have hap := addr_plain hc0
        refine ⟨a.block, a.off, by rw [← hap], World.block_lt_of_cell? w a hc0, fun j hj => ?_⟩
        have hj' : j < zs.length := by simp at hj; omega
        have := hc j hj'
        rw [hap, addr_add] at this
        rw [this]
        simp [List.getD, List.getElem?_eq_getElem hj']

/-- A struct of one-cell fields by value: each cell's reading. -/
theorem open_flat {t : TypeId} {fs : Array Field} {fuel : Nat} {cs : List Value} {x : DataW H × List MemPlace} (he : P.underlying t = some (.struct fs)) (hone : oneCellFields P fs = true)
    (hC : P.cellsOf t = fs.size) (h : DataW.trod enc P w base spare held fuel t cs = some x) : ∀ (j : Nat) (f : Field), fs[j]? = some f →
      ∃ (n : Nat) (v : Value) (y : DataW H × List MemPlace), cs[j]? = some v ∧ DataW.trod enc P w base spare held n f.type [v] = some y := by
  intro j f hj
  obtain ⟨ys, n', _, _, hlen', hyl, hf⟩ := DataW.trod_struct he h
  obtain ⟨ho, hk⟩ := hone_of hone j f hj
  have hjl : j < fs.size := (Array.getElem?_eq_some_iff.1 hj).1
  have hcj : j < cs.length := by omega
  have h1 := hf j f hj
  rw [ho, hk, List.drop_eq_getElem_cons hcj] at h1
  refine ⟨n', cs[j], ys[j]'(by omega), List.getElem?_eq_getElem hcj, ?_⟩
  rw [List.getElem?_eq_getElem (by omega)] at h1
  exact h1
end

section
variable {H : Type} {enc : TypeId × Value → H} {w : World}
/-- A seat that comes in. -/
theorem open_seat {v : Value} {d : DataW H} {ps : List MemPlace} {r : Reach} {b0 : Nat} (hv : Value.okWide Try.prog w r b0 24 v) (h : DataW.Trod enc Try.prog w 0 (fun _ => true) true 24 v d ps) : ∃ s : Sat, v = satV s ∧ s.Ok := by
  obtain ⟨cs, rfl, hsz⟩ := okWide_struct Try.underlying24 hv
  rw [show Try.prog.cellsOf 24 = 3 by kernel_rfl] at hsz
  obtain ⟨fuel, hf⟩ := h
  obtain ⟨a, b, c, rfl⟩ : ∃ a b c, cs = #[a, b, c] := by
    rcases cs with ⟨l⟩
    match l, hsz with
    | [a, b, c], _ => exact ⟨a, b, c, rfl⟩
  have each := open_flat Try.underlying24 (by kernel_rfl) (by kernel_rfl) hf
  obtain ⟨n0, v0, y0, k0, t0⟩ := each 0 _ rfl
  obtain ⟨n1, v1, y1, k1, t1⟩ := each 1 _ rfl
  obtain ⟨n2, v2, y2, k2, t2⟩ := each 2 _ rfl
  simp only [Value.cells, List.getElem?_cons_zero, List.getElem?_cons_succ, Option.some.injEq] at k0 k1 k2
  subst k0; subst k1; subst k2
  obtain ⟨z0, e0, _, w0⟩ := DataW.trod_int Try.underlying22 t0
  obtain ⟨z1, e1, _, w1⟩ := DataW.trod_int Try.underlying22 t1
  obtain ⟨z2, e2, _, w2⟩ := DataW.trod_string Try.underlying9 t2
  injection e0 with e0 _; injection e1 with e1 _; injection e2 with e2 _
  subst e0; subst e1; subst e2
  exact ⟨⟨z0, z1, z2⟩, rfl, u_range w0, u_range w1⟩

/-- A line that comes in. -/
theorem open_line {v : Value} {d : DataW H} {ps : List MemPlace} {r : Reach} {b0 : Nat} (hv : Value.okWide Try.prog w r b0 30 v) (h : DataW.Trod enc Try.prog w 0 (fun _ => true) true 30 v d ps) : ∃ l : Ln, v = lnV l ∧ l.Ok := by
  obtain ⟨cs, rfl, hsz⟩ := okWide_struct Try.underlying30 hv
  rw [show Try.prog.cellsOf 30 = 7 by kernel_rfl] at hsz
  obtain ⟨fuel, hf⟩ := h
  obtain ⟨a, b, c, d, e, f, g, rfl⟩ : ∃ a b c d e f g, cs = #[a, b, c, d, e, f, g] := by
    rcases cs with ⟨l⟩
    match l, hsz with
    | [a, b, c, d, e, f, g], _ => exact ⟨a, b, c, d, e, f, g, rfl⟩
  have each := open_flat Try.underlying30 (by kernel_rfl) (by kernel_rfl) hf
  obtain ⟨n0, v0, y0, k0, t0⟩ := each 0 _ rfl
  obtain ⟨n1, v1, y1, k1, t1⟩ := each 1 _ rfl
  obtain ⟨n2, v2, y2, k2, t2⟩ := each 2 _ rfl
  obtain ⟨n3, v3, y3, k3, t3⟩ := each 3 _ rfl
  obtain ⟨n4, v4, y4, k4, t4⟩ := each 4 _ rfl
  obtain ⟨n5, v5, y5, k5, t5⟩ := each 5 _ rfl
  obtain ⟨n6, v6, y6, k6, t6⟩ := each 6 _ rfl
  simp only [Value.cells, List.getElem?_cons_zero, List.getElem?_cons_succ, Option.some.injEq] at k0 k1 k2 k3 k4 k5 k6
  subst k0; subst k1; subst k2; subst k3; subst k4; subst k5; subst k6
  obtain ⟨z0, e0, _, w0⟩ := DataW.trod_int Try.underlying22 t0
  obtain ⟨z1, e1, _, w1⟩ := DataW.trod_int Try.underlying22 t1
  obtain ⟨z2, e2, _, w2⟩ := DataW.trod_int Try.underlying22 t2
  obtain ⟨z3, e3, _⟩ := DataW.trod_bool Try.underlying4 t3
  obtain ⟨z4, e4, _, w4⟩ := DataW.trod_string Try.underlying9 t4
  obtain ⟨z5, e5, _, w5⟩ := DataW.trod_int Try.underlying3 t5
  obtain ⟨z6, e6, _, w6⟩ := DataW.trod_int Try.underlying3 t6
  injection e0 with e0 _; injection e1 with e1 _; injection e2 with e2 _; injection e3 with e3 _; injection e4 with e4 _; injection e5 with e5 _; injection e6 with e6 _
  subst e0; subst e1; subst e2; subst e3; subst e4; subst e5; subst e6
  exact ⟨⟨z0, z1, z2, z3, z4, z5, z6⟩, rfl, u_range w0, u_range w1, u_range w2, i_range w5, i_range w6⟩

/-- Numbers that come in. -/
theorem open_u32s {v : Value} {d : DataW H} {ps : List MemPlace} {r : Reach} {b0 : Nat} (hv : Value.okWide Try.prog w r b0 43 v) (h : DataW.Trod enc Try.prog w 0 (fun _ => true) true 43 v d ps) :
    ∃ (A : Option Addr) (c : Nat) (zs : List Int), v = .slice A zs.length c ∧ U32s w A zs ∧ (∀ z ∈ zs, U z) ∧ zs.length ≤ 9223372036854775807 := by
  obtain ⟨A, len, cap, rfl⟩ := okWide_slice Try.underlying43 hv
  obtain ⟨fuel, hf⟩ := h
  obtain ⟨A', zs, c', hv', hl, hw, hc⟩ := open_nums Try.underlying43 Try.underlying22 (by kernel_rfl) hf
  refine ⟨A', c', zs, hv', hc, fun z hz => u_range (hw z hz), ?_⟩
  simp only [maxLen] at hl
  omega

/-- The acts that a slice of address A holds. -/
def Acts (w : World) (A : Option Addr) (l : List (Int × Int)) : Prop := l = [] ∨ ∃ g o, A = some ⟨g, o, none⟩ ∧ g < w.heap.size ∧ ∀ i (h : i < l.length), w.cell? ⟨g, o + i * 2, none⟩ = some (.int .i64 l[i].1) ∧ w.cell? ⟨g, o + i * 2 + 1, none⟩ = some (.int .i64 l[i].2)
/-- A run's acts that come in. -/
theorem open_acts {v : Value} {d : DataW H} {ps : List MemPlace} {r : Reach} {b0 : Nat} (hv : Value.okWide Try.prog w r b0 41 v) (h : DataW.Trod enc Try.prog w 0 (fun _ => true) true 41 v d ps) :
    ∃ A c l, v = .slice A (List.length l) c ∧ Acts w A l ∧ (∀ x ∈ l, I x.1 ∧ I x.2) ∧ l.length ≤ 9223372036854775807 := by
  obtain ⟨A, len, cap, rfl⟩ := okWide_slice Try.underlying41 hv
  obtain ⟨fuel, hf⟩ := h
  rcases open_structs Try.underlying41 Try.underlying45 (by kernel_rfl) (by kernel_rfl) (by decide) hf with h0 | ⟨A', len', cap', hcs, hm, hz⟩
  · have h0' : Value.slice A len cap = .slice none 0 0 := by simpa [Value.cells] using h0
    injection h0' with h1 h2 h3
    subst h1; subst h2; subst h3
    exact ⟨none, 0, [], rfl, .inl rfl, by simp, by simp⟩
  · have hcs' : Value.slice A len cap = .slice A' len' cap' := by simpa [Value.cells] using hcs
    injection hcs' with h1 h2 h3
    subst h1; subst h2; subst h3
    have hm' : len ≤ 9223372036854775807 := by simp only [maxLen] at hm; omega
    rcases hz with rfl | ⟨g, o, rfl, hg, hall⟩
    · exact ⟨A, cap, [], rfl, .inl rfl, by simp, by simp⟩
    have each : ∀ i, i < len → ∃ x : Int × Int, (w.cell? ⟨g, o + i * 2, none⟩ = some (.int .i64 x.1) ∧ w.cell? ⟨g, o + i * 2 + 1, none⟩ = some (.int .i64 x.2)) ∧ I x.1 ∧ I x.2 := by
      intro i hi
      obtain ⟨n0, v0, y0, k0, t0⟩ := hall i hi 0 _ rfl
      obtain ⟨n1, v1, y1, k1, t1⟩ := hall i hi 1 _ rfl
      obtain ⟨a0, e0, _, w0⟩ := DataW.trod_int Try.underlying3 t0
      obtain ⟨a1, e1, _, w1⟩ := DataW.trod_int Try.underlying3 t1
      injection e0 with e0 _; injection e1 with e1 _
      subst e0; subst e1
      exact ⟨(a0, a1), ⟨by simpa using k0, by simpa using k1⟩, i_range w0, i_range w1⟩
    obtain ⟨f, hf'⟩ := choose_lt each
    have hget : ∀ j (hj : j < ((List.range len).map f).length), ((List.range len).map f)[j] = f j := fun j hj => by simp
    refine ⟨_, cap, (List.range len).map f, by simp, .inr ⟨g, o, rfl, hg, fun j hj => ?_⟩, ?_, by simpa using hm'⟩
    · rw [hget j hj]
      exact (hf' j (by simpa using hj)).1
    · intro x hx
      simp only [List.mem_map, List.mem_range] at hx
      obtain ⟨i, hi, rfl⟩ := hx
      exact (hf' i hi).2
end

end Go.Proofs.Ytjogdilkdnnhnaa
