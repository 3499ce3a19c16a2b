/- Lists of acts that come in, opened to what lies in memory. -/
import Derived.Test.YtohkfeolfemcnaaAlive
import Derived.Deep.Slices
import Derived.Deep.Fields
import Derived.ProofKit
namespace Go.Proofs.Ytohkfeolfemcnaa
open Go.RowKit Go.WideShapes Go.ChangeShapes Go.Deep

section
variable {H : Type} {enc : TypeId × Value → H} {P : Program} {w : World} {base : Nat} {spare : Nat → Bool} {held : Bool}

theorem addr_plain {a : Addr} {v : Value} (h : w.cell? a = some v) : a = ⟨a.block, a.off, none⟩ := by
  obtain ⟨b, o, s⟩ := a
  cases s with
  | none => rfl
  | some x =>
    unfold World.cell? at h
    split at h
    · simp at h
    · cases h

/-- A slice of structs of one-cell fields: nil, or each element's cells, and each cell's reading. -/
theorem open_structs {t e : TypeId} {fs : Array Field} {fuel : Nat} {cs : List Value} {x : DataW H × List MemPlace} (ht : P.underlying t = some (.slice e)) (he : P.underlying e = some (.struct fs))
    (hone : oneCellFields P fs = true) (hC : P.cellsOf e = fs.size) (hpos : 0 < fs.size) (h : DataW.trod enc P w base spare held fuel t cs = some x) :
    cs = [.slice none 0 0] ∨ ∃ (A : Option Addr) (len cap : Nat), cs = [.slice A len cap] ∧ len ≤ maxLen ∧
      (len = 0 ∨ ∃ g o, A = some ⟨g, o, none⟩ ∧ g < w.heap.size ∧ ∀ i, i < len → ∀ (j : Nat) (f : Field), fs[j]? = some f →
        ∃ (n : Nat) (v : Value) (y : DataW H × List MemPlace), w.cell? ⟨g, o + i * fs.size + j, none⟩ = some v ∧ DataW.trod enc P w base spare held n f.type [v] = some y) := by
  rcases open_slice ht h with h0 | ⟨a, len, cap, m, n, D, Pl, hcs, hb, hl, hm, hmm, _, hi⟩
  · exact .inl h0.1
  right
  refine ⟨some a, len, cap, hcs, by omega, ?_⟩
  by_cases hz : len = 0
  · exact .inl hz
  right
  have hlm : ∀ i, i < len → i < m := fun i hi' => by rw [hmm]; split <;> omega
  have cell0 : ∃ v, w.cell? a = some v := by
    obtain ⟨cs', hc, _⟩ := hi 0 (hlm 0 (by omega))
    obtain ⟨_, hcl, hat⟩ := World.cells?_some hc
    have := hat 0 (by omega)
    rw [Nat.zero_mul] at this
    have hadd : (a.add 0).add 0 = a := by simp [Addr.add]
    rw [hadd] at this
    exact ⟨_, this.trans (List.getElem?_eq_getElem (by omega))⟩
  obtain ⟨v0, hv0⟩ := cell0
  have hap := addr_plain hv0
  refine ⟨a.block, a.off, by rw [← hap], World.block_lt_of_cell? w a hv0, fun i hil j f hj => ?_⟩
  obtain ⟨cs', hc, ht'⟩ := hi i (hlm i hil)
  obtain ⟨ys, n', _, _, hlen', hyl, hf⟩ := DataW.trod_struct he ht'
  obtain ⟨_, hcl, hat⟩ := World.cells?_some hc
  obtain ⟨ho, hk⟩ := hone_of hone j f hj
  have hjl : j < fs.size := (Array.getElem?_eq_some_iff.1 hj).1
  have hcell := hat j (by omega)
  have hcj : j < cs'.length := by omega
  have h1 := hf j f hj
  rw [ho, hk, List.drop_eq_getElem_cons hcj] at h1
  refine ⟨n', cs'[j], ys[j]'(by omega), ?_, ?_⟩
  · rw [hap, addr_add, hC, addr_add, List.getElem?_eq_getElem hcj] at hcell
    exact hcell
  · rw [List.getElem?_eq_getElem (by omega)] at h1
    exact h1

end

/-- From place o of block g on lie the acts l. -/
def ActsAt (w : World) (g o : Nat) (l : List Deed) : Prop := ∀ i (h : i < l.length),
  w.cell? ⟨g, o + i * 4, none⟩ = some (.int .i64 l[i].kind) ∧ w.cell? ⟨g, o + i * 4 + 1, none⟩ = some (.int .i64 l[i].at_) ∧ w.cell? ⟨g, o + i * 4 + 2, none⟩ = some (.int .u8 (l[i].b.toNat : Int)) ∧ w.cell? ⟨g, o + i * 4 + 3, none⟩ = some (.int .u64 (l[i].keep : Int))
/-- The acts that a slice of address A holds, in blocks below B. -/
def Acts (w : World) (B : Nat) (A : Option Addr) (l : List Deed) : Prop := (l = [] ∨ ∃ g o, A = some ⟨g, o, none⟩ ∧ g < B ∧ ActsAt w g o l) ∧ ∀ x ∈ l, x.okay

theorem Acts.kept {w w' : World} {B : Nat} {A : Option Addr} {l : List Deed} (h : Acts w B A l) (k : Only [] w w') : Acts w' B A l := by
  refine ⟨h.1.imp id ?_, h.2⟩
  rintro ⟨g, o, hA, hg, hc⟩
  refine ⟨g, o, hA, hg, fun i hi => ?_⟩
  obtain ⟨c0, c1, c2, c3⟩ := hc i hi
  exact ⟨k.cell c0 (by simp), k.cell c1 (by simp), k.cell c2 (by simp), k.cell c3 (by simp)⟩

theorem Acts.get {w : World} {B : Nat} {A : Option Addr} {l : List Deed} (h : Acts w B A l) {i : Nat} (hi : i < l.length) : ∃ g o, A = some ⟨g, o, none⟩ ∧
    w.cell? ⟨g, o + i * 4, none⟩ = some (.int .i64 l[i].kind) ∧ w.cell? ⟨g, o + i * 4 + 1, none⟩ = some (.int .i64 l[i].at_) ∧ w.cell? ⟨g, o + i * 4 + 2, none⟩ = some (.int .u8 (l[i].b.toNat : Int)) ∧ w.cell? ⟨g, o + i * 4 + 3, none⟩ = some (.int .u64 (l[i].keep : Int)) := by
  rcases h.1 with rfl | ⟨g, o, hA, _, hc⟩
  · simp at hi
  · exact ⟨g, o, hA, hc i hi⟩

section
variable {H : Type} {enc : TypeId × Value → H} {w : World}
/-- A list of acts that comes in. -/
theorem open_acts {v : Value} {d : DataW H} {ps : List MemPlace} {r : Reach} {b0 : Nat} (hv : Value.okWide Try.prog w r b0 22 v) (h : DataW.Trod enc Try.prog w 0 (fun _ => true) true 22 v d ps) :
    ∃ A c l, v = .slice A (List.length l) c ∧ Acts w w.heap.size A l ∧ l.length ≤ 9223372036854775807 := by
  obtain ⟨A, len, cap, rfl⟩ := okWide_slice Try.underlying22 hv
  obtain ⟨fuel, hf⟩ := h
  rcases open_structs Try.underlying22 Try.underlying33 (by kernel_rfl) (by kernel_rfl) (by decide) hf with h0 | ⟨A', len', cap', hcs, hm, hz⟩
  · have h0' : Value.slice A len cap = .slice none 0 0 := by simpa [Value.cells] using h0
    injection h0' with h1 h2 h3
    subst h1; subst h2; subst h3
    exact ⟨none, 0, [], rfl, ⟨.inl rfl, by simp⟩, by simp⟩
  · have hcs' : Value.slice A len cap = .slice A' len' cap' := by simpa [Value.cells] using hcs
    injection hcs' with h1 h2 h3
    subst h1; subst h2; subst h3
    have hm' : len ≤ 9223372036854775807 := by simp only [maxLen] at hm; omega
    rcases hz with rfl | ⟨g, o, rfl, hg, hall⟩
    · exact ⟨A, cap, [], rfl, ⟨.inl rfl, by simp⟩, by simp⟩
    have each : ∀ i, i < len → ∃ x : Deed, (w.cell? ⟨g, o + i * 4, none⟩ = some (.int .i64 x.kind) ∧ w.cell? ⟨g, o + i * 4 + 1, none⟩ = some (.int .i64 x.at_) ∧
        w.cell? ⟨g, o + i * 4 + 2, none⟩ = some (.int .u8 (x.b.toNat : Int)) ∧ w.cell? ⟨g, o + i * 4 + 3, none⟩ = some (.int .u64 (x.keep : Int))) ∧ x.okay := by
      intro i hi
      obtain ⟨n0, v0, y0, k0, t0⟩ := hall i hi 0 _ rfl
      obtain ⟨n1, v1, y1, k1, t1⟩ := hall i hi 1 _ rfl
      obtain ⟨n2, v2, y2, k2, t2⟩ := hall i hi 2 _ rfl
      obtain ⟨n3, v3, y3, k3, t3⟩ := hall i hi 3 _ rfl
      obtain ⟨a0, e0, _, w0⟩ := DataW.trod_int Try.underlying3 t0
      obtain ⟨a1, e1, _, w1⟩ := DataW.trod_int Try.underlying3 t1
      obtain ⟨a2, e2, _, w2⟩ := DataW.trod_int Try.underlying5 t2
      obtain ⟨a3, e3, _, w3⟩ := DataW.trod_int Try.underlying31 t3
      injection e0 with e0 _; injection e1 with e1 _; injection e2 with e2 _; injection e3 with e3 _
      subst e0; subst e1; subst e2; subst e3
      have r0 := i64_range w0
      have r1 := i64_range w1
      have r2 := u8_range w2
      have r3 := u64_range w3
      have hb : ((UInt8.ofNat a2.toNat).toNat : Int) = a2 := by
        rw [UInt8.toNat_ofNat']
        omega
      have hk : ((a3.toNat : Nat) : Int) = a3 := Int.toNat_of_nonneg r3.1
      refine ⟨⟨a0, a1, UInt8.ofNat a2.toNat, a3.toNat⟩, ⟨by simpa using k0, by simpa using k1, ?_, ?_⟩, r0, r1, by simp only; omega⟩
      · simp only
        rw [hb]
        simpa using k2
      · simp only
        rw [hk]
        simpa using k3
    haveI : Inhabited Deed := ⟨⟨0, 0, 0, 0⟩⟩
    obtain ⟨f, hf'⟩ := choose_lt each
    have hget : ∀ j (hj : j < ((List.range len).map f).length), ((List.range len).map f)[j] = f j := fun j hj => by simp
    refine ⟨_, cap, (List.range len).map f, by simp, ⟨.inr ⟨g, o, rfl, hg, fun j hj => ?_⟩, ?_⟩, by simpa using hm'⟩
    · rw [hget j hj]
      exact (hf' j (by simpa using hj)).1
    · intro x hx
      simp only [List.mem_map, List.mem_range] at hx
      obtain ⟨i, hi, rfl⟩ := hx
      exact (hf' i hi).2
end

end Go.Proofs.Ytohkfeolfemcnaa
