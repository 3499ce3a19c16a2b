/- What every right program answers; opens that come in. -/
import Derived.Test.YthclpefomhakdaaAdd11
import Derived.Deep.Slices
import Derived.Deep.Fields
import Derived.ProofKit
import Derived.OpenShut
namespace Go.Proofs.Ythclpefomhakdaa
open Go.RowKit Go.WideShapes Go.ChangeShapes Go.Deep

theorem nat_of_u32 {n : Int} (h : (Lit.int .u32 n).wf = true) : ∃ d : Nat, n = (d : Int) := by
  have e1 : IntKind.u32.min = 0 := by decide +kernel
  simp only [Lit.wf, Bool.and_eq_true, decide_eq_true_eq] at h
  exact ⟨n.toNat, by omega⟩
theorem choose_lt {α : Type} [Inhabited α] {p : Nat → α → Prop} {n : Nat} (h : ∀ i, i < n → ∃ x, p i x) : ∃ f : Nat → α, ∀ i, i < n → p i (f i) :=
  ⟨fun i => if hi : i < n then (h i hi).choose else default, fun i hi => by simp only [hi, dif_pos]; exact (h i hi).choose_spec⟩
instance : Inhabited Opn := ⟨zeroO⟩
section
variable {H : Type} {enc : TypeId × Value → H} {P : Program} {w : World} {base : Nat} {spare : Nat → Bool} {held : Bool}
/-- A struct of one-cell fields by value: each cell's reading. -/
theorem open_flat {t : TypeId} {fs : Array Field} {fuel : Nat} {cs : List Value} {x : DataW H × List MemPlace} (he : P.underlying t = some (.struct fs)) (hone : oneCellFields P fs = true)
    (hC : P.cellsOf t = fs.size) (h : DataW.trod enc P w base spare held fuel t cs = some x) : ∀ (j : Nat) (f : Field), fs[j]? = some f →
      ∃ (n : Nat) (v : Value) (y : DataW H × List MemPlace), cs[j]? = some v ∧ DataW.trod enc P w base spare held n f.type [v] = some y := by
  intro j f hj
  obtain ⟨ys, n', _, _, hlen', hyl, hf⟩ := DataW.trod_struct he h
  obtain ⟨ho, hk⟩ := hone_of hone j f hj
  have hjl : j < fs.size := (Array.getElem?_eq_some_iff.1 hj).1
  have hcj : j < cs.length := by omega
  have h1 := hf j f hj
  rw [ho, hk, List.drop_eq_getElem_cons hcj] at h1
  refine ⟨n', cs[j], ys[j]'(by omega), List.getElem?_eq_getElem hcj, ?_⟩
  rw [List.getElem?_eq_getElem (by omega)] at h1
  exact h1
end
section
variable {H : Type} {enc : TypeId × Value → H} {w : World}
/-- An open that comes in. -/
theorem open_op {v : Value} {d : DataW H} {ps : List MemPlace} {r : Reach} {b0 : Nat} (hv : Value.okWide Try.prog w r b0 27 v) (h : DataW.Trod enc Try.prog w 0 (fun _ => true) true 27 v d ps) : ∃ x : Opn, v = opV x := by
  obtain ⟨cs, rfl, hsz⟩ := okWide_struct Try.underlying27 hv
  rw [show Try.prog.cellsOf 27 = 5 by kernel_rfl] at hsz
  obtain ⟨fuel, hf⟩ := h
  obtain ⟨a, b, c, d, e, rfl⟩ : ∃ a b c d e, cs = #[a, b, c, d, e] := by
    rcases cs with ⟨l⟩
    match l, hsz with
    | [a, b, c, d, e], _ => exact ⟨a, b, c, d, e, rfl⟩
  have each := open_flat Try.underlying27 (by kernel_rfl) (by kernel_rfl) hf
  obtain ⟨n0, v0, y0, k0, t0⟩ := each 0 _ rfl
  obtain ⟨n1, v1, y1, k1, t1⟩ := each 1 _ rfl
  obtain ⟨n2, v2, y2, k2, t2⟩ := each 2 _ rfl
  obtain ⟨n3, v3, y3, k3, t3⟩ := each 3 _ rfl
  obtain ⟨n4, v4, y4, k4, t4⟩ := each 4 _ rfl
  simp only [Value.cells, List.getElem?_cons_zero, List.getElem?_cons_succ, Option.some.injEq] at k0 k1 k2 k3 k4
  subst k0; subst k1; subst k2; subst k3; subst k4
  obtain ⟨z0, e0, _, w0⟩ := DataW.trod_int Try.underlying23 t0
  obtain ⟨z1, e1, _, w1⟩ := DataW.trod_int Try.underlying23 t1
  obtain ⟨z2, e2, _, w2⟩ := DataW.trod_int Try.underlying23 t2
  obtain ⟨z3, e3, _, w3⟩ := DataW.trod_int Try.underlying23 t3
  obtain ⟨z4, e4, _, w4⟩ := DataW.trod_int Try.underlying23 t4
  injection e0 with e0 _; injection e1 with e1 _; injection e2 with e2 _; injection e3 with e3 _; injection e4 with e4 _
  subst e0; subst e1; subst e2; subst e3; subst e4
  obtain ⟨d, rfl⟩ := nat_of_u32 w4
  exact ⟨⟨z0, z1, z2, z3, d⟩, rfl⟩
set_option maxRecDepth 100000 in
theorem open_ops' {v : Value} {fuel : Nat} {x : DataW H × List MemPlace} (h : DataW.trod enc Try.prog w 0 (fun _ => true) true fuel 22 [v] = some x) : ∃ (A : Option Addr) (c : Nat) (l : List Opn), v = .slice A (List.length l) c ∧ Els opE 5 w A l ∧ l.length ≤ 9223372036854775807 ∧ l.length ≤ c := by
  rcases open_structs Try.underlying22 Try.underlying27 (by kernel_rfl) (by kernel_rfl) (by decide) h with h0 | ⟨A, len, cap, hcs, ⟨hm, hcap⟩, hz⟩
  · injection h0 with h0 _
    exact ⟨none, 0, [], h0, .inl rfl, by simp, by simp⟩
  · injection hcs with hcs _
    subst hcs
    have hm' : len ≤ 9223372036854775807 := by simp only [maxLen] at hm; omega
    rcases hz with rfl | ⟨g, o, rfl, hg, hall⟩
    · exact ⟨A, cap, [], rfl, .inl rfl, by simp, by simp⟩
    have each : ∀ i, i < len → ∃ x : Opn, w.cell? ⟨g, o + i * 5, none⟩ = some (.int .u32 x.client) ∧ w.cell? ⟨g, o + i * 5 + 1, none⟩ = some (.int .u32 x.handle) ∧ w.cell? ⟨g, o + i * 5 + 2, none⟩ = some (.int .u32 x.file) ∧ w.cell? ⟨g, o + i * 5 + 3, none⟩ = some (.int .u32 x.access) ∧ w.cell? ⟨g, o + i * 5 + 4, none⟩ = some (.int .u32 (x.deny : Int)) := by
      intro i hi
      obtain ⟨n0, v0, y0, k0, t0⟩ := hall i hi 0 _ rfl
      obtain ⟨n1, v1, y1, k1, t1⟩ := hall i hi 1 _ rfl
      obtain ⟨n2, v2, y2, k2, t2⟩ := hall i hi 2 _ rfl
      obtain ⟨n3, v3, y3, k3, t3⟩ := hall i hi 3 _ rfl
      obtain ⟨n4, v4, y4, k4, t4⟩ := hall i hi 4 _ rfl
      obtain ⟨z0, e0, _, w0⟩ := DataW.trod_int Try.underlying23 t0
      obtain ⟨z1, e1, _, w1⟩ := DataW.trod_int Try.underlying23 t1
      obtain ⟨z2, e2, _, w2⟩ := DataW.trod_int Try.underlying23 t2
      obtain ⟨z3, e3, _, w3⟩ := DataW.trod_int Try.underlying23 t3
      obtain ⟨z4, e4, _, w4⟩ := DataW.trod_int Try.underlying23 t4
      injection e0 with e0 _; injection e1 with e1 _; injection e2 with e2 _; injection e3 with e3 _; injection e4 with e4 _
      subst e0; subst e1; subst e2; subst e3; subst e4
      obtain ⟨d, rfl⟩ := nat_of_u32 w4
      refine ⟨⟨z0, z1, z2, z3, d⟩, ?_, ?_, ?_, ?_, ?_⟩
      · simpa using k0
      · simpa using k1
      · simpa using k2
      · simpa using k3
      · simpa using k4
    obtain ⟨f, hf'⟩ := choose_lt each
    refine ⟨_, cap, (List.range len).map f, by simp, .inr ⟨g, o, rfl, hg, fun j hj i v hv => ?_⟩, by rw [List.length_map, List.length_range]; exact hm', by rw [List.length_map, List.length_range]; exact hcap⟩
    have e : ((List.range len).map f)[j] = f j := by simp
    rw [e] at hv
    obtain ⟨q0, q1, q2, q3, q4⟩ := hf' j (by simpa using hj)
    match i, hv with
    | 0, hv => simp [opE] at hv; subst hv; exact q0
    | 1, hv => simp [opE] at hv; subst hv; exact q1
    | 2, hv => simp [opE] at hv; subst hv; exact q2
    | 3, hv => simp [opE] at hv; subst hv; exact q3
    | 4, hv => simp [opE] at hv; subst hv; exact q4
    | i + 5, hv => simp [opE] at hv
set_option maxRecDepth 100000 in
/-- A list of opens that comes in. -/
theorem open_ops {v : Value} {d : DataW H} {ps : List MemPlace} {r : Reach} {b0 : Nat} (hv : Value.okWide Try.prog w r b0 22 v) (h : DataW.Trod enc Try.prog w 0 (fun _ => true) true 22 v d ps) :
    ∃ A c l, v = .slice A (List.length l) c ∧ Els opE 5 w A l ∧ l.length ≤ 9223372036854775807 ∧ l.length ≤ c := by
  obtain ⟨A, len, cap, rfl⟩ := okWide_slice Try.underlying22 hv
  obtain ⟨fuel, hf⟩ := h
  exact open_ops' (by simpa [Value.cells] using hf)
end

def L1 : List Opn := [⟨1, 1, 9, 1, 2⟩]
def L2 : List Opn := [⟨1, 1, 9, 1, 2⟩, ⟨2, 1, 9, 1, 0⟩]
theorem al_1 : addR [] ⟨1, 1, 9, 1, 2⟩ = (L1, 0) := by decide +kernel
theorem al_2 : addR L1 ⟨2, 1, 9, 2, 0⟩ = ([], 13) := by decide +kernel
theorem al_3 : addR L1 ⟨2, 1, 9, 1, 0⟩ = (L2, 0) := by decide +kernel
theorem al_4 : L2.countP (fun x => decide (x.file = 9)) = 2 := by decide +kernel
theorem al_5 : L2.countP (fun x => decide (x.client = 2 ∧ x.file = 9)) = 1 := by decide +kernel
set_option maxRecDepth 100000 in
set_option maxHeartbeats 4000000 in
/-- What every right program answers. -/
theorem alive_any (w : World) : Calls Try.prog 10 #[] w fun e w' => e = .returned (.bool true) ∧ Only [] w w' := by
  have h1 := fun W => add_any W none 0 [] ⟨1, 1, 9, 1, 2⟩ (.inl rfl) (by simp) (by simp)
  have h2 := fun W A c hb hc => add_any W A c L1 ⟨2, 1, 9, 2, 0⟩ hb (by decide) hc
  have h3 := fun W A c hb hc => add_any W A c L1 ⟨2, 1, 9, 1, 0⟩ hb (by decide) hc
  have h4 := fun W A c hb => uses_any W A c L2 9 hb (by decide)
  have h5 := fun W A c hb => has_any W A c L2 2 9 hb (by decide)
  rw [al_1] at h1
  rw [al_2] at h2
  rw [al_3] at h3
  rw [al_4] at h4
  rw [al_5] at h5
  have v1 : opV ⟨1, 1, 9, 1, 2⟩ = .agg #[.int .u32 1, .int .u32 1, .int .u32 9, .int .u32 1, .int .u32 2] := rfl
  have v2 : opV ⟨2, 1, 9, 2, 0⟩ = .agg #[.int .u32 2, .int .u32 1, .int .u32 9, .int .u32 2, .int .u32 0] := rfl
  have v3 : opV ⟨2, 1, 9, 1, 0⟩ = .agg #[.int .u32 2, .int .u32 1, .int .u32 9, .int .u32 1, .int .u32 0] := rfl
  rw [v1] at h1
  rw [v2] at h2
  rw [v3] at h3
  clear v1 v2 v3
  simp only [List.length_nil] at h1
  replace h1 := Lib.hid h1
  replace h2 := Lib.hid h2
  replace h3 := Lib.hid h3
  replace h4 := Lib.hid h4
  replace h5 := Lib.hid h5
  go_enter Try.func10, Try.ntmps10
  go_wp2_with fail
  refine (h1.out _).mono ?_; rintro e w1 ⟨v1, rfl, m1⟩
  obtain ⟨A1, c1, rfl, e1, l1, _, _⟩ := m1.shape opE_length
  have k1 := m1.only
  simp only at l1
  go_wp2_with fail
  refine (h2.out _ A1 c1 e1 l1).mono ?_; rintro e w2 ⟨v2, rfl, m2⟩
  obtain ⟨A2, c2, rfl, e2, l2, _, _⟩ := m2.shape opE_length
  have k2 := k1.trans m2.only
  go_wp2_with fail
  refine (h3.out _ A1 c1 (e1.kept m2.only (by simp)) l1).mono ?_; rintro e w3 ⟨v3, rfl, m3⟩
  obtain ⟨A3, c3, rfl, e3, l3, _, _⟩ := m3.shape opE_length
  have k3 := k2.trans m3.only
  clear m1 m2 m3 e1 e2
  go_wp2_with fail
  refine (h4.out _ A3 c3 e3).mono ?_; rintro e w4 ⟨rfl, k4⟩
  go_wp2_with fail
  refine (h5.out _ A3 c3 (e3.kept k4 (by simp))).mono ?_; rintro e w5 ⟨rfl, k5⟩
  go_wp2
  go_ret
  exact ⟨rfl, (k3.trans k4).trans k5⟩
end Go.Proofs.Ythclpefomhakdaa
