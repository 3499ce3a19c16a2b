/- A state that comes in. -/
import Derived.Test.YtalkhhjfplahkaaGreatKGt14
import Derived.Test.YtalkhhjfplahkaaGreatKB
import Derived.Deep.Slices
import Derived.Deep.Fields
import Derived.ProofKit
import Derived.OpenShut
namespace Go.Proofs.YtalkhhjfplahkaaGreat
open Go.RowKit Go.WideShapes Go.ChangeShapes Go.Deep
set_option linter.unusedVariables false
set_option maxRecDepth 100000

section
variable {H : Type} {enc : TypeId × Value → H} {P : Program} {w : World} {base : Nat} {spare : Nat → Bool} {held : Bool}
/-- A slice of structs of any cells that comes in. -/
theorem open_rows {t e : TypeId} {k fuel : Nat} {cs : List Value} {x : DataW H × List MemPlace} (ht : P.underlying t = some (.slice e)) (hC : P.cellsOf e = k) (hpos : 0 < k) (h : DataW.trod enc P w base spare held fuel t cs = some x) :
    cs = [.slice none 0 0] ∨ ∃ (A : Option Addr) (len cap : Nat), cs = [.slice A len cap] ∧ (len ≤ maxLen ∧ len ≤ cap) ∧
      (len = 0 ∨ ∃ g o, A = some ⟨g, o, none⟩ ∧ g < w.heap.size ∧ ∀ i, i < len → ∃ (cs' : List Value) (n : Nat) (y : DataW H × List MemPlace), cs'.length = k ∧ (∀ j v, cs'[j]? = some v → w.cell? ⟨g, o + i * k + j, none⟩ = some v) ∧ DataW.trod enc P w base spare held n e cs' = some y) := by
  rcases open_slice ht h with h0 | ⟨a, len, cap, m, n, D, Pl, hcs, hb, hl, hm, hmm, _, hi⟩
  · exact .inl h0.1
  right
  refine ⟨some a, len, cap, hcs, ⟨by omega, hl⟩, ?_⟩
  by_cases hz : len = 0
  · exact .inl hz
  right
  have hlm : ∀ i, i < len → i < m := fun i hi' => by rw [hmm]; split <;> omega
  have cell0 : ∃ v, w.cell? a = some v := by
    obtain ⟨cs', hc, _⟩ := hi 0 (hlm 0 (by omega))
    obtain ⟨_, hcl, hat⟩ := World.cells?_some hc
    have := hat 0 (by omega)
    rw [Nat.zero_mul] at this
    have hadd : (a.add 0).add 0 = a := by simp [Addr.add]
    rw [hadd] at this
    exact ⟨_, this.trans (List.getElem?_eq_getElem (by omega))⟩
  obtain ⟨v0, hv0⟩ := cell0
  have hap := addr_plain hv0
  refine ⟨a.block, a.off, by rw [← hap], World.block_lt_of_cell? w a hv0, fun i hil => ?_⟩
  obtain ⟨cs', hc, ht'⟩ := hi i (hlm i hil)
  obtain ⟨_, hcl, hat⟩ := World.cells?_some hc
  refine ⟨cs', _, _, hcl.trans hC, fun j v hv => ?_, ht'⟩
  have hj : j < cs'.length := (List.getElem?_eq_some_iff.1 hv).1
  have hcell := hat j (by omega)
  rw [hap, addr_add, hC, addr_add] at hcell
  exact hcell.trans hv
end

section
variable {H : Type} {enc : TypeId × Value → H} {w : World}
set_option maxHeartbeats 1000000 in
/-- A packet's cells that come in. -/
theorem open_pkc {l : List Value} {fuel : Nat} {x : DataW H × List MemPlace} (hsz : l.length = 20) (hf : DataW.trod enc Tryz.prog w 0 (fun _ => true) true fuel 54 l = some x) : ∃ p : Pk, l = (pkA p).toList ∧ p.Ok := by
  obtain ⟨c0, c1, c2, c3, c4, c5, c6, c7, c8, c9, c10, c11, c12, c13, c14, c15, c16, c17, c18, c19, rfl⟩ : ∃ c0 c1 c2 c3 c4 c5 c6 c7 c8 c9 c10 c11 c12 c13 c14 c15 c16 c17 c18 c19, l = [c0, c1, c2, c3, c4, c5, c6, c7, c8, c9, c10, c11, c12, c13, c14, c15, c16, c17, c18, c19] := by
    match l, hsz with
    | [c0, c1, c2, c3, c4, c5, c6, c7, c8, c9, c10, c11, c12, c13, c14, c15, c16, c17, c18, c19], _ => exact ⟨c0, c1, c2, c3, c4, c5, c6, c7, c8, c9, c10, c11, c12, c13, c14, c15, c16, c17, c18, c19, rfl⟩
  obtain ⟨n0, y0, t0⟩ := open_field Tryz.underlying54 hf 0 _ rfl 0 1 3 rfl rfl (by kernel_rfl)
  obtain ⟨n1, y1, t1⟩ := open_field Tryz.underlying54 hf 1 _ rfl 1 1 3 rfl rfl (by kernel_rfl)
  obtain ⟨n2, y2, t2⟩ := open_field Tryz.underlying54 hf 2 _ rfl 2 1 3 rfl rfl (by kernel_rfl)
  obtain ⟨n3, y3, t3⟩ := open_field Tryz.underlying54 hf 3 _ rfl 3 1 22 rfl rfl (by kernel_rfl)
  obtain ⟨n4, y4, t4⟩ := open_field Tryz.underlying54 hf 4 _ rfl 4 1 22 rfl rfl (by kernel_rfl)
  obtain ⟨n5, y5, t5⟩ := open_field Tryz.underlying54 hf 5 _ rfl 5 1 22 rfl rfl (by kernel_rfl)
  obtain ⟨n6, y6, t6⟩ := open_field Tryz.underlying54 hf 6 _ rfl 6 1 22 rfl rfl (by kernel_rfl)
  obtain ⟨nO, yO, tO⟩ := open_field Tryz.underlying54 hf 7 _ rfl 7 13 52 rfl rfl (by kernel_rfl)
  obtain ⟨n7, y7, t7⟩ := open_field Tryz.underlying52 tO 0 _ rfl 0 1 3 rfl rfl (by kernel_rfl)
  obtain ⟨n8, y8, t8⟩ := open_field Tryz.underlying52 tO 1 _ rfl 1 1 33 rfl rfl (by kernel_rfl)
  obtain ⟨n9, y9, t9⟩ := open_field Tryz.underlying52 tO 2 _ rfl 2 1 22 rfl rfl (by kernel_rfl)
  obtain ⟨n10, y10, t10⟩ := open_field Tryz.underlying52 tO 3 _ rfl 3 1 22 rfl rfl (by kernel_rfl)
  obtain ⟨n11, y11, t11⟩ := open_field Tryz.underlying52 tO 4 _ rfl 4 1 22 rfl rfl (by kernel_rfl)
  obtain ⟨n12, y12, t12⟩ := open_field Tryz.underlying52 tO 5 _ rfl 5 1 22 rfl rfl (by kernel_rfl)
  obtain ⟨n13, y13, t13⟩ := open_field Tryz.underlying52 tO 6 _ rfl 6 1 22 rfl rfl (by kernel_rfl)
  obtain ⟨n14, y14, t14⟩ := open_field Tryz.underlying52 tO 7 _ rfl 7 1 22 rfl rfl (by kernel_rfl)
  obtain ⟨n15, y15, t15⟩ := open_field Tryz.underlying52 tO 8 _ rfl 8 1 22 rfl rfl (by kernel_rfl)
  obtain ⟨n16, y16, t16⟩ := open_field Tryz.underlying52 tO 9 _ rfl 9 1 22 rfl rfl (by kernel_rfl)
  obtain ⟨n17, y17, t17⟩ := open_field Tryz.underlying52 tO 10 _ rfl 10 1 9 rfl rfl (by kernel_rfl)
  obtain ⟨n18, y18, t18⟩ := open_field Tryz.underlying52 tO 11 _ rfl 11 1 9 rfl rfl (by kernel_rfl)
  obtain ⟨n19, y19, t19⟩ := open_field Tryz.underlying52 tO 12 _ rfl 12 1 9 rfl rfl (by kernel_rfl)
  replace t0 : DataW.trod enc Tryz.prog w 0 (fun _ => true) true n0 3 [c0] = some y0 := t0
  replace t1 : DataW.trod enc Tryz.prog w 0 (fun _ => true) true n1 3 [c1] = some y1 := t1
  replace t2 : DataW.trod enc Tryz.prog w 0 (fun _ => true) true n2 3 [c2] = some y2 := t2
  replace t3 : DataW.trod enc Tryz.prog w 0 (fun _ => true) true n3 22 [c3] = some y3 := t3
  replace t4 : DataW.trod enc Tryz.prog w 0 (fun _ => true) true n4 22 [c4] = some y4 := t4
  replace t5 : DataW.trod enc Tryz.prog w 0 (fun _ => true) true n5 22 [c5] = some y5 := t5
  replace t6 : DataW.trod enc Tryz.prog w 0 (fun _ => true) true n6 22 [c6] = some y6 := t6
  replace t7 : DataW.trod enc Tryz.prog w 0 (fun _ => true) true n7 3 [c7] = some y7 := t7
  replace t8 : DataW.trod enc Tryz.prog w 0 (fun _ => true) true n8 33 [c8] = some y8 := t8
  replace t9 : DataW.trod enc Tryz.prog w 0 (fun _ => true) true n9 22 [c9] = some y9 := t9
  replace t10 : DataW.trod enc Tryz.prog w 0 (fun _ => true) true n10 22 [c10] = some y10 := t10
  replace t11 : DataW.trod enc Tryz.prog w 0 (fun _ => true) true n11 22 [c11] = some y11 := t11
  replace t12 : DataW.trod enc Tryz.prog w 0 (fun _ => true) true n12 22 [c12] = some y12 := t12
  replace t13 : DataW.trod enc Tryz.prog w 0 (fun _ => true) true n13 22 [c13] = some y13 := t13
  replace t14 : DataW.trod enc Tryz.prog w 0 (fun _ => true) true n14 22 [c14] = some y14 := t14
  replace t15 : DataW.trod enc Tryz.prog w 0 (fun _ => true) true n15 22 [c15] = some y15 := t15
  replace t16 : DataW.trod enc Tryz.prog w 0 (fun _ => true) true n16 22 [c16] = some y16 := t16
  replace t17 : DataW.trod enc Tryz.prog w 0 (fun _ => true) true n17 9 [c17] = some y17 := t17
  replace t18 : DataW.trod enc Tryz.prog w 0 (fun _ => true) true n18 9 [c18] = some y18 := t18
  replace t19 : DataW.trod enc Tryz.prog w 0 (fun _ => true) true n19 9 [c19] = some y19 := t19
  obtain ⟨z0, e0, _, w0⟩ := DataW.trod_int Tryz.underlying3 t0
  obtain ⟨z1, e1, _, w1⟩ := DataW.trod_int Tryz.underlying3 t1
  obtain ⟨z2, e2, _, w2⟩ := DataW.trod_int Tryz.underlying3 t2
  obtain ⟨z3, e3, _, w3⟩ := DataW.trod_int Tryz.underlying22 t3
  obtain ⟨z4, e4, _, w4⟩ := DataW.trod_int Tryz.underlying22 t4
  obtain ⟨z5, e5, _, w5⟩ := DataW.trod_int Tryz.underlying22 t5
  obtain ⟨z6, e6, _, w6⟩ := DataW.trod_int Tryz.underlying22 t6
  obtain ⟨z7, e7, _, w7⟩ := DataW.trod_int Tryz.underlying3 t7
  obtain ⟨z8, e8, _, w8⟩ := DataW.trod_int Tryz.underlying33 t8
  obtain ⟨z9, e9, _, w9⟩ := DataW.trod_int Tryz.underlying22 t9
  obtain ⟨z10, e10, _, w10⟩ := DataW.trod_int Tryz.underlying22 t10
  obtain ⟨z11, e11, _, w11⟩ := DataW.trod_int Tryz.underlying22 t11
  obtain ⟨z12, e12, _, w12⟩ := DataW.trod_int Tryz.underlying22 t12
  obtain ⟨z13, e13, _, w13⟩ := DataW.trod_int Tryz.underlying22 t13
  obtain ⟨z14, e14, _, w14⟩ := DataW.trod_int Tryz.underlying22 t14
  obtain ⟨z15, e15, _, w15⟩ := DataW.trod_int Tryz.underlying22 t15
  obtain ⟨z16, e16, _, w16⟩ := DataW.trod_int Tryz.underlying22 t16
  obtain ⟨z17, e17, _, w17⟩ := DataW.trod_string Tryz.underlying9 t17
  obtain ⟨z18, e18, _, w18⟩ := DataW.trod_string Tryz.underlying9 t18
  obtain ⟨z19, e19, _, w19⟩ := DataW.trod_string Tryz.underlying9 t19
  injection e0 with e0 _; injection e1 with e1 _; injection e2 with e2 _; injection e3 with e3 _; injection e4 with e4 _; injection e5 with e5 _; injection e6 with e6 _; injection e7 with e7 _; injection e8 with e8 _; injection e9 with e9 _; injection e10 with e10 _; injection e11 with e11 _; injection e12 with e12 _; injection e13 with e13 _; injection e14 with e14 _; injection e15 with e15 _; injection e16 with e16 _; injection e17 with e17 _; injection e18 with e18 _; injection e19 with e19 _
  subst e0; subst e1; subst e2; subst e3; subst e4; subst e5; subst e6; subst e7; subst e8; subst e9; subst e10; subst e11; subst e12; subst e13; subst e14; subst e15; subst e16; subst e17; subst e18; subst e19
  exact ⟨⟨z0, z1, z2, z3, z4, z5, z6, z7, z8, z9, z10, z11, z12, z13, z14, z15, z16, z17, z18, z19⟩, rfl, i_range w0, i_range w1, i_range w2, u_range w3, u_range w4, u_range w5, u_range w6, i_range w7, i_range w8, u_range w9, u_range w10, u_range w11, u_range w12, u_range w13, u_range w14, u_range w15, u_range w16⟩
theorem choose_in {α : Type} [Inhabited α] {p : Nat → α → Prop} {n : Nat} (h : ∀ i, i < n → ∃ x, p i x) : ∃ f : Nat → α, ∀ i, i < n → p i (f i) :=
  ⟨fun i => if hi : i < n then (h i hi).choose else default, fun i hi => by simp only [hi, dif_pos]; exact (h i hi).choose_spec⟩
theorem open_list {α : Type} [Inhabited α] {en : α → List Value} {k : Nat} {t e : TypeId} {Ok : α → Prop} (ht : Tryz.prog.underlying t = some (.slice e)) (hC : Tryz.prog.cellsOf e = k) (hpos : 0 < k) (hlen : ∀ x, (en x).length = k)
    (hel : ∀ cs n y, cs.length = k → DataW.trod enc Tryz.prog w 0 (fun _ => true) true n e cs = some y → ∃ a, cs = en a ∧ Ok a) {fuel : Nat} {cs : List Value} {x : DataW H × List MemPlace} (h : DataW.trod enc Tryz.prog w 0 (fun _ => true) true fuel t cs = some x) :
    ∃ (A : Option Addr) (c : Nat) (l : List α), cs = [.slice A (List.length l) c] ∧ Els en k w A l ∧ l.length ≤ c ∧ ∀ x ∈ l, Ok x := by
  rcases open_rows (k := k) ht hC hpos h with h0 | ⟨A, len, cap, hcs, ⟨hm, hcap⟩, hz⟩
  · exact ⟨none, 0, [], h0, .inl rfl, by simp, by simp⟩
  · rw [hcs]
    rcases hz with rfl | ⟨g, o, rfl, hg, hall⟩
    · exact ⟨A, cap, [], rfl, .inl rfl, by simp, by simp⟩
    have each : ∀ i, i < len → ∃ x : α, (∀ j v, (en x)[j]? = some v → w.cell? ⟨g, o + i * k + j, none⟩ = some v) ∧ Ok x := by
      intro i hi
      obtain ⟨cs', n, y, hl, hc, ht⟩ := hall i hi
      obtain ⟨a, rfl, ha⟩ := hel _ _ _ hl ht
      exact ⟨a, hc, ha⟩
    obtain ⟨f, hf'⟩ := choose_in each
    refine ⟨_, cap, (List.range len).map f, by simp, .inr ⟨g, o, rfl, hg, fun j hj i v hv => ?_⟩, by rw [List.length_map, List.length_range]; exact hcap, ?_⟩
    · have e : ((List.range len).map f)[j] = f j := by simp
      rw [e] at hv
      exact (hf' j (by simpa using hj)).1 i v hv
    · intro x hx
      simp only [List.mem_map, List.mem_range] at hx
      obtain ⟨i, hi, rfl⟩ := hx
      exact (hf' i hi).2
instance : Inhabited Hol := ⟨⟨0, 0⟩⟩
instance : Inhabited Nd := ⟨⟨0, 0, [], false, 0⟩⟩
instance : Inhabited Opn := ⟨⟨0, 0, 0, 0, 0⟩⟩
instance : Inhabited Lv := ⟨⟨⟨0, 0, 0, 0, false, false, []⟩, none, 0⟩⟩
instance : Inhabited Wk := ⟨⟨0, 0, 0, 0, 0, 0, 0, []⟩⟩
instance : Inhabited Sea := ⟨⟨0, ⟨0, 0, 0, 0, 0, 0, 0, 0, 0, 0, 0, 0, 0, 0, 0, 0, 0, ⟨#[]⟩, ⟨#[]⟩, ⟨#[]⟩⟩⟩⟩
theorem open_hol {l : List Value} {fuel : Nat} {x : DataW H × List MemPlace} (hsz : l.length = 2) (hf : DataW.trod enc Tryz.prog w 0 (fun _ => true) true fuel 91 l = some x) : ∃ a : Hol, l = holE a ∧ a.Fit := by
  obtain ⟨c0, c1, rfl⟩ : ∃ c0 c1, l = [c0, c1] := by
    match l, hsz with
    | [c0, c1], _ => exact ⟨c0, c1, rfl⟩
  obtain ⟨n0, y0, t0⟩ := open_field Tryz.underlying91 hf 0 _ rfl 0 1 22 rfl rfl (by kernel_rfl)
  obtain ⟨n1, y1, t1⟩ := open_field Tryz.underlying91 hf 1 _ rfl 1 1 22 rfl rfl (by kernel_rfl)
  replace t0 : DataW.trod enc Tryz.prog w 0 (fun _ => true) true n0 22 [c0] = some y0 := t0
  replace t1 : DataW.trod enc Tryz.prog w 0 (fun _ => true) true n1 22 [c1] = some y1 := t1
  obtain ⟨z0, e0, _, w0⟩ := DataW.trod_int Tryz.underlying22 t0
  obtain ⟨z1, e1, _, w1⟩ := DataW.trod_int Tryz.underlying22 t1
  injection e0 with e0 _
  subst e0
  injection e1 with e1 _
  subst e1
  exact ⟨⟨z0, z1⟩, rfl, u_range w0, u_range w1⟩
theorem open_nd {l : List Value} {fuel : Nat} {x : DataW H × List MemPlace} (hsz : l.length = 5) (hf : DataW.trod enc Tryz.prog w 0 (fun _ => true) true fuel 42 l = some x) : ∃ a : Nd, l = ndE a ∧ a.Fit := by
  obtain ⟨c0, c1, c2, c3, c4, rfl⟩ : ∃ c0 c1 c2 c3 c4, l = [c0, c1, c2, c3, c4] := by
    match l, hsz with
    | [c0, c1, c2, c3, c4], _ => exact ⟨c0, c1, c2, c3, c4, rfl⟩
  obtain ⟨n0, y0, t0⟩ := open_field Tryz.underlying42 hf 0 _ rfl 0 1 22 rfl rfl (by kernel_rfl)
  obtain ⟨n1, y1, t1⟩ := open_field Tryz.underlying42 hf 1 _ rfl 1 1 22 rfl rfl (by kernel_rfl)
  obtain ⟨n2, y2, t2⟩ := open_field Tryz.underlying42 hf 2 _ rfl 2 1 9 rfl rfl (by kernel_rfl)
  obtain ⟨n3, y3, t3⟩ := open_field Tryz.underlying42 hf 3 _ rfl 3 1 4 rfl rfl (by kernel_rfl)
  obtain ⟨n4, y4, t4⟩ := open_field Tryz.underlying42 hf 4 _ rfl 4 1 22 rfl rfl (by kernel_rfl)
  replace t0 : DataW.trod enc Tryz.prog w 0 (fun _ => true) true n0 22 [c0] = some y0 := t0
  replace t1 : DataW.trod enc Tryz.prog w 0 (fun _ => true) true n1 22 [c1] = some y1 := t1
  replace t2 : DataW.trod enc Tryz.prog w 0 (fun _ => true) true n2 9 [c2] = some y2 := t2
  replace t3 : DataW.trod enc Tryz.prog w 0 (fun _ => true) true n3 4 [c3] = some y3 := t3
  replace t4 : DataW.trod enc Tryz.prog w 0 (fun _ => true) true n4 22 [c4] = some y4 := t4
  obtain ⟨z0, e0, _, w0⟩ := DataW.trod_int Tryz.underlying22 t0
  obtain ⟨z1, e1, _, w1⟩ := DataW.trod_int Tryz.underlying22 t1
  obtain ⟨z2, e2, _, w2⟩ := DataW.trod_string Tryz.underlying9 t2
  obtain ⟨z3, e3, _⟩ := DataW.trod_bool Tryz.underlying4 t3
  obtain ⟨z4, e4, _, w4⟩ := DataW.trod_int Tryz.underlying22 t4
  injection e0 with e0 _
  subst e0
  injection e1 with e1 _
  subst e1
  injection e2 with e2 _
  subst e2
  injection e3 with e3 _
  subst e3
  injection e4 with e4 _
  subst e4
  exact ⟨⟨z0, z1, z2.data.toList, z3, z4⟩, by simp only [ndE, strOf_toList], u_range w0, u_range w1, u_range w4⟩
theorem open_opn {l : List Value} {fuel : Nat} {x : DataW H × List MemPlace} (hsz : l.length = 5) (hf : DataW.trod enc Tryz.prog w 0 (fun _ => true) true fuel 61 l = some x) : ∃ a : Opn, l = opE a ∧ a.Fit := by
  obtain ⟨c0, c1, c2, c3, c4, rfl⟩ : ∃ c0 c1 c2 c3 c4, l = [c0, c1, c2, c3, c4] := by
    match l, hsz with
    | [c0, c1, c2, c3, c4], _ => exact ⟨c0, c1, c2, c3, c4, rfl⟩
  obtain ⟨n0, y0, t0⟩ := open_field Tryz.underlying61 hf 0 _ rfl 0 1 22 rfl rfl (by kernel_rfl)
  obtain ⟨n1, y1, t1⟩ := open_field Tryz.underlying61 hf 1 _ rfl 1 1 22 rfl rfl (by kernel_rfl)
  obtain ⟨n2, y2, t2⟩ := open_field Tryz.underlying61 hf 2 _ rfl 2 1 22 rfl rfl (by kernel_rfl)
  obtain ⟨n3, y3, t3⟩ := open_field Tryz.underlying61 hf 3 _ rfl 3 1 22 rfl rfl (by kernel_rfl)
  obtain ⟨n4, y4, t4⟩ := open_field Tryz.underlying61 hf 4 _ rfl 4 1 22 rfl rfl (by kernel_rfl)
  replace t0 : DataW.trod enc Tryz.prog w 0 (fun _ => true) true n0 22 [c0] = some y0 := t0
  replace t1 : DataW.trod enc Tryz.prog w 0 (fun _ => true) true n1 22 [c1] = some y1 := t1
  replace t2 : DataW.trod enc Tryz.prog w 0 (fun _ => true) true n2 22 [c2] = some y2 := t2
  replace t3 : DataW.trod enc Tryz.prog w 0 (fun _ => true) true n3 22 [c3] = some y3 := t3
  replace t4 : DataW.trod enc Tryz.prog w 0 (fun _ => true) true n4 22 [c4] = some y4 := t4
  obtain ⟨z0, e0, _, w0⟩ := DataW.trod_int Tryz.underlying22 t0
  obtain ⟨z1, e1, _, w1⟩ := DataW.trod_int Tryz.underlying22 t1
  obtain ⟨z2, e2, _, w2⟩ := DataW.trod_int Tryz.underlying22 t2
  obtain ⟨z3, e3, _, w3⟩ := DataW.trod_int Tryz.underlying22 t3
  obtain ⟨z4, e4, _, w4⟩ := DataW.trod_int Tryz.underlying22 t4
  injection e0 with e0 _
  subst e0
  injection e1 with e1 _
  subst e1
  injection e2 with e2 _
  subst e2
  injection e3 with e3 _
  subst e3
  injection e4 with e4 _
  subst e4
  exact by
    have h4 := u_range w4
    exact ⟨⟨z0, z1, z2, z3, z4.toNat⟩, by simp only [opE]; rw [Int.toNat_of_nonneg h4.1], u_range w0, u_range w1, u_range w2, u_range w3, h4.lt⟩
theorem open_lock {l : List Value} {fuel : Nat} {x : DataW H × List MemPlace} (hsz : l.length = 7) (hf : DataW.trod enc Tryz.prog w 0 (fun _ => true) true fuel 45 l = some x) : ∃ a : Lv, l = lvE a ∧ LvOk w a ∧ a.L.Fit := by
  obtain ⟨c0, c1, c2, c3, c4, c5, c6, rfl⟩ : ∃ c0 c1 c2 c3 c4 c5 c6, l = [c0, c1, c2, c3, c4, c5, c6] := by
    match l, hsz with
    | [c0, c1, c2, c3, c4, c5, c6], _ => exact ⟨c0, c1, c2, c3, c4, c5, c6, rfl⟩
  obtain ⟨n0, y0, t0⟩ := open_field Tryz.underlying45 hf 0 _ rfl 0 1 22 rfl rfl (by kernel_rfl)
  obtain ⟨n1, y1, t1⟩ := open_field Tryz.underlying45 hf 1 _ rfl 1 1 22 rfl rfl (by kernel_rfl)
  obtain ⟨n2, y2, t2⟩ := open_field Tryz.underlying45 hf 2 _ rfl 2 1 22 rfl rfl (by kernel_rfl)
  obtain ⟨n3, y3, t3⟩ := open_field Tryz.underlying45 hf 3 _ rfl 3 1 22 rfl rfl (by kernel_rfl)
  obtain ⟨n4, y4, t4⟩ := open_field Tryz.underlying45 hf 4 _ rfl 4 1 4 rfl rfl (by kernel_rfl)
  obtain ⟨n5, y5, t5⟩ := open_field Tryz.underlying45 hf 5 _ rfl 5 1 4 rfl rfl (by kernel_rfl)
  obtain ⟨n6, y6, t6⟩ := open_field Tryz.underlying45 hf 6 _ rfl 6 1 43 rfl rfl (by kernel_rfl)
  replace t0 : DataW.trod enc Tryz.prog w 0 (fun _ => true) true n0 22 [c0] = some y0 := t0
  replace t1 : DataW.trod enc Tryz.prog w 0 (fun _ => true) true n1 22 [c1] = some y1 := t1
  replace t2 : DataW.trod enc Tryz.prog w 0 (fun _ => true) true n2 22 [c2] = some y2 := t2
  replace t3 : DataW.trod enc Tryz.prog w 0 (fun _ => true) true n3 22 [c3] = some y3 := t3
  replace t4 : DataW.trod enc Tryz.prog w 0 (fun _ => true) true n4 4 [c4] = some y4 := t4
  replace t5 : DataW.trod enc Tryz.prog w 0 (fun _ => true) true n5 4 [c5] = some y5 := t5
  replace t6 : DataW.trod enc Tryz.prog w 0 (fun _ => true) true n6 43 [c6] = some y6 := t6
  obtain ⟨z0, e0, _, w0⟩ := DataW.trod_int Tryz.underlying22 t0
  obtain ⟨z1, e1, _, w1⟩ := DataW.trod_int Tryz.underlying22 t1
  obtain ⟨z2, e2, _, w2⟩ := DataW.trod_int Tryz.underlying22 t2
  obtain ⟨z3, e3, _, w3⟩ := DataW.trod_int Tryz.underlying22 t3
  obtain ⟨z4, e4, _⟩ := DataW.trod_bool Tryz.underlying4 t4
  obtain ⟨z5, e5, _⟩ := DataW.trod_bool Tryz.underlying4 t5
  obtain ⟨A6, k6, l6, e6, els6, cap6, ok6⟩ := open_list Tryz.underlying43 (by kernel_rfl) (by decide) holE_length (fun cs n y hc ht => open_hol hc ht) t6
  injection e0 with e0 _
  subst e0
  injection e1 with e1 _
  subst e1
  injection e2 with e2 _
  subst e2
  injection e3 with e3 _
  subst e3
  injection e4 with e4 _
  subst e4
  injection e5 with e5 _
  subst e5
  injection e6 with e6 _
  subst e6
  exact ⟨⟨⟨z0, z1, z2, z3, z4, z5, l6⟩, A6, k6⟩, rfl, ⟨els6, cap6⟩, u_range w0, u_range w1, u_range w2, u_range w3, ok6⟩
theorem open_work {l : List Value} {fuel : Nat} {x : DataW H × List MemPlace} (hsz : l.length = 8) (hf : DataW.trod enc Tryz.prog w 0 (fun _ => true) true fuel 50 l = some x) : ∃ a : Wk, l = wkE a ∧ a.Fit := by
  obtain ⟨c0, c1, c2, c3, c4, c5, c6, c7, rfl⟩ : ∃ c0 c1 c2 c3 c4 c5 c6 c7, l = [c0, c1, c2, c3, c4, c5, c6, c7] := by
    match l, hsz with
    | [c0, c1, c2, c3, c4, c5, c6, c7], _ => exact ⟨c0, c1, c2, c3, c4, c5, c6, c7, rfl⟩
  obtain ⟨n0, y0, t0⟩ := open_field Tryz.underlying50 hf 0 _ rfl 0 1 22 rfl rfl (by kernel_rfl)
  obtain ⟨n1, y1, t1⟩ := open_field Tryz.underlying50 hf 1 _ rfl 1 1 22 rfl rfl (by kernel_rfl)
  obtain ⟨n2, y2, t2⟩ := open_field Tryz.underlying50 hf 2 _ rfl 2 1 22 rfl rfl (by kernel_rfl)
  obtain ⟨n3, y3, t3⟩ := open_field Tryz.underlying50 hf 3 _ rfl 3 1 22 rfl rfl (by kernel_rfl)
  obtain ⟨n4, y4, t4⟩ := open_field Tryz.underlying50 hf 4 _ rfl 4 1 3 rfl rfl (by kernel_rfl)
  obtain ⟨n5, y5, t5⟩ := open_field Tryz.underlying50 hf 5 _ rfl 5 1 22 rfl rfl (by kernel_rfl)
  obtain ⟨n6, y6, t6⟩ := open_field Tryz.underlying50 hf 6 _ rfl 6 1 22 rfl rfl (by kernel_rfl)
  obtain ⟨n7, y7, t7⟩ := open_field Tryz.underlying50 hf 7 _ rfl 7 1 9 rfl rfl (by kernel_rfl)
  replace t0 : DataW.trod enc Tryz.prog w 0 (fun _ => true) true n0 22 [c0] = some y0 := t0
  replace t1 : DataW.trod enc Tryz.prog w 0 (fun _ => true) true n1 22 [c1] = some y1 := t1
  replace t2 : DataW.trod enc Tryz.prog w 0 (fun _ => true) true n2 22 [c2] = some y2 := t2
  replace t3 : DataW.trod enc Tryz.prog w 0 (fun _ => true) true n3 22 [c3] = some y3 := t3
  replace t4 : DataW.trod enc Tryz.prog w 0 (fun _ => true) true n4 3 [c4] = some y4 := t4
  replace t5 : DataW.trod enc Tryz.prog w 0 (fun _ => true) true n5 22 [c5] = some y5 := t5
  replace t6 : DataW.trod enc Tryz.prog w 0 (fun _ => true) true n6 22 [c6] = some y6 := t6
  replace t7 : DataW.trod enc Tryz.prog w 0 (fun _ => true) true n7 9 [c7] = some y7 := t7
  obtain ⟨z0, e0, _, w0⟩ := DataW.trod_int Tryz.underlying22 t0
  obtain ⟨z1, e1, _, w1⟩ := DataW.trod_int Tryz.underlying22 t1
  obtain ⟨z2, e2, _, w2⟩ := DataW.trod_int Tryz.underlying22 t2
  obtain ⟨z3, e3, _, w3⟩ := DataW.trod_int Tryz.underlying22 t3
  obtain ⟨z4, e4, _, w4⟩ := DataW.trod_int Tryz.underlying3 t4
  obtain ⟨z5, e5, _, w5⟩ := DataW.trod_int Tryz.underlying22 t5
  obtain ⟨z6, e6, _, w6⟩ := DataW.trod_int Tryz.underlying22 t6
  obtain ⟨z7, e7, _, w7⟩ := DataW.trod_string Tryz.underlying9 t7
  injection e0 with e0 _
  subst e0
  injection e1 with e1 _
  subst e1
  injection e2 with e2 _
  subst e2
  injection e3 with e3 _
  subst e3
  injection e4 with e4 _
  subst e4
  injection e5 with e5 _
  subst e5
  injection e6 with e6 _
  subst e6
  injection e7 with e7 _
  subst e7
  exact ⟨⟨z0, z1, z2, z3, z4, z5, z6, z7.data.toList⟩, by simp only [wkE, strOf_toList], u_range w0, u_range w1, u_range w2, u_range w3, i_range w4, u_range w5, u_range w6⟩
theorem open_seat {l : List Value} {fuel : Nat} {x : DataW H × List MemPlace} (hsz : l.length = 21) (hf : DataW.trod enc Tryz.prog w 0 (fun _ => true) true fuel 56 l = some x) : ∃ a : Sea, l = seaE a ∧ a.Fit := by
  obtain ⟨c0, r, rfl, hr⟩ : ∃ c0 r, l = c0 :: r ∧ r.length = 20 := by
    match l, hsz with
    | c0 :: r, h => exact ⟨c0, r, rfl, by simpa using h⟩
  obtain ⟨n0, y0, t0⟩ := open_field Tryz.underlying56 hf 0 _ rfl 0 1 22 rfl rfl (by kernel_rfl)
  obtain ⟨n3, y3, t3⟩ := open_field Tryz.underlying56 hf 1 _ rfl 1 20 54 rfl rfl (by kernel_rfl)
  replace t0 : DataW.trod enc Tryz.prog w 0 (fun _ => true) true n0 22 [c0] = some y0 := t0
  replace t3 : DataW.trod enc Tryz.prog w 0 (fun _ => true) true n3 54 r = some y3 := by
    have h : ((c0 :: r).drop 1).take 20 = r := by
      rw [List.drop_succ_cons, List.drop_zero, List.take_of_length_le (by omega)]
    rw [h] at t3
    exact t3
  obtain ⟨z0, e0, _, w0⟩ := DataW.trod_int Tryz.underlying22 t0
  obtain ⟨p, rfl, hp⟩ := open_pkc hr t3
  injection e0 with e0 _
  subst e0
  exact ⟨⟨z0, p⟩, rfl, u_range w0, hp⟩
set_option maxHeartbeats 1000000 in
/-- A state. -/
theorem open_state {v : Value} {d : DataW H} {ps : List MemPlace} {r : Reach} {b0 : Nat} (hv : Value.okWide Tryz.prog w r b0 29 v) (h : DataW.Trod enc Tryz.prog w 0 (fun _ => true) true 29 v d ps) : ∃ (s : Sta) (p : Sp), v = staV s p ∧ RawM w s p := by
  obtain ⟨cs, rfl, hsz⟩ := okWide_struct Tryz.underlying29 hv
  rw [show Tryz.prog.cellsOf 29 = 7 by kernel_rfl] at hsz
  obtain ⟨fuel, hf⟩ := h
  obtain ⟨c0, c1, c2, c3, c4, c5, c6, rfl⟩ : ∃ c0 c1 c2 c3 c4 c5 c6, cs = #[c0, c1, c2, c3, c4, c5, c6] := by
    rcases cs with ⟨l⟩
    match l, hsz with
    | [c0, c1, c2, c3, c4, c5, c6], _ => exact ⟨c0, c1, c2, c3, c4, c5, c6, rfl⟩
  obtain ⟨n0, y0, t0⟩ := open_field Tryz.underlying29 hf 0 _ rfl 0 1 22 rfl rfl (by kernel_rfl)
  obtain ⟨n1, y1, t1⟩ := open_field Tryz.underlying29 hf 1 _ rfl 1 1 22 rfl rfl (by kernel_rfl)
  obtain ⟨n2, y2, t2⟩ := open_field Tryz.underlying29 hf 2 _ rfl 2 1 23 rfl rfl (by kernel_rfl)
  obtain ⟨n3, y3, t3⟩ := open_field Tryz.underlying29 hf 3 _ rfl 3 1 24 rfl rfl (by kernel_rfl)
  obtain ⟨n4, y4, t4⟩ := open_field Tryz.underlying29 hf 4 _ rfl 4 1 25 rfl rfl (by kernel_rfl)
  obtain ⟨n5, y5, t5⟩ := open_field Tryz.underlying29 hf 5 _ rfl 5 1 26 rfl rfl (by kernel_rfl)
  obtain ⟨n6, y6, t6⟩ := open_field Tryz.underlying29 hf 6 _ rfl 6 1 27 rfl rfl (by kernel_rfl)
  replace t0 : DataW.trod enc Tryz.prog w 0 (fun _ => true) true n0 22 [c0] = some y0 := t0
  replace t1 : DataW.trod enc Tryz.prog w 0 (fun _ => true) true n1 22 [c1] = some y1 := t1
  replace t2 : DataW.trod enc Tryz.prog w 0 (fun _ => true) true n2 23 [c2] = some y2 := t2
  replace t3 : DataW.trod enc Tryz.prog w 0 (fun _ => true) true n3 24 [c3] = some y3 := t3
  replace t4 : DataW.trod enc Tryz.prog w 0 (fun _ => true) true n4 25 [c4] = some y4 := t4
  replace t5 : DataW.trod enc Tryz.prog w 0 (fun _ => true) true n5 26 [c5] = some y5 := t5
  replace t6 : DataW.trod enc Tryz.prog w 0 (fun _ => true) true n6 27 [c6] = some y6 := t6
  obtain ⟨z0, e0, _, w0⟩ := DataW.trod_int Tryz.underlying22 t0
  obtain ⟨z1, e1, _, w1⟩ := DataW.trod_int Tryz.underlying22 t1
  obtain ⟨A2, k2, l2, e2, els2, cap2, ok2⟩ := open_list Tryz.underlying23 (by kernel_rfl) (by decide) ndE_length (fun cs n y hc ht => open_nd hc ht) t2
  obtain ⟨A3, k3, l3, e3, els3, cap3, ok3⟩ := open_list Tryz.underlying24 (by kernel_rfl) (by decide) opE_length (fun cs n y hc ht => open_opn hc ht) t3
  obtain ⟨A4, k4, l4, e4, els4, cap4, ok4⟩ := open_list Tryz.underlying25 (by kernel_rfl) (by decide) lvE_length (fun cs n y hc ht => open_lock hc ht) t4
  obtain ⟨A5, k5, l5, e5, els5, cap5, ok5⟩ := open_list Tryz.underlying26 (by kernel_rfl) (by decide) wkE_length (fun cs n y hc ht => open_work hc ht) t5
  obtain ⟨A6, k6, l6, e6, els6, cap6, ok6⟩ := open_list Tryz.underlying27 (by kernel_rfl) (by decide) seaE_length (fun cs n y hc ht => open_seat hc ht) t6
  injection e0 with e0 _
  subst e0
  injection e1 with e1 _
  subst e1
  injection e2 with e2 _
  subst e2
  injection e3 with e3 _
  subst e3
  injection e4 with e4 _
  subst e4
  injection e5 with e5 _
  subst e5
  injection e6 with e6 _
  subst e6
  have hmap : (l4.map (·.L)).length = l4.length := List.length_map _
  refine ⟨⟨z0, z1, l2, l3, l4.map (·.L), l5, l6⟩, ⟨A2, k2, A3, k3, A4, k4, l4, A5, k5, A6, k6⟩, by simp only [staV, hmap], els2, cap2, els3, cap3, rfl, els4, fun x hx => (ok4 x hx).1, by simp only [hmap]; exact cap4, els5, cap5, els6, cap6, u_range w0, u_range w1, ok2, ok3, ?_, ok5, ok6⟩
  intro x hx
  obtain ⟨y, hy, rfl⟩ := List.mem_map.1 hx
  exact (ok4 y hy).2
end
end Go.Proofs.YtalkhhjfplahkaaGreat
