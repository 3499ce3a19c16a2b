/- What is asked of a server in a run: a list of acts that comes in. -/
import Derived.Test.YtmelaiefbpdifaaGreatDoorGAw13
namespace Go.Proofs.YtmelaiefbpdifaaGreatDoor.Srv
open Go.RowKit Go.Maps Go.WideShapes Go.ChangeShapes Go.Deep
open Pgs (Pg)
set_option maxRecDepth 100000
structure Ac where
 kind : Int
 n : Int
 keep : Int
 p : Pk
def acE (x : Ac) : List Value := [.int .i64 x.kind, .int .i64 x.n, .int .u64 x.keep] ++ (pkA x.p).toList
def Ac.Ok (x : Ac) : Prop := x.p.Ok ∧ I x.kind ∧ I x.n ∧ 0 ≤ x.keep ∧ x.keep ≤ 18446744073709551615
def okayA (l : List Ac) : Prop := ∀ x ∈ l, x.Ok
theorem q_range {z : Int} (h : (Lit.int .u64 z).wf = true) : 0 ≤ z ∧ z ≤ 18446744073709551615 := by
 have e1 : IntKind.u64.min = 0 := by decide +kernel
 have e2 : IntKind.u64.max = 18446744073709551615 := by decide +kernel
 simp only [Lit.wf, Bool.and_eq_true, decide_eq_true_eq] at h
 rw [e1, e2] at h
 exact h
section
variable {H : Type} {enc : TypeId × Value → H} {P : Program} {w : World} {base : Nat} {spare : Nat → Bool} {held : Bool}
theorem open_rows {t e : TypeId} {k fuel : Nat} {cs : List Value} {x : DataW H × List MemPlace} (ht : P.underlying t = some (.slice e)) (hC : P.cellsOf e = k) (hpos : 0 < k) (h : DataW.trod enc P w base spare held fuel t cs = some x) :
  cs = [.slice none 0 0] ∨ ∃ (A : Option Addr) (len cap : Nat), cs = [.slice A len cap] ∧ (len ≤ maxLen ∧ len ≤ cap) ∧
   (len = 0 ∨ ∃ g o, A = some ⟨g, o, none⟩ ∧ g < w.heap.size ∧ ∀ i, i < len → ∃ (cs' : List Value) (n : Nat) (y : DataW H × List MemPlace), cs'.length = k ∧ (∀ j v, cs'[j]? = some v → w.cell? ⟨g, o + i * k + j, none⟩ = some v) ∧ DataW.trod enc P w base spare held n e cs' = some y) := by
 rcases open_slice ht h with h0 | ⟨a, len, cap, m, n, D, Pl, hcs, hb, hl, hm, hmm, _, hi⟩
 ·exact .inl h0.1
 right
 refine ⟨some a, len, cap, hcs, ⟨by omega, hl⟩, ?_⟩
 by_cases hz : len = 0
 ·exact .inl hz
 right
 have hlm : ∀ i, i < len → i < m := fun i hi' => by rw [hmm]; split <;> omega
 have cell0 : ∃ v, w.cell? a = some v := by
  obtain ⟨cs', hc, _⟩ := hi 0 (hlm 0 (by omega))
  obtain ⟨_, hcl, hat⟩ := World.cells?_some hc
  have := hat 0 (by omega)
  rw [Nat.zero_mul] at this
  have hadd : (a.add 0).add 0 = a := by simp [Addr.add]
  rw [hadd] at this
  exact ⟨_, this.trans (List.getElem?_eq_getElem (by omega))⟩
 obtain ⟨v0, hv0⟩ := cell0
 have hap := addr_plain hv0
 refine ⟨a.block, a.off, by rw [← hap], World.block_lt_of_cell? w a hv0, fun i hil => ?_⟩
 obtain ⟨cs', hc, ht'⟩ := hi i (hlm i hil)
 obtain ⟨_, hcl, hat⟩ := World.cells?_some hc
 refine ⟨cs', _, _, hcl.trans hC, fun j v hv => ?_, ht'⟩
 have hj : j < cs'.length := (List.getElem?_eq_some_iff.1 hv).1
 have hcell := hat j (by omega)
 rw [hap, addr_add, hC, addr_add] at hcell
 exact hcell.trans hv
end
section
variable {H : Type} {enc : TypeId × Value → H} {w : World}
set_option maxHeartbeats 1000000 in
theorem open_pkc {l : List Value} {fuel : Nat} {x : DataW H × List MemPlace} (hsz : l.length = 20) (hf : DataW.trod enc Tryz.prog w 0 (fun _ => true) true fuel 53 l = some x) : ∃ p : Pk, l = (pkA p).toList ∧ p.Ok := by
 obtain ⟨c0, c1, c2, c3, c4, c5, c6, c7, c8, c9, c10, c11, c12, c13, c14, c15, c16, c17, c18, c19, rfl⟩ : ∃ c0 c1 c2 c3 c4 c5 c6 c7 c8 c9 c10 c11 c12 c13 c14 c15 c16 c17 c18 c19, l = [c0, c1, c2, c3, c4, c5, c6, c7, c8, c9, c10, c11, c12, c13, c14, c15, c16, c17, c18, c19] := by
  match l, hsz with
  | [c0, c1, c2, c3, c4, c5, c6, c7, c8, c9, c10, c11, c12, c13, c14, c15, c16, c17, c18, c19], _ => exact ⟨c0, c1, c2, c3, c4, c5, c6, c7, c8, c9, c10, c11, c12, c13, c14, c15, c16, c17, c18, c19, rfl⟩
 obtain ⟨n0, y0, t0⟩ := open_field Tryz.underlying53 hf 0 _ rfl 0 1 3 rfl rfl (by kernel_rfl)
 obtain ⟨n1, y1, t1⟩ := open_field Tryz.underlying53 hf 1 _ rfl 1 1 3 rfl rfl (by kernel_rfl)
 obtain ⟨n2, y2, t2⟩ := open_field Tryz.underlying53 hf 2 _ rfl 2 1 3 rfl rfl (by kernel_rfl)
 obtain ⟨n3, y3, t3⟩ := open_field Tryz.underlying53 hf 3 _ rfl 3 1 49 rfl rfl (by kernel_rfl)
 obtain ⟨n4, y4, t4⟩ := open_field Tryz.underlying53 hf 4 _ rfl 4 1 49 rfl rfl (by kernel_rfl)
 obtain ⟨n5, y5, t5⟩ := open_field Tryz.underlying53 hf 5 _ rfl 5 1 49 rfl rfl (by kernel_rfl)
 obtain ⟨n6, y6, t6⟩ := open_field Tryz.underlying53 hf 6 _ rfl 6 1 49 rfl rfl (by kernel_rfl)
 obtain ⟨nO, yO, tO⟩ := open_field Tryz.underlying53 hf 7 _ rfl 7 13 51 rfl rfl (by kernel_rfl)
 obtain ⟨n7, y7, t7⟩ := open_field Tryz.underlying51 tO 0 _ rfl 0 1 3 rfl rfl (by kernel_rfl)
 obtain ⟨n8, y8, t8⟩ := open_field Tryz.underlying51 tO 1 _ rfl 1 1 29 rfl rfl (by kernel_rfl)
 obtain ⟨n9, y9, t9⟩ := open_field Tryz.underlying51 tO 2 _ rfl 2 1 49 rfl rfl (by kernel_rfl)
 obtain ⟨n10, y10, t10⟩ := open_field Tryz.underlying51 tO 3 _ rfl 3 1 49 rfl rfl (by kernel_rfl)
 obtain ⟨n11, y11, t11⟩ := open_field Tryz.underlying51 tO 4 _ rfl 4 1 49 rfl rfl (by kernel_rfl)
 obtain ⟨n12, y12, t12⟩ := open_field Tryz.underlying51 tO 5 _ rfl 5 1 49 rfl rfl (by kernel_rfl)
 obtain ⟨n13, y13, t13⟩ := open_field Tryz.underlying51 tO 6 _ rfl 6 1 49 rfl rfl (by kernel_rfl)
 obtain ⟨n14, y14, t14⟩ := open_field Tryz.underlying51 tO 7 _ rfl 7 1 49 rfl rfl (by kernel_rfl)
 obtain ⟨n15, y15, t15⟩ := open_field Tryz.underlying51 tO 8 _ rfl 8 1 49 rfl rfl (by kernel_rfl)
 obtain ⟨n16, y16, t16⟩ := open_field Tryz.underlying51 tO 9 _ rfl 9 1 49 rfl rfl (by kernel_rfl)
 obtain ⟨n17, y17, t17⟩ := open_field Tryz.underlying51 tO 10 _ rfl 10 1 9 rfl rfl (by kernel_rfl)
 obtain ⟨n18, y18, t18⟩ := open_field Tryz.underlying51 tO 11 _ rfl 11 1 9 rfl rfl (by kernel_rfl)
 obtain ⟨n19, y19, t19⟩ := open_field Tryz.underlying51 tO 12 _ rfl 12 1 9 rfl rfl (by kernel_rfl)
 replace t0 : DataW.trod enc Tryz.prog w 0 (fun _ => true) true n0 3 [c0] = some y0 := t0
 replace t1 : DataW.trod enc Tryz.prog w 0 (fun _ => true) true n1 3 [c1] = some y1 := t1
 replace t2 : DataW.trod enc Tryz.prog w 0 (fun _ => true) true n2 3 [c2] = some y2 := t2
 replace t3 : DataW.trod enc Tryz.prog w 0 (fun _ => true) true n3 49 [c3] = some y3 := t3
 replace t4 : DataW.trod enc Tryz.prog w 0 (fun _ => true) true n4 49 [c4] = some y4 := t4
 replace t5 : DataW.trod enc Tryz.prog w 0 (fun _ => true) true n5 49 [c5] = some y5 := t5
 replace t6 : DataW.trod enc Tryz.prog w 0 (fun _ => true) true n6 49 [c6] = some y6 := t6
 replace t7 : DataW.trod enc Tryz.prog w 0 (fun _ => true) true n7 3 [c7] = some y7 := t7
 replace t8 : DataW.trod enc Tryz.prog w 0 (fun _ => true) true n8 29 [c8] = some y8 := t8
 replace t9 : DataW.trod enc Tryz.prog w 0 (fun _ => true) true n9 49 [c9] = some y9 := t9
 replace t10 : DataW.trod enc Tryz.prog w 0 (fun _ => true) true n10 49 [c10] = some y10 := t10
 replace t11 : DataW.trod enc Tryz.prog w 0 (fun _ => true) true n11 49 [c11] = some y11 := t11
 replace t12 : DataW.trod enc Tryz.prog w 0 (fun _ => true) true n12 49 [c12] = some y12 := t12
 replace t13 : DataW.trod enc Tryz.prog w 0 (fun _ => true) true n13 49 [c13] = some y13 := t13
 replace t14 : DataW.trod enc Tryz.prog w 0 (fun _ => true) true n14 49 [c14] = some y14 := t14
 replace t15 : DataW.trod enc Tryz.prog w 0 (fun _ => true) true n15 49 [c15] = some y15 := t15
 replace t16 : DataW.trod enc Tryz.prog w 0 (fun _ => true) true n16 49 [c16] = some y16 := t16
 replace t17 : DataW.trod enc Tryz.prog w 0 (fun _ => true) true n17 9 [c17] = some y17 := t17
 replace t18 : DataW.trod enc Tryz.prog w 0 (fun _ => true) true n18 9 [c18] = some y18 := t18
 replace t19 : DataW.trod enc Tryz.prog w 0 (fun _ => true) true n19 9 [c19] = some y19 := t19
 obtain ⟨z0, e0, _, w0⟩ := DataW.trod_int Tryz.underlying3 t0
 obtain ⟨z1, e1, _, w1⟩ := DataW.trod_int Tryz.underlying3 t1
 obtain ⟨z2, e2, _, w2⟩ := DataW.trod_int Tryz.underlying3 t2
 obtain ⟨z3, e3, _, w3⟩ := DataW.trod_int Tryz.underlying49 t3
 obtain ⟨z4, e4, _, w4⟩ := DataW.trod_int Tryz.underlying49 t4
 obtain ⟨z5, e5, _, w5⟩ := DataW.trod_int Tryz.underlying49 t5
 obtain ⟨z6, e6, _, w6⟩ := DataW.trod_int Tryz.underlying49 t6
 obtain ⟨z7, e7, _, w7⟩ := DataW.trod_int Tryz.underlying3 t7
 obtain ⟨z8, e8, _, w8⟩ := DataW.trod_int Tryz.underlying29 t8
 obtain ⟨z9, e9, _, w9⟩ := DataW.trod_int Tryz.underlying49 t9
 obtain ⟨z10, e10, _, w10⟩ := DataW.trod_int Tryz.underlying49 t10
 obtain ⟨z11, e11, _, w11⟩ := DataW.trod_int Tryz.underlying49 t11
 obtain ⟨z12, e12, _, w12⟩ := DataW.trod_int Tryz.underlying49 t12
 obtain ⟨z13, e13, _, w13⟩ := DataW.trod_int Tryz.underlying49 t13
 obtain ⟨z14, e14, _, w14⟩ := DataW.trod_int Tryz.underlying49 t14
 obtain ⟨z15, e15, _, w15⟩ := DataW.trod_int Tryz.underlying49 t15
 obtain ⟨z16, e16, _, w16⟩ := DataW.trod_int Tryz.underlying49 t16
 obtain ⟨z17, e17, _, w17⟩ := DataW.trod_string Tryz.underlying9 t17
 obtain ⟨z18, e18, _, w18⟩ := DataW.trod_string Tryz.underlying9 t18
 obtain ⟨z19, e19, _, w19⟩ := DataW.trod_string Tryz.underlying9 t19
 injection e0 with e0 _; injection e1 with e1 _; injection e2 with e2 _; injection e3 with e3 _; injection e4 with e4 _; injection e5 with e5 _; injection e6 with e6 _; injection e7 with e7 _; injection e8 with e8 _; injection e9 with e9 _; injection e10 with e10 _; injection e11 with e11 _; injection e12 with e12 _; injection e13 with e13 _; injection e14 with e14 _; injection e15 with e15 _; injection e16 with e16 _; injection e17 with e17 _; injection e18 with e18 _; injection e19 with e19 _
 subst e0; subst e1; subst e2; subst e3; subst e4; subst e5; subst e6; subst e7; subst e8; subst e9; subst e10; subst e11; subst e12; subst e13; subst e14; subst e15; subst e16; subst e17; subst e18; subst e19
 exact ⟨⟨z0, z1, z2, z3, z4, z5, z6, z7, z8, z9, z10, z11, z12, z13, z14, z15, z16, z17, z18, z19⟩, rfl, i_range w0, i_range w1, i_range w2, u_range w3, u_range w4, u_range w5, u_range w6, i_range w7, i_range w8, u_range w9, u_range w10, u_range w11, u_range w12, u_range w13, u_range w14, u_range w15, u_range w16⟩
theorem open_act {l : List Value} {fuel : Nat} {x : DataW H × List MemPlace} (hsz : l.length = 23) (hf : DataW.trod enc Tryz.prog w 0 (fun _ => true) true fuel 55 l = some x) : ∃ a : Ac, l = acE a ∧ a.Ok := by
 obtain ⟨c0, c1, c2, r, rfl, hr⟩ : ∃ c0 c1 c2 r, l = c0 :: c1 :: c2 :: r ∧ r.length = 20 := by
  match l, hsz with
  | c0 :: c1 :: c2 :: r, h => exact ⟨c0, c1, c2, r, rfl, by simpa using h⟩
 obtain ⟨n0, y0, t0⟩ := open_field Tryz.underlying55 hf 0 _ rfl 0 1 3 rfl rfl (by kernel_rfl)
 obtain ⟨n1, y1, t1⟩ := open_field Tryz.underlying55 hf 1 _ rfl 1 1 3 rfl rfl (by kernel_rfl)
 obtain ⟨n2, y2, t2⟩ := open_field Tryz.underlying55 hf 2 _ rfl 2 1 48 rfl rfl (by kernel_rfl)
 obtain ⟨n3, y3, t3⟩ := open_field Tryz.underlying55 hf 3 _ rfl 3 20 53 rfl rfl (by kernel_rfl)
 replace t0 : DataW.trod enc Tryz.prog w 0 (fun _ => true) true n0 3 [c0] = some y0 := t0
 replace t1 : DataW.trod enc Tryz.prog w 0 (fun _ => true) true n1 3 [c1] = some y1 := t1
 replace t2 : DataW.trod enc Tryz.prog w 0 (fun _ => true) true n2 48 [c2] = some y2 := t2
 replace t3 : DataW.trod enc Tryz.prog w 0 (fun _ => true) true n3 53 r = some y3 := by
  have h : ((c0 :: c1 :: c2 :: r).drop 3).take 20 = r := by
   rw [List.drop_succ_cons, List.drop_succ_cons, List.drop_succ_cons, List.drop_zero, List.take_of_length_le (by omega)]
  rw [h] at t3
  exact t3
 obtain ⟨z0, e0, _, w0⟩ := DataW.trod_int Tryz.underlying3 t0
 obtain ⟨z1, e1, _, w1⟩ := DataW.trod_int Tryz.underlying3 t1
 obtain ⟨z2, e2, _, w2⟩ := DataW.trod_int Tryz.underlying48 t2
 obtain ⟨p, rfl, hp⟩ := open_pkc hr t3
 injection e0 with e0 _; injection e1 with e1 _; injection e2 with e2 _
 subst e0; subst e1; subst e2
 exact ⟨⟨z0, z1, z2, p⟩, rfl, hp, i_range w0, i_range w1, q_range w2⟩
theorem choose_ac {p : Nat → Ac → Prop} {n : Nat} (h : ∀ i, i < n → ∃ x, p i x) : ∃ f : Nat → Ac, ∀ i, i < n → p i (f i) :=
 ⟨fun i => if hi : i < n then Classical.choose (h i hi) else ⟨0, 0, 0, zPk⟩, fun i hi => by
  simp only [dif_pos hi]
  exact Classical.choose_spec (h i hi)⟩
theorem open_acs {v : Value} {d : DataW H} {ps : List MemPlace} {r : Reach} {b0 : Nat} (hv : Value.okWide Tryz.prog w r b0 47 v) (h : DataW.Trod enc Tryz.prog w 0 (fun _ => true) true 47 v d ps) :
  ∃ (A : Option Addr) (c : Nat) (l : List Ac), v = .slice A l.length c ∧ Els acE 23 w A l ∧ okayA l ∧ l.length ≤ 9223372036854775807 ∧ l.length ≤ c := by
 obtain ⟨A, len, cap, rfl⟩ := okWide_slice Tryz.underlying47 hv
 obtain ⟨fuel, hf⟩ := h
 have hf : DataW.trod enc Tryz.prog w 0 (fun _ => true) true fuel 47 [.slice A len cap] = some (d, ps) := by simpa [Value.cells] using hf
 rcases open_rows (k := 23) Tryz.underlying47 (by kernel_rfl) (by decide) hf with h0 | ⟨A, len, cap, hcs, ⟨hm, hcap⟩, hz⟩
 ·injection h0 with h0 _
  exact ⟨none, 0, [], h0, .inl rfl, by simp [okayA], by simp, by simp⟩
 ·injection hcs with hcs _
  rw [hcs]
  have hm' : len ≤ 9223372036854775807 := by simp only [maxLen] at hm; omega
  rcases hz with rfl | ⟨g, o, rfl, hg, hall⟩
  ·exact ⟨A, cap, [], rfl, .inl rfl, by simp [okayA], by simp, by simp⟩
  have each : ∀ i, i < len → ∃ x : Ac, (∀ j v, (acE x)[j]? = some v → w.cell? ⟨g, o + i * 23 + j, none⟩ = some v) ∧ x.Ok := by
   intro i hi
   obtain ⟨cs', n, y, hl, hc, ht⟩ := hall i hi
   obtain ⟨a, rfl, ha⟩ := open_act hl ht
   exact ⟨a, hc, ha⟩
  obtain ⟨f, hf'⟩ := choose_ac each
  refine ⟨_, cap, (List.range len).map f, by simp, .inr ⟨g, o, rfl, hg, fun j hj i v hv => ?_⟩, ?_, by rw [List.length_map, List.length_range]; exact hm', by rw [List.length_map, List.length_range]; exact hcap⟩
  ·have e : ((List.range len).map f)[j] = f j := by simp
   rw [e] at hv
   exact (hf' j (by simpa using hj)).1 i v hv
  ·intro x hx
   simp only [List.mem_map, List.mem_range] at hx
   obtain ⟨i, hi, rfl⟩ := hx
   exact (hf' i hi).2
end
end Go.Proofs.YtmelaiefbpdifaaGreatDoor.Srv
