/- What every right program answers; locks, holders, acts that come in. -/
import Derived.Test.YtnmmdnecojgccaaRet12
import Derived.Deep.Slices
import Derived.Deep.Fields
import Derived.ProofKit
import Derived.OpenShut
namespace Go.Proofs.Ytnmmdnecojgccaa
open Go.RowKit Go.WideShapes Go.ChangeShapes Go.Deep
set_option linter.unusedVariables false

theorem choose_lt {α : Type} [Inhabited α] {p : Nat → α → Prop} {n : Nat} (h : ∀ i, i < n → ∃ x, p i x) : ∃ f : Nat → α, ∀ i, i < n → p i (f i) :=
  ⟨fun i => if hi : i < n then (h i hi).choose else default, fun i hi => by simp only [hi, dif_pos]; exact (h i hi).choose_spec⟩
instance : Inhabited Hol := ⟨zeroH⟩
theorem u_range {n : Int} (h : (Lit.int .u32 n).wf = true) : 0 ≤ n ∧ n ≤ 4294967295 := by
  have e1 : IntKind.u32.min = 0 := by decide +kernel
  have e2 : IntKind.u32.max = 4294967295 := by decide +kernel
  simp only [Lit.wf, Bool.and_eq_true, decide_eq_true_eq] at h
  omega
theorem i_range {n : Int} (h : (Lit.int .i64 n).wf = true) : -9223372036854775808 ≤ n ∧ n ≤ 9223372036854775807 := by
  have e1 : IntKind.i64.min = -9223372036854775808 := by decide +kernel
  have e2 : IntKind.i64.max = 9223372036854775807 := by decide +kernel
  simp only [Lit.wf, Bool.and_eq_true, decide_eq_true_eq] at h
  omega
section
variable {H : Type} {enc : TypeId × Value → H} {P : Program} {w : World} {base : Nat} {spare : Nat → Bool} {held : Bool}
/-- A struct by value: each field's cells, read. -/
theorem open_field {t : TypeId} {fs : Array Field} {fuel : Nat} {cs : List Value} {x : DataW H × List MemPlace}
    (he : P.underlying t = some (.struct fs)) (h : DataW.trod enc P w base spare held fuel t cs = some x) (j : Nat) (f : Field) (hj : fs[j]? = some f) (o k : Nat) (ty : TypeId) (hty : f.type = ty) (ho : f.offset = o) (hk : P.cellsOf ty = k) :
    ∃ (n : Nat) (y : DataW H × List MemPlace), DataW.trod enc P w base spare held n ty ((cs.drop o).take k) = some y := by
  subst hty
  obtain ⟨ys, n', _, _, hlen', hyl, hf⟩ := DataW.trod_struct he h
  have h1 := hf j f hj
  rw [ho, hk] at h1
  have hjl : j < ys.length := by
    rw [hyl]
    exact (Array.getElem?_eq_some_iff.1 hj).1
  rw [List.getElem?_eq_getElem hjl] at h1
  exact ⟨n', ys[j], h1⟩
end
section
variable {H : Type} {enc : TypeId × Value → H} {w : World}
set_option maxRecDepth 100000 in
theorem open_hols' {v : Value} {fuel : Nat} {x : DataW H × List MemPlace} (h : DataW.trod enc Try.prog w 0 (fun _ => true) true fuel 23 [v] = some x) : ∃ (A : Option Addr) (c : Nat) (l : List Hol), v = .slice A (List.length l) c ∧ Els holE 2 w A l ∧ l.length ≤ 9223372036854775807 ∧ l.length ≤ c := by
  rcases open_structs Try.underlying23 Try.underlying47 (by kernel_rfl) (by kernel_rfl) (by decide) h with h0 | ⟨A, len, cap, hcs, ⟨hm, hcap⟩, hz⟩
  · injection h0 with h0 _
    exact ⟨none, 0, [], h0, .inl rfl, by simp, by simp⟩
  · injection hcs with hcs _
    subst hcs
    have hm' : len ≤ 9223372036854775807 := by simp only [maxLen] at hm; omega
    rcases hz with rfl | ⟨g, o, rfl, hg, hall⟩
    · exact ⟨A, cap, [], rfl, .inl rfl, by simp, by simp⟩
    have each : ∀ i, i < len → ∃ x : Hol, w.cell? ⟨g, o + i * 2, none⟩ = some (.int .u32 x.client) ∧ w.cell? ⟨g, o + i * 2 + 1, none⟩ = some (.int .u32 x.mode) := by
      intro i hi
      obtain ⟨n0, v0, y0, k0, t0⟩ := hall i hi 0 _ rfl
      obtain ⟨n1, v1, y1, k1, t1⟩ := hall i hi 1 _ rfl
      obtain ⟨z0, e0, _, w0⟩ := DataW.trod_int Try.underlying22 t0
      obtain ⟨z1, e1, _, w1⟩ := DataW.trod_int Try.underlying22 t1
      injection e0 with e0 _; injection e1 with e1 _
      subst e0; subst e1
      refine ⟨⟨z0, z1⟩, ?_, ?_⟩
      · simpa using k0
      · simpa using k1
    obtain ⟨f, hf'⟩ := choose_lt each
    refine ⟨_, cap, (List.range len).map f, by simp, .inr ⟨g, o, rfl, hg, fun j hj i v hv => ?_⟩, by rw [List.length_map, List.length_range]; exact hm', by rw [List.length_map, List.length_range]; exact hcap⟩
    have e : ((List.range len).map f)[j] = f j := by simp
    rw [e] at hv
    obtain ⟨q0, q1⟩ := hf' j (by simpa using hj)
    match i, hv with
    | 0, hv => simp [holE] at hv; subst hv; exact q0
    | 1, hv => simp [holE] at hv; subst hv; exact q1
    | i + 2, hv => simp [holE] at hv
set_option maxHeartbeats 1000000 in
set_option maxRecDepth 100000 in
/-- A lock that comes in. -/
theorem open_lock {v : Value} {d : DataW H} {ps : List MemPlace} {r : Reach} {b0 : Nat} (hv : Value.okWide Try.prog w r b0 25 v) (h : DataW.Trod enc Try.prog w 0 (fun _ => true) true 25 v d ps) :
    ∃ (L : Lk) (A : Option Addr) (c : Nat), v = lkV L (.slice A L.hs.length c) ∧ Els holE 2 w A L.hs ∧ L.hs.length ≤ 9223372036854775807 ∧ L.hs.length ≤ c ∧ (0 ≤ L.epoch ∧ L.epoch ≤ 4294967295) := by
  obtain ⟨cs, rfl, hsz⟩ := okWide_struct Try.underlying25 hv
  rw [show Try.prog.cellsOf 25 = 7 by kernel_rfl] at hsz
  obtain ⟨fuel, hf⟩ := h
  obtain ⟨c0, c1, c2, c3, c4, c5, c6, rfl⟩ : ∃ c0 c1 c2 c3 c4 c5 c6, cs = #[c0, c1, c2, c3, c4, c5, c6] := by
    rcases cs with ⟨l⟩
    match l, hsz with
    | [c0, c1, c2, c3, c4, c5, c6], _ => exact ⟨c0, c1, c2, c3, c4, c5, c6, rfl⟩
  obtain ⟨n0, y0, t0⟩ := open_field Try.underlying25 hf 0 _ rfl 0 1 22 rfl rfl (by kernel_rfl)
  obtain ⟨n1, y1, t1⟩ := open_field Try.underlying25 hf 1 _ rfl 1 1 22 rfl rfl (by kernel_rfl)
  obtain ⟨n2, y2, t2⟩ := open_field Try.underlying25 hf 2 _ rfl 2 1 22 rfl rfl (by kernel_rfl)
  obtain ⟨n3, y3, t3⟩ := open_field Try.underlying25 hf 3 _ rfl 3 1 22 rfl rfl (by kernel_rfl)
  obtain ⟨n4, y4, t4⟩ := open_field Try.underlying25 hf 4 _ rfl 4 1 4 rfl rfl (by kernel_rfl)
  obtain ⟨n5, y5, t5⟩ := open_field Try.underlying25 hf 5 _ rfl 5 1 4 rfl rfl (by kernel_rfl)
  obtain ⟨n6, y6, t6⟩ := open_field Try.underlying25 hf 6 _ rfl 6 1 23 rfl rfl (by kernel_rfl)
  replace t0 : DataW.trod enc Try.prog w 0 (fun _ => true) true n0 22 [c0] = some y0 := t0
  replace t1 : DataW.trod enc Try.prog w 0 (fun _ => true) true n1 22 [c1] = some y1 := t1
  replace t2 : DataW.trod enc Try.prog w 0 (fun _ => true) true n2 22 [c2] = some y2 := t2
  replace t3 : DataW.trod enc Try.prog w 0 (fun _ => true) true n3 22 [c3] = some y3 := t3
  replace t4 : DataW.trod enc Try.prog w 0 (fun _ => true) true n4 4 [c4] = some y4 := t4
  replace t5 : DataW.trod enc Try.prog w 0 (fun _ => true) true n5 4 [c5] = some y5 := t5
  replace t6 : DataW.trod enc Try.prog w 0 (fun _ => true) true n6 23 [c6] = some y6 := t6
  obtain ⟨z0, e0, _, w0⟩ := DataW.trod_int Try.underlying22 t0
  obtain ⟨z1, e1, _, w1⟩ := DataW.trod_int Try.underlying22 t1
  obtain ⟨z2, e2, _, w2⟩ := DataW.trod_int Try.underlying22 t2
  obtain ⟨z3, e3, _, w3⟩ := DataW.trod_int Try.underlying22 t3
  obtain ⟨z4, e4, _⟩ := DataW.trod_bool Try.underlying4 t4
  obtain ⟨z5, e5, _⟩ := DataW.trod_bool Try.underlying4 t5
  obtain ⟨A, c, l, rfl, hel, hl, hc⟩ := open_hols' t6
  injection e0 with e0 _; injection e1 with e1 _; injection e2 with e2 _; injection e3 with e3 _; injection e4 with e4 _; injection e5 with e5 _
  subst e0; subst e1; subst e2; subst e3; subst e4; subst e5
  exact ⟨⟨z0, z1, z2, z3, z4, z5, l⟩, A, c, rfl, hel, hl, hc, u_range w1⟩

/-- An act. -/
structure Deed where
  kind : Int
  client : Int
  mode : Int
instance : Inhabited Deed := ⟨⟨0, 0, 0⟩⟩
structure Deed.Ok (x : Deed) : Prop where
  kind : -9223372036854775808 ≤ x.kind ∧ x.kind ≤ 9223372036854775807
  mode : 0 ≤ x.mode ∧ x.mode ≤ 4294967295
def deE (x : Deed) : List Value := [.int .i64 x.kind, .int .u32 x.client, .int .u32 x.mode]
theorem deeds_at {w : World} {g o : Nat} {l : List Deed} (h : ElsAt deE 3 w g o l) {i : Nat} (hi : i < l.length) :
    w.cell? ⟨g, o + i * 3, none⟩ = some (.int .i64 l[i].kind) ∧ w.cell? ⟨g, o + i * 3 + 1, none⟩ = some (.int .u32 l[i].client) ∧ w.cell? ⟨g, o + i * 3 + 2, none⟩ = some (.int .u32 l[i].mode) :=
  ⟨by simpa using h i hi 0 _ rfl, h i hi 1 _ rfl, h i hi 2 _ rfl⟩
set_option maxRecDepth 100000 in
/-- A list of acts that comes in. -/
theorem open_deeds {v : Value} {d : DataW H} {ps : List MemPlace} {r : Reach} {b0 : Nat} (hv : Value.okWide Try.prog w r b0 39 v) (h : DataW.Trod enc Try.prog w 0 (fun _ => true) true 39 v d ps) :
    ∃ A c l, v = .slice A (List.length l) c ∧ Els deE 3 w A l ∧ l.length ≤ 9223372036854775807 ∧ ∀ x ∈ l, x.Ok := by
  obtain ⟨A, len, cap, rfl⟩ := okWide_slice Try.underlying39 hv
  obtain ⟨fuel, hf⟩ := h
  have hf' : DataW.trod enc Try.prog w 0 (fun _ => true) true fuel 39 [.slice A len cap] = some (d, ps) := by simpa [Value.cells] using hf
  rcases open_structs Try.underlying39 Try.underlying41 (by kernel_rfl) (by kernel_rfl) (by decide) hf' with h0 | ⟨A', len', cap', hcs, ⟨hm, hcap⟩, hz⟩
  · injection h0 with h0 _
    injection h0 with h1 h2 h3
    subst h1; subst h2; subst h3
    exact ⟨none, 0, [], rfl, .inl rfl, by simp, by simp⟩
  · injection hcs with hcs _
    injection hcs with h1 h2 h3
    subst h1; subst h2; subst h3
    have hm' : len ≤ 9223372036854775807 := by simp only [maxLen] at hm; omega
    rcases hz with rfl | ⟨g, o, rfl, hg, hall⟩
    · exact ⟨A, cap, [], rfl, .inl rfl, by simp, by simp⟩
    have each : ∀ i, i < len → ∃ x : Deed, (w.cell? ⟨g, o + i * 3, none⟩ = some (.int .i64 x.kind) ∧ w.cell? ⟨g, o + i * 3 + 1, none⟩ = some (.int .u32 x.client) ∧ w.cell? ⟨g, o + i * 3 + 2, none⟩ = some (.int .u32 x.mode)) ∧ x.Ok := by
      intro i hi
      obtain ⟨n0, v0, y0, k0, t0⟩ := hall i hi 0 _ rfl
      obtain ⟨n1, v1, y1, k1, t1⟩ := hall i hi 1 _ rfl
      obtain ⟨n2, v2, y2, k2, t2⟩ := hall i hi 2 _ rfl
      obtain ⟨z0, e0, _, w0⟩ := DataW.trod_int Try.underlying3 t0
      obtain ⟨z1, e1, _, w1⟩ := DataW.trod_int Try.underlying22 t1
      obtain ⟨z2, e2, _, w2⟩ := DataW.trod_int Try.underlying22 t2
      injection e0 with e0 _; injection e1 with e1 _; injection e2 with e2 _
      subst e0; subst e1; subst e2
      refine ⟨⟨z0, z1, z2⟩, ⟨?_, ?_, ?_⟩, i_range w0, u_range w2⟩
      · simpa using k0
      · simpa using k1
      · simpa using k2
    obtain ⟨f, hf'⟩ := choose_lt each
    refine ⟨_, cap, (List.range len).map f, by simp, .inr ⟨g, o, rfl, hg, fun j hj i v hv => ?_⟩, by rw [List.length_map, List.length_range]; exact hm', ?_⟩
    · have e : ((List.range len).map f)[j] = f j := by simp
      rw [e] at hv
      obtain ⟨q0, q1, q2⟩ := (hf' j (by simpa using hj)).1
      match i, hv with
      | 0, hv => simp [deE] at hv; subst hv; exact q0
      | 1, hv => simp [deE] at hv; subst hv; exact q1
      | 2, hv => simp [deE] at hv; subst hv; exact q2
      | i + 3, hv => simp [deE] at hv
    · intro x hx
      simp only [List.mem_map, List.mem_range] at hx
      obtain ⟨i, hi, rfl⟩ := hx
      exact (hf' i hi).2
end

theorem laid {w w2 : World} {o : Obj} (k : Only [w.heap.size] (w.alloc o) w2) : Only [] w w2 := ((Only.refl [] w).alloc o).far k (Nat.le_refl _)
def L1 : Lk := ⟨7, 1, 0, 0, false, false, []⟩
def L2 : Lk := ⟨7, 1, 0, 9, true, false, []⟩
def L3 : Lk := ⟨7, 1, 1, 9, true, false, [⟨1, 1⟩]⟩
def L4 : Lk := ⟨7, 1, 1, 9, true, false, []⟩
def L5 : Lk := ⟨7, 2, 0, 9, false, false, []⟩
theorem al_1 : askL ⟨7, 1, 0, 0, false, false, []⟩ 1 1 = (⟨7, 1, 0, 0, false, false, []⟩, 3, 0) := by decide +kernel
theorem al_2 : settleL ⟨7, 1, 0, 0, false, false, []⟩ 1 9 = (⟨7, 1, 0, 9, true, false, []⟩, 0) := by decide +kernel
theorem al_3 : askL ⟨7, 1, 0, 9, true, false, []⟩ 1 1 = (⟨7, 1, 1, 9, true, false, [⟨1, 1⟩]⟩, 1, 0) := by decide +kernel
theorem al_4 : askL ⟨7, 1, 1, 9, true, false, [⟨1, 1⟩]⟩ 2 2 = (⟨7, 1, 1, 9, true, false, [⟨1, 1⟩]⟩, 2, 0) := by decide +kernel
theorem al_5 : returnL ⟨7, 1, 1, 9, true, false, [⟨1, 1⟩]⟩ 1 1 = (⟨7, 1, 1, 9, true, false, []⟩, 0) := by decide +kernel
theorem al_6 : askL ⟨7, 1, 1, 9, true, false, []⟩ 2 2 = (⟨7, 2, 0, 9, false, false, []⟩, 3, 0) := by decide +kernel
theorem al_7 : decide (RightP ⟨7, 2, 0, 9, false, false, []⟩) = true := by decide +kernel
set_option maxRecDepth 100000 in
set_option maxHeartbeats 4000000 in
/-- What every right program answers. -/
theorem alive_any (w : World) : Calls Try.prog 8 #[] w fun e w' => e = .returned (.bool true) ∧ Only [] w w' := by
  have h1 := fun W A c hb => ask_any W ⟨7, 1, 0, 0, false, false, []⟩ A c 1 1 hb (by simp) (by simp)
  have h2 := fun W A c hb => settle_any W ⟨7, 1, 0, 0, false, false, []⟩ A c 1 9 hb (by simp) (by simp)
  have h3 := fun W A c hb => ask_any W ⟨7, 1, 0, 9, true, false, []⟩ A c 1 1 hb (by simp) (by simp)
  have h4 := fun W A c hb => ask_any W ⟨7, 1, 1, 9, true, false, [⟨1, 1⟩]⟩ A c 2 2 hb (by simp) (by simp)
  have h5 := fun W A c hb => return_any W ⟨7, 1, 1, 9, true, false, [⟨1, 1⟩]⟩ A c 1 1 hb (by simp) (by simp)
  have h6 := fun W A c hb => ask_any W ⟨7, 1, 1, 9, true, false, []⟩ A c 2 2 hb (by simp) (by simp)
  have h7 := fun W A c hb => right_any W ⟨7, 2, 0, 9, false, false, []⟩ A c hb (by simp)
  rw [al_1] at h1
  rw [al_2] at h2
  rw [al_3] at h3
  rw [al_4] at h4
  rw [al_5] at h5
  rw [al_6] at h6
  rw [al_7] at h7
  simp only [lkV, List.length_nil, List.length_cons, Nat.zero_add] at h1 h2 h3 h4 h5 h6 h7
  replace h1 := Lib.hid h1
  replace h2 := Lib.hid h2
  replace h3 := Lib.hid h3
  replace h4 := Lib.hid h4
  replace h5 := Lib.hid h5
  replace h6 := Lib.hid h6
  replace h7 := Lib.hid h7
  have hn : ∀ W, Els holE 2 W none [] := fun W => .inl rfl
  go_enter Try.func8, Try.ntmps8
  go_wp2_with fail
  refine (fresh_any _ 7).mono ?_; rintro e w1 ⟨rfl, k1⟩
  go_wp2_with (refine wpList_store_lk ⟨7, 1, 0, 0, false, false, []⟩ noL (.slice none 0 0) _ rfl rfl _ _ rfl w1.heap.size rfl rfl (Lx.zero w1) ?_; intro w2 b2 k2'; have k2 := k1.trans (laid k2'); obtain ⟨c0, c1, c2, c3, c4, c5, c6⟩ := Lx.at b2 (Only.refl [] _) (by simp); clear k2')
  refine (h1.out _ none 0 (.inl rfl)).mono ?_; rintro e w3 ⟨v3, rfl, m3⟩
  obtain ⟨A3, d3, rfl, e3, _⟩ := m3.shape
  have b3 := Lx.kept b2 m3.only (by simp)
  have k3 := k2.trans m3.only
  clear c0 c1 c2 c3 c4 c5 c6 b2 m3
  obtain ⟨c0, c1, c2, c3, c4, c5, c6⟩ := Lx.at b3 (Only.refl [] _) (by simp)
  have hg1 : w1.heap.size < w3.heap.size := World.block_lt_of_cell? w3 _ c0
  go_wp2_with (refine wpList_store_lk ⟨7, 1, 0, 0, false, false, []⟩ noL (.slice A3 0 d3) _ rfl rfl _ _ rfl w3.heap.size rfl rfl (Lx.zero w3) ?_; intro w4 b4 k4'; have k4 := k3.trans (laid k4'); have b3' := Lx.kept b3 (laid k4') (by simp); obtain ⟨e0, e1, e2, e3', e4, e5, e6⟩ := Lx.at b3' (Only.refl [] _) (by simp); clear k4')
  refine (h2.out _ none 0 (.inl rfl)).mono ?_; rintro e w5 ⟨v5, rfl, m5⟩
  obtain ⟨A5, d5, rfl, f5, _⟩ := m5.shape
  have k5 := k4.trans m5.only
  clear c0 c1 c2 c3 c4 c5 c6 e0 e1 e2 e3' e4 e5 e6 b3 b3' b4 m5 e3
  go_wp2_with (refine wpList_store_lk ⟨7, 1, 0, 9, true, false, []⟩ noL (.slice A5 0 d5) _ rfl rfl _ _ rfl w5.heap.size rfl rfl (Lx.zero w5) ?_; intro w6 b6 k6'; have k6 := k5.trans (laid k6'); have f6 := Els.kept f5 (laid k6') (by simp); obtain ⟨c0, c1, c2, c3, c4, c5, c6⟩ := Lx.at b6 (Only.refl [] _) (by simp); clear k6')
  refine (h3.out _ A5 d5 f6).mono ?_; rintro e w7 ⟨v7, rfl, m7⟩
  obtain ⟨A7, d7, rfl, f7, _⟩ := m7.shape
  have k7 := k6.trans m7.only
  clear c0 c1 c2 c3 c4 c5 c6 b6 m7 f5 f6
  go_wp2_with (refine wpList_store_lk ⟨7, 1, 1, 9, true, false, [⟨1, 1⟩]⟩ noL (.slice A7 1 d7) _ rfl rfl _ _ rfl w7.heap.size rfl rfl (Lx.zero w7) ?_; intro w8 b8 k8'; have k8 := k7.trans (laid k8'); have f8 := Els.kept f7 (laid k8') (by simp); obtain ⟨c0, c1, c2, c3, c4, c5, c6⟩ := Lx.at b8 (Only.refl [] _) (by simp); clear k8')
  refine (h4.out _ A7 d7 f8).mono ?_; rintro e w9 ⟨v9, rfl, m9⟩
  obtain ⟨A9, d9, rfl, f9, _⟩ := m9.shape
  have k9 := k8.trans m9.only
  have b9 := Lx.kept b8 m9.only (by simp)
  have f9b := Els.kept f8 m9.only (by simp)
  clear c0 c1 c2 c3 c4 c5 c6 b8 m9 f7 f8 f9
  obtain ⟨c0, c1, c2, c3, c4, c5, c6⟩ := Lx.at b9 (Only.refl [] _) (by simp)
  have hg7 : w7.heap.size < w9.heap.size := World.block_lt_of_cell? w9 _ c0
  go_wp2_with (refine wpList_store_lk ⟨7, 1, 1, 9, true, false, [⟨1, 1⟩]⟩ noL (.slice A9 1 d9) _ rfl rfl _ _ rfl w9.heap.size rfl rfl (Lx.zero w9) ?_; intro w10 b10 k10'; have k10 := k9.trans (laid k10'); have f10 := Els.kept f9b (laid k10') (by simp); obtain ⟨e0, e1, e2, e3, e4, e5, e6⟩ := Lx.at b9 (laid k10') (by simp); clear k10')
  refine (h5.out _ A7 d7 f10).mono ?_; rintro e w11 ⟨v11, rfl, m11⟩
  obtain ⟨A11, d11, rfl, f11, _⟩ := m11.shape
  have k11 := k10.trans m11.only
  clear c0 c1 c2 c3 c4 c5 c6 e0 e1 e2 e3 e4 e5 e6 b9 b10 m11 f9b f10
  go_wp2_with (refine wpList_store_lk ⟨7, 1, 1, 9, true, false, []⟩ noL (.slice A11 0 d11) _ rfl rfl _ _ rfl w11.heap.size rfl rfl (Lx.zero w11) ?_; intro w12 b12 k12'; have k12 := k11.trans (laid k12'); have f12 := Els.kept f11 (laid k12') (by simp); obtain ⟨c0, c1, c2, c3, c4, c5, c6⟩ := Lx.at b12 (Only.refl [] _) (by simp); clear k12')
  refine (h6.out _ A11 d11 f12).mono ?_; rintro e w13 ⟨v13, rfl, m13⟩
  obtain ⟨A13, d13, rfl, f13, _⟩ := m13.shape
  have k13 := k12.trans m13.only
  clear c0 c1 c2 c3 c4 c5 c6 b12 m13 f11 f12
  go_wp2_with (refine wpList_store_lk ⟨7, 2, 0, 9, false, false, []⟩ noL (.slice A13 0 d13) _ rfl rfl _ _ rfl w13.heap.size rfl rfl (Lx.zero w13) ?_; intro w14 b14 k14'; have k14 := k13.trans (laid k14'); have f14 := Els.kept f13 (laid k14') (by simp); obtain ⟨c0, c1, c2, c3, c4, c5, c6⟩ := Lx.at b14 (Only.refl [] _) (by simp); clear k14')
  refine (h7.out _ A13 d13 f14).mono ?_; rintro e w15 ⟨rfl, k15⟩
  go_wp2
  go_ret
  exact ⟨rfl, k14.trans k15⟩
end Go.Proofs.Ytnmmdnecojgccaa
