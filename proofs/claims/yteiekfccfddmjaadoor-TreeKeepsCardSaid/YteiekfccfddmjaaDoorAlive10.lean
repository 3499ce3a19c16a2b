/- What every right program answers; lists that come in; what is too great. -/
import Derived.Test.YteiekfccfddmjaaDoorRen10
import Derived.Deep.Strs
import Derived.OpenShut
namespace Go.Proofs.YteiekfccfddmjaaDoor
open Go.RowKit Go.WideShapes Go.ChangeShapes

theorem choose_lt {α : Type} [Inhabited α] {p : Nat → α → Prop} {n : Nat} (h : ∀ i, i < n → ∃ x, p i x) : ∃ f : Nat → α, ∀ i, i < n → p i (f i) :=
  ⟨fun i => if hi : i < n then (h i hi).choose else default, fun i hi => by simp only [hi, dif_pos]; exact (h i hi).choose_spec⟩
instance : Inhabited Nd := ⟨zeroN⟩
section
variable {H : Type} {enc : TypeId × Value → H} {w : World}
set_option maxRecDepth 100000 in
theorem open_nds' {v : Value} {fuel : Nat} {x : DataW H × List MemPlace} (h : DataW.trod enc Tryd.prog w 0 (fun _ => true) true fuel 22 [v] = some x) : ∃ (A : Option Addr) (c : Nat) (l : List Nd), v = .slice A (List.length l) c ∧ Els ndE 5 w A l ∧ l.length ≤ 9223372036854775807 ∧ l.length ≤ c := by
  rcases open_structs Tryd.underlying22 Tryd.underlying28 (by kernel_rfl) (by kernel_rfl) (by decide) h with h0 | ⟨A, len, cap, hcs, ⟨hm, hcap⟩, hz⟩
  · injection h0 with h0 _
    exact ⟨none, 0, [], h0, .inl rfl, by simp, by simp⟩
  · injection hcs with hcs _
    subst hcs
    have hm' : len ≤ 9223372036854775807 := by simp only [maxLen] at hm; omega
    rcases hz with rfl | ⟨g, o, rfl, hg, hall⟩
    · exact ⟨A, cap, [], rfl, .inl rfl, by simp, by simp⟩
    have each : ∀ i, i < len → ∃ x : Nd, w.cell? ⟨g, o + i * 5, none⟩ = some (.int .u32 x.id) ∧ w.cell? ⟨g, o + i * 5 + 1, none⟩ = some (.int .u32 x.par) ∧ w.cell? ⟨g, o + i * 5 + 2, none⟩ = some (.string (strOf x.name)) ∧ w.cell? ⟨g, o + i * 5 + 3, none⟩ = some (.bool x.dir) ∧ w.cell? ⟨g, o + i * 5 + 4, none⟩ = some (.int .u32 x.size) := by
      intro i hi
      obtain ⟨n0, v0, y0, k0, t0⟩ := hall i hi 0 _ rfl
      obtain ⟨n1, v1, y1, k1, t1⟩ := hall i hi 1 _ rfl
      obtain ⟨n2, v2, y2, k2, t2⟩ := hall i hi 2 _ rfl
      obtain ⟨n3, v3, y3, k3, t3⟩ := hall i hi 3 _ rfl
      obtain ⟨n4, v4, y4, k4, t4⟩ := hall i hi 4 _ rfl
      obtain ⟨z0, e0, _, _⟩ := DataW.trod_int Tryd.underlying23 t0
      obtain ⟨z1, e1, _, _⟩ := DataW.trod_int Tryd.underlying23 t1
      obtain ⟨s, e2, _, _⟩ := DataW.trod_string Tryd.underlying9 t2
      obtain ⟨b, e3, _⟩ := DataW.trod_bool Tryd.underlying4 t3
      obtain ⟨z4, e4, _, _⟩ := DataW.trod_int Tryd.underlying23 t4
      injection e0 with e0 _; injection e1 with e1 _; injection e2 with e2 _; injection e3 with e3 _; injection e4 with e4 _
      subst e0; subst e1; subst e2; subst e3; subst e4
      refine ⟨⟨z0, z1, s.data.toList, b, z4⟩, ?_, ?_, ?_, ?_, ?_⟩
      · simpa using k0
      · simpa using k1
      · simp only [strOf_toList]
        simpa using k2
      · simpa using k3
      · simpa using k4
    obtain ⟨f, hf'⟩ := choose_lt each
    refine ⟨_, cap, (List.range len).map f, by simp, .inr ⟨g, o, rfl, hg, fun j hj i v hv => ?_⟩, by rw [List.length_map, List.length_range]; exact hm', by rw [List.length_map, List.length_range]; exact hcap⟩
    have e : ((List.range len).map f)[j] = f j := by simp
    rw [e] at hv
    obtain ⟨q0, q1, q2, q3, q4⟩ := hf' j (by simpa using hj)
    match i, hv with
    | 0, hv => simp [ndE] at hv; subst hv; exact q0
    | 1, hv => simp [ndE] at hv; subst hv; exact q1
    | 2, hv => simp [ndE] at hv; subst hv; exact q2
    | 3, hv => simp [ndE] at hv; subst hv; exact q3
    | 4, hv => simp [ndE] at hv; subst hv; exact q4
    | i + 5, hv => simp [ndE] at hv
set_option maxRecDepth 100000 in
/-- A list of inodes that comes in. -/
theorem open_nds {v : Value} {d : DataW H} {ps : List MemPlace} {r : Reach} {b0 : Nat} (hv : Value.okWide Tryd.prog w r b0 22 v) (h : DataW.Trod enc Tryd.prog w 0 (fun _ => true) true 22 v d ps) :
    ∃ A c l, v = .slice A (List.length l) c ∧ Els ndE 5 w A l ∧ l.length ≤ 9223372036854775807 ∧ l.length ≤ c := by
  obtain ⟨A, len, cap, rfl⟩ := okWide_slice Tryd.underlying22 hv
  obtain ⟨fuel, hf⟩ := h
  exact open_nds' (by simpa [Value.cells] using hf)
end

theorem root_any (w : World) : Calls Tryd.prog 33 #[] w fun e w' => MineAns w w' e [rootN] := by
  have hb : Blk (w.alloc (.cells #[.int .u32 1, .int .u32 0, .string ⟨#[]⟩, .bool true, .int .u32 0] 28)) w.heap.size 28 (ndA rootN) := Blk.new _ _ _
  have hm := Mine.of_row (w := w) (l := [rootN]) (c := 1) (T := []) (Nat.le_refl _) hb (Nat.le_refl _) (by unfold maxLen; omega) rfl rfl ((Only.refl [] w).alloc _)
  replace hm := Lib.hid hm
  clear hb
  go_enter Tryd.func33, Tryd.ntmps33
  go_wp2
  go_ret
  exact ⟨_, rfl, hm.out⟩

def T1 : List Nd := [rootN, ⟨2, 1, [97], true, 0⟩]
def T2 : List Nd := [rootN, ⟨2, 1, [97], true, 0⟩, ⟨3, 2, [98], false, 0⟩]
def T3 : List Nd := [rootN, ⟨2, 1, [100], true, 0⟩, ⟨3, 2, [98], false, 0⟩]
theorem al_1 : makeR [rootN] [47, 97] 2 true = (T1, 0) := by decide +kernel
theorem al_2 : makeR T1 [47, 97, 47, 98] 3 false = (T2, 0) := by decide +kernel
theorem al_3 : findR T2 [47, 97, 47, 98] = (⟨3, 2, [98], false, 0⟩, 0) := by decide +kernel
theorem al_4 : renameR T2 [47, 97] [47, 97, 47, 99] = ([], 1) := by decide +kernel
theorem al_5 : renameR T2 [47, 97] [47, 100] = (T3, 0) := by decide +kernel
theorem al_6 : findR T3 [47, 100, 47, 98] = (⟨3, 2, [98], false, 0⟩, 0) := by decide +kernel
theorem al_7 : Tree T3 := by decide +kernel

set_option maxRecDepth 100000 in
set_option maxHeartbeats 4000000 in
/-- What every right program answers. -/
theorem alive_any (w : World) : Calls Tryd.prog 11 #[] w fun e w' => e = .returned (.bool true) ∧ Only [] w w' := by
  have h1 := fun W A c hb hc => make_any W A c [rootN] [47, 97] 2 true hb hc (by decide) (by decide)
  have h2 := fun W A c hb hc => make_any W A c T1 [47, 97, 47, 98] 3 false hb hc (by decide) (by decide)
  have h3 := fun W A c hb hc => find_any W A c T2 [47, 97, 47, 98] hb hc (by decide) (by decide)
  have h4 := fun W A c hb hc => rename_any W A c T2 [47, 97] [47, 97, 47, 99] hb hc (by decide) (by decide) (by decide)
  have h5 := fun W A c hb hc => rename_any W A c T2 [47, 97] [47, 100] hb hc (by decide) (by decide) (by decide)
  have h6 := fun W A c hb hc => find_any W A c T3 [47, 100, 47, 98] hb hc (by decide) (by decide)
  have h7 := fun W A c hb hc => right_bool W A c T3 hb (by decide) hc true (bool_yes al_7)
  rw [al_1] at h1
  rw [al_2] at h2
  rw [al_3] at h3
  rw [al_4] at h4
  rw [al_5] at h5
  rw [al_6] at h6
  have hv : ndV ⟨3, 2, [98], false, 0⟩ = .agg #[.int .u32 3, .int .u32 2, .string ⟨#[98]⟩, .bool false, .int .u32 0] := rfl
  rw [hv] at h3 h6
  clear hv
  replace h1 := Lib.hid h1
  replace h2 := Lib.hid h2
  replace h3 := Lib.hid h3
  replace h4 := Lib.hid h4
  replace h5 := Lib.hid h5
  replace h6 := Lib.hid h6
  replace h7 := Lib.hid h7
  go_enter Tryd.func11, Tryd.ntmps11
  go_wp2_with fail
  refine (root_any _).mono ?_; rintro e w1 ⟨v1, rfl, m1⟩
  obtain ⟨A1, c1, rfl, e1, l1, _, _⟩ := m1.shape ndE_length
  have k1 := m1.only
  go_wp2_with fail
  refine (h1.out _ A1 c1 e1 l1).mono ?_; rintro e w2 ⟨v2, rfl, m2⟩
  obtain ⟨A2, c2, rfl, e2, l2, _, _⟩ := m2.shape ndE_length
  have k2 := k1.trans m2.only
  go_wp2_with fail
  refine (h2.out _ A2 c2 e2 l2).mono ?_; rintro e w3 ⟨v3, rfl, m3⟩
  obtain ⟨A3, c3, rfl, e3, l3, _, _⟩ := m3.shape ndE_length
  have k3 := k2.trans m3.only
  go_wp2_with fail
  refine (h3.out _ A3 c3 e3 l3).mono ?_; rintro e w4 ⟨rfl, k4'⟩
  have k4 := (k3.trans k4').alloc (.cells #[.int .u32 3, .int .u32 2, .string ⟨#[98]⟩, .bool false, .int .u32 0] 28)
  have b4 : Bx (w4.alloc (.cells #[.int .u32 3, .int .u32 2, .string ⟨#[98]⟩, .bool false, .int .u32 0] 28)) w4.heap.size ⟨3, 2, [98], false, 0⟩ := Blk.new _ _ _
  have e4 := (e3.kept k4' (by simp)).kept ((Only.refl [] w4).alloc (.cells #[.int .u32 3, .int .u32 2, .string ⟨#[98]⟩, .bool false, .int .u32 0] 28)) (by simp)
  go_wp2_with fail
  refine (h4.out _ A3 c3 e4 l3).mono ?_; rintro e w5 ⟨v5, rfl, m5⟩
  obtain ⟨A5, c5, rfl, e5, l5, _, _⟩ := m5.shape ndE_length
  have k5 := k4.trans m5.only
  have b5 : Bx w5 w4.heap.size ⟨3, 2, [98], false, 0⟩ := b4.kept m5.only (by simp)
  go_wp2_with fail
  refine (h5.out _ A3 c3 (e4.kept m5.only (by simp)) l3).mono ?_; rintro e w6 ⟨v6, rfl, m6⟩
  obtain ⟨A6, c6, rfl, e6, l6, _, _⟩ := m6.shape ndE_length
  have k6 := k5.trans m6.only
  have b6 : Bx w6 w4.heap.size ⟨3, 2, [98], false, 0⟩ := b5.kept m6.only (by simp)
  go_wp2_with fail
  refine (h6.out _ A6 c6 e6 l6).mono ?_; rintro e w7 ⟨rfl, k7'⟩
  have k7 := (k6.trans k7').alloc (.cells #[.int .u32 3, .int .u32 2, .string ⟨#[98]⟩, .bool false, .int .u32 0] 28)
  have b7 := (b6.kept k7' (by simp)).alloc (.cells #[.int .u32 3, .int .u32 2, .string ⟨#[98]⟩, .bool false, .int .u32 0] 28)
  have e7 := (e6.kept k7' (by simp)).kept ((Only.refl [] w7).alloc (.cells #[.int .u32 3, .int .u32 2, .string ⟨#[98]⟩, .bool false, .int .u32 0] 28)) (by simp)
  obtain ⟨q0, q1, q2, q3, q4⟩ := b7.cells
  simp only at q0 q1 q2 q3 q4
  clear b4 b5 b6 b7 m1 m2 m3 m5 m6 e1 e2 e3 e4 e5 k1 k2 k3 k4 k4' k5 k6
  generalize w4.heap.size = g4 at *
  have hd : decide ((⟨3, 2, [98], false, 0⟩ : Nd) = ⟨3, 2, [98], false, 0⟩) = true := by simp
  go_wp2_with (refine wpList_eql_nd ⟨3, 2, [98], false, 0⟩ ⟨3, 2, [98], false, 0⟩ rfl _ _ _ rfl rfl rfl true hd ?_)
  refine (h7.out _ A6 c6 e7 l6).mono ?_; rintro e w8 ⟨rfl, k8⟩
  go_wp2
  go_ret
  exact ⟨rfl, k7.trans k8⟩

/-- Behind great. -/
def GreatE (l : List Nd) (a b : List UInt8) (e : Ending) : Prop := ∃ r : Bool, e = .returned (.bool r) ∧ (r = false → l.length ≤ 100 ∧ a.length ≤ 1000 ∧ b.length ≤ 1000)
theorem GreatE.yes (l : List Nd) (a b : List UInt8) : GreatE l a b (.returned (.bool true)) := ⟨true, rfl, by simp⟩
theorem GreatE.no {l : List Nd} {a b : List UInt8} (h : l.length ≤ 100 ∧ a.length ≤ 1000 ∧ b.length ≤ 1000) : GreatE l a b (.returned (.bool false)) := ⟨false, rfl, fun _ => h⟩
set_option maxRecDepth 100000 in
set_option maxHeartbeats 2000000 in
theorem great_any (w : World) (A : Option Addr) (c : Nat) (l : List Nd) (a b : List UInt8) (hb : Els ndE 5 w A l) (hl : l.length ≤ 9223372036854775807) :
    Calls Tryd.prog 12 #[.slice A l.length c, .string (strOf a), .string (strOf b)] w fun e w' => GreatE l a b e ∧ w' = w := by
  have hlI : (l.length : Int) ≤ 9223372036854775807 := by omega
  have hsa := strOf_size a
  have hsb := strOf_size b
  generalize strOf a = sa at *
  generalize strOf b = sb at *
  by_cases h1 : 100 < l.length
  · have d1 : decide ((100 : Int) < (l.length : Int)) = true := decide_eq_true (by omega)
    have d1' : (100 : Int) < (l.length : Int) := by omega
    replace hsa := Lib.hid hsa
    replace hsb := Lib.hid hsb
    go_enter Tryd.func12, Tryd.ntmps12
    go_wp2
    go_ret
    exact ⟨GreatE.yes l a b, rfl⟩
  have d1 : decide ((100 : Int) < (l.length : Int)) = false := decide_eq_false (by omega)
  have d1' : ¬ (100 : Int) < (l.length : Int) := by omega
  by_cases h2 : 1000 < a.length
  · have d2 : decide ((1000 : Int) < (sa.size : Int)) = true := decide_eq_true (by omega)
    have d2' : (1000 : Int) < (sa.size : Int) := by omega
    replace hsa := Lib.hid hsa
    replace hsb := Lib.hid hsb
    go_enter Tryd.func12, Tryd.ntmps12
    go_wp2
    go_ret
    exact ⟨GreatE.yes l a b, rfl⟩
  have d2 : decide ((1000 : Int) < (sa.size : Int)) = false := decide_eq_false (by omega)
  have d2' : ¬ (1000 : Int) < (sa.size : Int) := by omega
  by_cases h3 : 1000 < b.length
  · have d3 : decide ((1000 : Int) < (sb.size : Int)) = true := decide_eq_true (by omega)
    have d3' : (1000 : Int) < (sb.size : Int) := by omega
    replace hsa := Lib.hid hsa
    replace hsb := Lib.hid hsb
    go_enter Tryd.func12, Tryd.ntmps12
    go_wp2
    go_ret
    exact ⟨GreatE.yes l a b, rfl⟩
  have d3 : decide ((1000 : Int) < (sb.size : Int)) = false := decide_eq_false (by omega)
  have d3' : ¬ (1000 : Int) < (sb.size : Int) := by omega
  have hno : GreatE l a b (.returned (.bool false)) := GreatE.no ⟨by omega, by omega, by omega⟩
  replace hno := Lib.hid hno
  replace hsa := Lib.hid hsa
  replace hsb := Lib.hid hsb
  go_enter Tryd.func12, Tryd.ntmps12
  go_wp2_with fail
  go_loopw [7] (fun i wr => ∃ n : Nat, n ≤ l.length ∧ i = .int .i64 n ∧ wr = w) (fun i _ => l.length - (intOf i).toNat)
  case atStart => exact ⟨0, Nat.zero_le _, rfl, rfl⟩
  case round =>
    obtain ⟨n, hn, rfl, rfl⟩ := hrel
    by_cases hlt : n < l.length
    · obtain ⟨g, o, rfl, hg, hat⟩ := hb.get hlt
      obtain ⟨c0, c1, c2, c3, c4⟩ := nds_at hat hlt
      generalize l[n] = x at *
      generalize strOf x.name = xs at *
      clear hat
      by_cases h4 : (1000 : Int) < (xs.size : Int)
      · go_wp2
        go_ret
        exact ⟨GreatE.yes l a b, rfl⟩
      · go_wp2
        go_roundw
        case rel => exact ⟨n + 1, by omega, by go_num, by trivial⟩
        case measure => simp [intOf]; omega
    · go_wp2
      go_ret
      exact ⟨hno.out, rfl⟩
end Go.Proofs.YteiekfccfddmjaaDoor
