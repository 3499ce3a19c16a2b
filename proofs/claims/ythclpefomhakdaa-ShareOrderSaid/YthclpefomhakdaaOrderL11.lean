/- ShareOrder: two opens that may both be come to the same list in either order. -/
import Derived.Test.YthclpefomhakdaaAddsL11
namespace Go.Proofs.Ythclpefomhakdaa
open Go.RowKit

set_option linter.unusedVariables false
theorem addR_zero {l : List Opn} {o : Opn} (h : (addR l o).2 = 0) : MayAdd l o ∧ (addR l o).1 = putO l o := by
  rw [addR_snd] at h
  exact ⟨addC_zero.1 h, by rw [addR_ok h]⟩
theorem addR_may {l : List Opn} {o : Opn} (h : MayAdd l o) : addR l o = (putO l o, 0) := addR_ok (addC_zero.2 h)
theorem addR_nz {l : List Opn} {o : Opn} (h : ¬ (addR l o).2 = 0) : (addR l o).1 = [] := by
  rw [addR_snd] at h
  rw [addR_no h]
set_option maxRecDepth 100000 in
set_option maxHeartbeats 8000000 in
theorem shareOrder_walk (w : World) (A : Option Addr) (c : Nat) (l : List Opn) (a b : Opn) (hb : Els opE 5 w A l) (hl : l.length ≤ 9223372036854775807) (hc : l.length ≤ c) :
    Calls Try.prog 8 #[.slice A l.length c, opV a, opV b] w fun e w' => e = .returned (.bool true) ∧ Only [] w w' := by
  have hSa := fun W (k : Only [] w W) => add_any W A c l a (hb.kept k (by simp)) hl hc
  have hSb := fun W (k : Only [] w W) => add_any W A c l b (hb.kept k (by simp)) hl hc
  have hSL := fun W A c (L : List Opn) (h : Els opE 5 W A L) (h2 : L.length ≤ 9223372036854775807) (h3 : L.length ≤ c) => add_any W A c L b h h2 h3
  have hSM := fun W A c (L : List Opn) (h : Els opE 5 W A L) (h2 : L.length ≤ 9223372036854775807) (h3 : L.length ≤ c) => add_any W A c L a h h2 h3
  have ha1 := addR_length l a
  have hb1 := addR_length l b
  have ba := Bx.new w a
  have k0 : Only [] w (w.alloc (.cells #[.int .u32 a.client, .int .u32 a.handle, .int .u32 a.file, .int .u32 a.access, .int .u32 (a.deny : Int)] 27)) := (Only.refl [] w).alloc _
  have bb := Bx.new (w.alloc (.cells #[.int .u32 a.client, .int .u32 a.handle, .int .u32 a.file, .int .u32 a.access, .int .u32 (a.deny : Int)] 27)) b
  have hsz : (w.alloc (.cells #[.int .u32 a.client, .int .u32 a.handle, .int .u32 a.file, .int .u32 a.access, .int .u32 (a.deny : Int)] 27)).heap.size = w.heap.size + 1 := by simp
  rw [hsz] at bb
  have ba2 := ba.alloc (.cells #[.int .u32 b.client, .int .u32 b.handle, .int .u32 b.file, .int .u32 b.access, .int .u32 (b.deny : Int)] 27)
  have k02 := k0.alloc (.cells #[.int .u32 b.client, .int .u32 b.handle, .int .u32 b.file, .int .u32 b.access, .int .u32 (b.deny : Int)] 27)
  clear hsz ba k0
  -- what is known of the answers
  have hz1 := addR_zero (l := l) (o := a)
  have hz2 := fun h => addR_zero (l := (addR l a).1) (o := b) h
  have hn2 := fun h => addR_nz (l := (addR l a).1) (o := b) h
  have hsw := fun h1 h2 => add_swap (l := l) (a := a) (b := b) h1 h2
  have hfin : (addR l a).2 = 0 → (addR (addR l a).1 b).2 = 0 → (addR l b).2 = 0 ∧ (addR (addR l b).1 a).2 = 0 ∧ (addR (addR l b).1 a).1 = (addR (addR l a).1 b).1 := fun h1 h2 => by
    obtain ⟨m1, e1⟩ := hz1 h1
    obtain ⟨m2, e2⟩ := hz2 h2
    rw [e1] at m2 e2
    obtain ⟨m3, m4, e5⟩ := hsw m1 m2
    have r1 := addR_may m1
    have r2 := addR_may m2
    have r3 := addR_may m3
    have r4 := addR_may m4
    rw [r3, r1]
    simp only
    rw [r4, r2]
    exact ⟨by trivial, by trivial, e5⟩
  have hll : ∀ L : List Opn, (addR L b).1.length ≤ L.length + 1 := fun L => addR_length L b
  clear hz1 hz2 hsw
  generalize addR l a = X at *
  generalize addR l b = U at *
  obtain ⟨X1, X2⟩ := X
  obtain ⟨U1, U2⟩ := U
  simp only at hfin hn2 ha1 hb1 hll
  have hYL := hll X1
  have hSL1 := fun W A c h h2 h3 => hSL W A c X1 h h2 h3
  have hSM1 := fun W A c h h2 h3 => hSM W A c U1 h h2 h3
  generalize addR X1 b = Y at *
  generalize addR U1 a = V at *
  obtain ⟨Y1, Y2⟩ := Y
  obtain ⟨V1, V2⟩ := V
  simp only at hfin hn2 hYL
  clear hSL hSM hll
  obtain ⟨a0, a1, a2, a3, a4⟩ := a
  obtain ⟨b0, b1, b2, b3, b4⟩ := b
  have hva : opV ⟨a0, a1, a2, a3, a4⟩ = .agg #[.int .u32 a0, .int .u32 a1, .int .u32 a2, .int .u32 a3, .int .u32 (a4 : Int)] := rfl
  have hvb : opV ⟨b0, b1, b2, b3, b4⟩ = .agg #[.int .u32 b0, .int .u32 b1, .int .u32 b2, .int .u32 b3, .int .u32 (b4 : Int)] := rfl
  rw [hva] at hSa hSM1 ⊢
  rw [hvb] at hSb hSL1 ⊢
  simp only at bb ba2 k02
  clear hva hvb
  replace hSa := Lib.hid hSa
  replace hSb := Lib.hid hSb
  replace hSL1 := Lib.hid hSL1
  replace hSM1 := Lib.hid hSM1
  replace ha1 := Lib.hid ha1
  replace hb1 := Lib.hid hb1
  replace hYL := Lib.hid hYL
  replace hfin := Lib.hid hfin
  replace hn2 := Lib.hid hn2
  go_enter Try.func8, Try.ntmps8
  go_wp2_with fail
  refine (alive_any _).mono ?_; rintro e w1 ⟨rfl, k1'⟩
  have k1 := k02.trans k1'
  have p1 := Bx.kept ba2 k1' (by simp)
  have q1 := Bx.kept bb k1' (by simp)
  generalize w.heap.size = q at *
  clear ba2 bb k1' k02
  by_cases h100 : (100 : Int) < (l.length : Int)
  · have d100 : decide ((100 : Int) < (l.length : Int)) = true := decide_eq_true h100
    go_wp2_with fail
    refine (alive_any _).mono ?_; rintro e wz ⟨rfl, kz⟩
    go_wp2
    go_ret
    exact ⟨rfl, k1.trans kz⟩
  have d100 : decide ((100 : Int) < (l.length : Int)) = false := decide_eq_false h100
  have hl100 : l.length ≤ 100 := by omega
  replace h100 := Lib.hid h100
  obtain ⟨c0, c1, c2, c3, c4⟩ := p1.cells
  simp only at c0 c1 c2 c3 c4
  go_wp2_with fail
  refine (hSa.out _ k1).mono ?_; rintro e w2 ⟨v2, rfl, m2⟩
  have k2 := k1.trans m2.only
  have p2 := Bx.kept p1 m2.only (by simp)
  have q2 := Bx.kept q1 m2.only (by simp)
  obtain ⟨A2, d2, rfl, e2, l2, _⟩ := m2.shape opE_length
  clear c0 c1 c2 c3 c4 p1 q1 m2
  simp only at e2 l2 ⊢
  by_cases hx : X2 = 0
  rotate_left
  · have dx : (X2 != 0) = true := by simpa using hx
    go_wp2_with fail
    refine (alive_any _).mono ?_; rintro e wz ⟨rfl, kz⟩
    go_wp2
    go_ret
    exact ⟨rfl, k2.trans kz⟩
  have dx : (X2 != 0) = false := by simpa using hx
  replace hx := Lib.hid hx
  obtain ⟨c0, c1, c2, c3, c4⟩ := q2.cells
  simp only at c0 c1 c2 c3 c4
  go_wp2_with fail
  refine (hSL1.out _ A2 d2 e2 (by have := ha1.out; omega) l2).mono ?_; rintro e w3 ⟨v3, rfl, m3⟩
  have k3 := k2.trans m3.only
  have p3 := Bx.kept p2 m3.only (by simp)
  have q3 := Bx.kept q2 m3.only (by simp)
  obtain ⟨A3, d3, rfl, e3, l3, _⟩ := m3.shape opE_length
  clear c0 c1 c2 c3 c4 p2 q2 m3
  simp only at e3 l3 ⊢
  obtain ⟨c0, c1, c2, c3, c4⟩ := q3.cells
  simp only at c0 c1 c2 c3 c4
  go_wp2_with fail
  refine (hSb.out _ k3).mono ?_; rintro e w4 ⟨v4, rfl, m4⟩
  have k4 := k3.trans m4.only
  have p4 := Bx.kept p3 m4.only (by simp)
  have e34 := e3.kept m4.only (by simp)
  obtain ⟨A4, d4, rfl, e4, l4, _⟩ := m4.shape opE_length
  clear c0 c1 c2 c3 c4 p3 q3 m4 e3 e2
  simp only at e4 l4 ⊢
  by_cases hy : Y2 = 0
  rotate_left
  · have dy : (Y2 != 0) = true := by simpa using hy
    have hnil : Y1 = [] := hn2.out hy
    subst hnil
    replace hy := Lib.hid hy
    go_wp2_with fail
    refine (alive_any _).mono ?_; rintro e wz ⟨rfl, kz⟩
    go_wp2
    go_ret
    exact ⟨rfl, k4.trans kz⟩
  have dy : (Y2 != 0) = false := by simpa using hy
  obtain ⟨f1, f2, f3⟩ := hfin.out hx.out hy
  replace hy := Lib.hid hy
  have du : (U2 != 0) = false := by simpa using f1
  subst f3
  have dv : (V2 == 0) = true := by simpa using f2
  replace f1 := Lib.hid f1
  replace f2 := Lib.hid f2
  obtain ⟨c0, c1, c2, c3, c4⟩ := p4.cells
  simp only at c0 c1 c2 c3 c4
  go_wp2_with fail
  refine (hSM1.out _ A4 d4 e4 (by have := hb1.out; omega) l4).mono ?_; rintro e w5 ⟨v5, rfl, m5⟩
  have k5 := k4.trans m5.only
  have e35 := e34.kept m5.only (by simp)
  obtain ⟨A5, d5, rfl, e5, l5, _⟩ := m5.shape opE_length
  simp only at e5 l5 ⊢
  have hs := fun W (k : Only [] w5 W) => rsame_yes W A3 A5 d3 d5 V1 (e35.kept k (by simp)) (e5.kept k (by simp)) (by have := hYL.out; have := ha1.out; omega)
  replace hs := Lib.hid hs
  clear c0 c1 c2 c3 c4 p4 m5 e34 e35 e4 e5
  go_wp2_with fail
  refine (alive_any _).mono ?_; rintro e w6 ⟨rfl, k6⟩
  go_wp2_with fail
  refine (hs.out _ k6).mono ?_; rintro e w7 ⟨rfl, k7⟩
  go_wp2
  go_ret
  exact ⟨rfl, k5.trans (k6.trans k7)⟩
end Go.Proofs.Ythclpefomhakdaa
