/- sized, joins, depth. -/
import Derived.Test.YteiekfccfddmjaaDoorKid10
namespace Go.Proofs.YteiekfccfddmjaaDoor
open Go.RowKit

theorem sized_any (w : World) (x : Nd) : Calls Tryd.prog 40 #[ndV x] w fun e w' => e = .returned (.bool (szB x)) ∧ Only [] w w' := by
  obtain ⟨i, p, n, d, s⟩ := x
  unfold ndV szB
  simp only
  cases d
  · go_enter Tryd.func40, Tryd.ntmps40
    go_wp2
    go_ret
    exact ⟨by simp, (Only.refl [] w).alloc _⟩
  · go_enter Tryd.func40, Tryd.ntmps40
    go_wp2
    go_ret
    exact ⟨by simp, (Only.refl [] w).alloc _⟩

theorem not12 (n : Nat) : (!decide (12 ≤ n)) = decide (n < 12) := by
  rw [← decide_not]
  exact decide_eq_decide.2 Nat.not_le
set_option maxRecDepth 100000 in
set_option maxHeartbeats 2000000 in
theorem joins_any (w : World) (A : Option Addr) (c : Nat) (l : List Nd) (x : Nd) (hb : Els ndE 5 w A l) (hl : l.length ≤ 1048576) :
    Calls Tryd.prog 42 #[.slice A l.length c, ndV x] w fun e w' => e = .returned (.bool ((kidN l x.par x.name).isNone && decide (kidsN l x.par < 12))) ∧ Only [] w w' := by
  have hs := fun W (k : Only [] w W) => child_any W A c l x.par x.name (hb.kept k (by simp)) hl
  have hf := fun W (k : Only [] w W) => full_any W A c l x.par (hb.kept k (by simp)) hl
  replace hs := Lib.hid hs
  replace hf := Lib.hid hf
  obtain ⟨i, p, n, d, s⟩ := x
  unfold ndV
  simp only at hs hf ⊢
  have hk0 := (Only.refl [] w).alloc (.cells #[.int .u32 i, .int .u32 p, .string (strOf n), .bool d, .int .u32 s] 28)
  have hb0 := Bx.new w ⟨i, p, n, d, s⟩
  simp only at hb0
  generalize hko : kidN l p n = ko at *
  replace hko := Lib.hid hko
  have hkz : ∀ y : Nd, ∃ a b c d e, ndV y = .agg #[.int .u32 a, .int .u32 b, .string c, .bool d, .int .u32 e] := fun y => ⟨_, _, _, _, _, rfl⟩
  go_enter Tryd.func42, Tryd.ntmps42
  go_wp2_with fail
  refine (hs.out _ hk0).mono ?_; rintro e w1 ⟨rfl, k1⟩
  obtain ⟨c0, c1, c2, c3, c4⟩ := (hb0.kept k1 (by simp)).cells
  have hk1 := hk0.trans k1
  obtain ⟨y0, y1, y2, y3, y4, hy⟩ := hkz (ko.getD zeroN)
  rw [hy]
  cases ko with
  | some y =>
    clear hy
    go_wp2
    go_ret
    exact ⟨rfl, hk1.alloc _⟩
  | none =>
    clear hy
    simp only [Option.isSome_none]
    obtain ⟨c0, c1, c2, c3, c4⟩ := ((hb0.kept k1 (by simp)).alloc (.cells #[.int .u32 y0, .int .u32 y1, .string y2, .bool y3, .int .u32 y4] 28)).cells
    go_wp2_with fail
    refine (hf.out _ (hk1.alloc _)).mono ?_; rintro e w2 ⟨rfl, k2⟩
    have hk2 := (hk1.alloc _).trans k2
    go_wp2
    go_ret
    exact ⟨by rw [not12]; rfl, hk2⟩

/-- The walk up: r is what comes out, behind k steps one is at x. -/
def DpI (t : List Nd) (r k : Nat) (x : Nd) : Prop := k ≤ 7 ∧ r = if k ≤ 6 then ((dpP t (6 - k) x).map (· + k)).getD 7 else 7
theorem dpI_start (t : List Nd) (x : Nd) : DpI t ((dpP t 6 x).getD 7) 0 x := by
  refine ⟨by omega, ?_⟩
  rw [if_pos (by omega)]
  cases dpP t 6 x <;> rfl
theorem dpI_root {t : List Nd} {r k : Nat} {x : Nd} (h : DpI t r k x) (h1 : x.id = 1) : r = k := by
  obtain ⟨h0, h⟩ := h
  by_cases hk : k ≤ 6
  · rw [if_pos hk] at h
    have : dpP t (6 - k) x = some 0 := by cases 6 - k <;> simp [dpP, h1]
    rw [this] at h
    simpa using h
  · rw [if_neg hk] at h
    omega
theorem dpI_end {t : List Nd} {r k : Nat} {x : Nd} (h : DpI t r k x) (h1 : ¬ k ≤ 6) : r = k := by
  obtain ⟨h0, h⟩ := h
  rw [if_neg h1] at h
  omega
theorem dpI_none {t : List Nd} {r k : Nat} {x : Nd} (h : DpI t r k x) (h1 : x.id ≠ 1) (h2 : ∀ p, getI t x.par = some p → p.dir = false) : r = 7 := by
  obtain ⟨h0, h⟩ := h
  by_cases hk : k ≤ 6
  · rw [if_pos hk] at h
    have : dpP t (6 - k) x = none := by
      cases 6 - k with
      | zero => simp [dpP, h1]
      | succ f =>
        rw [dpP, if_neg h1]
        cases hp : getI t x.par with
        | none => rfl
        | some p => simp [h2 p hp]
    rw [this] at h
    exact h
  · rw [if_neg hk] at h
    exact h
theorem dpI_next {t : List Nd} {r k : Nat} {x p : Nd} (h : DpI t r k x) (h1 : x.id ≠ 1) (hk : k ≤ 6) (h2 : getI t x.par = some p) (h3 : p.dir = true) : DpI t r (k + 1) p := by
  obtain ⟨h0, h⟩ := h
  refine ⟨by omega, ?_⟩
  rw [if_pos hk] at h
  by_cases h6 : k = 6
  · subst h6
    rw [if_neg (by omega)]
    simp [dpP, h1] at h
    exact h
  · rw [if_pos (by omega)]
    obtain ⟨f, hf⟩ : ∃ f, 6 - k = f + 1 := ⟨5 - k, by omega⟩
    have hf' : 6 - (k + 1) = f := by omega
    rw [hf, dpP, if_neg h1, h2] at h
    simp only [h3, if_true] at h
    rw [hf', h]
    cases dpP t f p with
    | none => rfl
    | some j => simp; omega

set_option maxRecDepth 100000 in
set_option maxHeartbeats 2000000 in
theorem depth_any (w : World) (A : Option Addr) (c : Nat) (l : List Nd) (x : Nd) (hb : Els ndE 5 w A l) (hr : l.Pairwise (fun a b => a.id < b.id)) (hl : l.length ≤ 1048576) :
    Calls Tryd.prog 41 #[.slice A l.length c, ndV x] w fun e w' => e = .returned (.int .i64 ((dpP l 6 x).getD 7 : Nat)) ∧ Only [] w w' := by
  have hlI : (l.length : Int) ≤ 1048576 := by omega
  have hpl := fun W i (k : Only [] w W) => place_any W A c l i (hb.kept k (by simp)) hr hl
  have hst := dpI_start l x
  generalize (dpP l 6 x).getD 7 = r at *
  replace hpl := Lib.hid hpl
  have hk0 := (Only.refl [] w).alloc (.cells #[.int .u32 x.id, .int .u32 x.par, .string (strOf x.name), .bool x.dir, .int .u32 x.size] 28)
  have hb0 := Bx.new w x
  have hsz : w.heap.size < (w.alloc (.cells #[.int .u32 x.id, .int .u32 x.par, .string (strOf x.name), .bool x.dir, .int .u32 x.size] 28)).heap.size := by simp
  unfold ndV
  go_enter Tryd.func41, Tryd.ntmps41
  go_wp2_with fail
  generalize (w.alloc (.cells #[.int .u32 x.id, .int .u32 x.par, .string (strOf x.name), .bool x.dir, .int .u32 x.size] 28)) = w0 at *
  go_loopw [5] (fun i wr => ∃ (k : Nat) (y : Nd), i = .int .i64 k ∧ Hid (DpI l r k y) ∧ Bx wr w.heap.size y ∧ Only [] w wr ∧ k ≤ 7) (fun i _ => 7 - (intOf i).toNat)
  case atStart => exact ⟨0, x, rfl, hst, hb0, hk0, by omega⟩
  case round =>
    clear hst hb0 hk0 hsz
    obtain ⟨k, y, rfl, hI, hby, hk, hk7⟩ := hrel
    obtain ⟨c0, c1, c2, c3, c4⟩ := hby.cells
    by_cases h1 : y.id = 1
    · have hrk := dpI_root hI.out h1
      subst hrk
      rw [h1] at c0
      replace h1 := Lib.hid h1
      go_wp2
      go_ret
      exact ⟨rfl, hk⟩
    · have h1b : (y.id != 1) = true := by simpa using h1
      by_cases h6 : k ≤ 6
      · have hpos : ∀ p, getI l y.par = some p → l[posN l y.par]? = some p := fun p h => getI_pos hr h
        have hnx := fun p => dpI_next hI.out h1 h6 (p := p)
        have hno := dpI_none hI.out h1
        generalize hgo : getI l y.par = go at *
        generalize hpo : posN l y.par = po at *
        have hcall := hpl.out wr y.par hk
        rw [hgo, hpo] at hcall
        replace hgo := Lib.hid hgo
        replace hpo := Lib.hid hpo
        cases go with
        | none =>
          have hr7 := hno (by simp)
          replace hnx := Lib.hid hnx
          clear hno hpos
          subst hr7
          simp only [Option.isSome_none] at hcall
          replace hcall := Lib.hid hcall
          go_wp2_with fail
          refine hcall.out.mono ?_; rintro e w3 ⟨rfl, k3⟩
          go_wp2
          go_ret
          exact ⟨rfl, hk.trans k3⟩
        | some p =>
          have hpp := hpos p rfl
          simp only [Option.isSome_some] at hcall
          have hlt : po < l.length := (List.getElem?_eq_some_iff.1 hpp).1
          obtain ⟨g, o, rfl, hg, hat⟩ := hb.get hlt
          have hpe : l[po] = p := (List.getElem?_eq_some_iff.1 hpp).2
          have hcells := fun W (kk : Only [] w W) => nds_at (hat.kept kk (by simp)) hlt
          rw [hpe] at hcells
          clear hat hpos
          replace hpe := Lib.hid hpe
          replace hpp := Lib.hid hpp
          cases hd : p.dir with
          | false =>
            have hr7 := hno (fun q hq => by injection hq with hq; rw [← hq]; exact hd)
            replace hnx := Lib.hid hnx
            clear hno
            subst hr7
            rw [hd] at hcells
            replace hcall := Lib.hid hcall
            replace hcells := Lib.hid hcells
            go_wp2_with fail
            refine hcall.out.mono ?_; rintro e w3 ⟨rfl, k3⟩
            obtain ⟨d0, d1, d2, d3, d4⟩ := hcells.out _ (hk.trans k3)
            go_wp2
            go_ret
            exact ⟨rfl, hk.trans k3⟩
          | true =>
            have hnx' := hnx p rfl hd
            rw [hd] at hcells
            replace hnx := Lib.hid hnx
            replace hnx' := Lib.hid hnx'
            replace hcall := Lib.hid hcall
            replace hcells := Lib.hid hcells
            replace hno := Lib.hid hno
            have hvp : ndV p = .agg #[.int .u32 p.id, .int .u32 p.par, .string (strOf p.name), .bool true, .int .u32 p.size] := by rw [← hd]; rfl
            go_wp2_with fail
            refine hcall.out.mono ?_; rintro e w3 ⟨rfl, k3⟩
            have hk3 := hk.trans k3
            obtain ⟨d0, d1, d2, d3, d4⟩ := hcells.out _ hk3
            have hb3 : Bx w3 w.heap.size y := hby.kept k3 (by simp)
            obtain ⟨c0, c1, c2, c3, c4⟩ := hb3.cells
            go_wp2_with (refine wpList_store_nd p y rfl _ _ rfl w.heap.size rfl hvp.symm hb3 ?_; intro w5 b5 k5)
            go_roundw
            case rel => exact ⟨k + 1, p, by go_num, hnx', b5, hk3.then k5 (by intro i hi; simp at hi; subst hi; exact .inr (Nat.le_refl _)), by omega⟩
            case measure => simp [intOf]; omega
      · have hrk := dpI_end hI.out h6
        subst hrk
        have h6b : ¬ (r : Int) ≤ 6 := by omega
        go_wp2
        go_ret
        exact ⟨rfl, hk⟩
end Go.Proofs.YteiekfccfddmjaaDoor
