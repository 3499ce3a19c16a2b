/- Inodes in memory; an inode's place in a list whose Ids rise (slices.BinarySearchFunc, walked). -/
import Derived.Test.YteiekfccfddmjaaDoorStr10
import Derived.Test.YteiekfccfddmjaaDoorTr2
namespace Go.Proofs.YteiekfccfddmjaaDoor
open Go.RowKit

def intOf : Value → Int
  | .int _ x => x
  | _ => 0

def ndE (x : Nd) : List Value := [.int .u32 x.id, .int .u32 x.par, .string (strOf x.name), .bool x.dir, .int .u32 x.size]
def ndV (x : Nd) : Value := .agg #[.int .u32 x.id, .int .u32 x.par, .string (strOf x.name), .bool x.dir, .int .u32 x.size]
theorem ndE_length (x : Nd) : (ndE x).length = 5 := rfl
theorem ndE_one (x : Nd) : ∀ v ∈ ndE x, v.oneCell' = true := by
  intro v hv
  simp [ndE] at hv
  rcases hv with rfl | rfl | rfl | rfl | rfl <;> rfl
theorem info_nd : (Tryd.prog.info? 28).map (fun i => (i.zero, i.size, i.bytes)) = some (some (.agg #[.int .u32 0, .int .u32 0, .string ⟨#[]⟩, .bool false, .int .u32 0]), 5, 32) := by kernel_rfl
theorem nds_at {w : World} {g o : Nat} {l : List Nd} (h : ElsAt ndE 5 w g o l) {i : Nat} (hi : i < l.length) :
    w.cell? ⟨g, o + i * 5, none⟩ = some (.int .u32 l[i].id) ∧ w.cell? ⟨g, o + i * 5 + 1, none⟩ = some (.int .u32 l[i].par) ∧ w.cell? ⟨g, o + i * 5 + 2, none⟩ = some (.string (strOf l[i].name)) ∧ w.cell? ⟨g, o + i * 5 + 3, none⟩ = some (.bool l[i].dir) ∧ w.cell? ⟨g, o + i * 5 + 4, none⟩ = some (.int .u32 l[i].size) :=
  ⟨by simpa using h i hi 0 _ rfl, h i hi 1 _ rfl, h i hi 2 _ rfl, h i hi 3 _ rfl, h i hi 4 _ rfl⟩
theorem strOf_nil : strOf [] = ⟨#[]⟩ := rfl
theorem ndV_zero : ndV zeroN = .agg #[.int .u32 0, .int .u32 0, .string ⟨#[]⟩, .bool false, .int .u32 0] := rfl

/-- What lies ahead of a number. -/
def posN (l : List Nd) (i : Int) : Nat := l.countP (fun x => decide (x.id < i))
theorem posN_le (l : List Nd) (i : Int) : posN l i ≤ l.length := List.countP_le_length
theorem posN_iff {l : List Nd} (h : l.Pairwise (fun a b => a.id < b.id)) {i : Int} : ∀ {j : Nat} {x : Nd}, l[j]? = some x → (x.id < i ↔ j < posN l i) := by
  induction l with
  | nil => intro j x hx; simp at hx
  | cons a r ih =>
    rw [List.pairwise_cons] at h
    intro j x hx
    unfold posN
    rw [List.countP_cons]
    cases j with
    | zero =>
      simp only [List.getElem?_cons_zero, Option.some.injEq] at hx
      subst hx
      by_cases e : a.id < i
      · simp [e]
      · have h0 : r.countP (fun x => decide (x.id < i)) = 0 := by
          rw [List.countP_eq_zero]
          intro y hy
          have := h.1 y hy
          simp
          omega
        simp [e]
        intro y hy
        have := h.1 y hy
        omega
    | succ j =>
      simp only [List.getElem?_cons_succ] at hx
      have := ih h.2 hx
      unfold posN at this
      by_cases e : a.id < i
      · simp [e]
        omega
      · have hax := h.1 x (List.mem_of_getElem? hx)
        have h0 : r.countP (fun x => decide (x.id < i)) = 0 := by
          rw [List.countP_eq_zero]
          intro y hy
          have := h.1 y hy
          simp
          omega
        simp [e]
        omega
theorem getI_pos {l : List Nd} (h : l.Pairwise (fun a b => a.id < b.id)) {i : Int} {x : Nd} (hx : getI l i = some x) : l[posN l i]? = some x := by
  obtain ⟨h1, h2⟩ := getI_mem hx
  obtain ⟨j, hj, rfl⟩ := List.getElem_of_mem h1
  have hjx : l[j]? = some l[j] := List.getElem?_eq_getElem hj
  have hn : ¬ j < posN l i := fun e => by have := (posN_iff h hjx).2 e; omega
  have hp : posN l i ≤ j := by omega
  have hp' : l[posN l i]? = some (l[posN l i]'(by omega)) := List.getElem?_eq_getElem (by omega)
  rw [hp']
  congr 1
  have h3 : ¬ (l[posN l i]'(by omega)).id < i := fun e => by have := (posN_iff h hp').1 e; omega
  rcases Nat.lt_or_eq_of_le hp with e | e
  · have := (List.pairwise_iff_getElem.1 h) (posN l i) j (by omega) hj e
    omega
  · simp only [← e]
theorem getI_at {l : List Nd} {i : Int} (h : l.Pairwise (fun a b => a.id < b.id)) : getI l i = match l[posN l i]? with | some x => if x.id = i then some x else none | none => none := by
  cases hg : getI l i with
  | some x => rw [getI_pos h hg]; simp [(getI_mem hg).2]
  | none =>
    cases hp : l[posN l i]? with
    | none => rfl
    | some x => simp [getI_none hg x (List.mem_of_getElem? hp)]

def cmpI (a b : Int) : Int := if a < b then -1 else if b < a then 1 else 0
theorem nan_any (w : World) (a : Int) : Calls Tryd.prog 73 #[.int .u32 a] w fun e w' => e = .returned (.bool false) ∧ w' = w := by
  go_enter Tryd.func73, Tryd.ntmps73
  go_wp2
  go_ret
  exact ⟨rfl, rfl⟩
theorem cmp_any (w : World) (a b : Int) : Calls Tryd.prog 64 #[.int .u32 a, .int .u32 b] w fun e w' => e = .returned (.int .i64 (cmpI a b)) ∧ w' = w := by
  unfold cmpI
  by_cases h : a < b
  · rw [if_pos h]
    go_enter Tryd.func64, Tryd.ntmps64
    go_wp2_with fail
    refine (nan_any _ _).mono ?_; rintro e w1 ⟨rfl, rfl⟩
    go_wp2_with fail
    refine (nan_any _ _).mono ?_; rintro e w1 ⟨rfl, rfl⟩
    go_wp2
    go_ret
    exact ⟨rfl, rfl⟩
  · rw [if_neg h]
    by_cases h2 : b < a
    · rw [if_pos h2]
      go_enter Tryd.func64, Tryd.ntmps64
      go_wp2_with fail
      refine (nan_any _ _).mono ?_; rintro e w1 ⟨rfl, rfl⟩
      go_wp2_with fail
      refine (nan_any _ _).mono ?_; rintro e w1 ⟨rfl, rfl⟩
      go_wp2
      go_ret
      exact ⟨rfl, rfl⟩
    · rw [if_neg h2]
      go_enter Tryd.func64, Tryd.ntmps64
      go_wp2_with fail
      refine (nan_any _ _).mono ?_; rintro e w1 ⟨rfl, rfl⟩
      go_wp2_with fail
      refine (nan_any _ _).mono ?_; rintro e w1 ⟨rfl, rfl⟩
      go_wp2
      go_ret
      exact ⟨rfl, rfl⟩
theorem by_id (w : World) (x : Nd) (b : Int) : Calls Tryd.prog 63 #[ndV x, .int .u32 b] w fun e w' => e = .returned (.int .i64 (cmpI x.id b)) ∧ Only [] w w' := by
  obtain ⟨i, p, n, d, s⟩ := x
  unfold ndV
  simp only
  go_enter Tryd.func63, Tryd.ntmps63
  go_wp2_with fail
  refine (cmp_any _ _ _).mono ?_; rintro e w1 ⟨rfl, rfl⟩
  go_wp2
  go_ret
  exact ⟨rfl, (Only.refl [] w).alloc _⟩

set_option maxRecDepth 100000 in
set_option maxHeartbeats 2000000 in
theorem search_any (w : World) (A : Option Addr) (c : Nat) (l : List Nd) (i : Int) (hb : Els ndE 5 w A l) (hr : l.Pairwise (fun a b => a.id < b.id)) (hl : l.length ≤ 1048576) :
    Calls Tryd.prog 62 #[.slice A l.length c, .int .u32 i, .func (.func 63) #[] #[]] w fun e w' => e = .returned (.tuple #[.int .i64 (posN l i : Nat), .bool (getI l i).isSome]) ∧ Only [] w w' := by
  have hlI : (l.length : Int) ≤ 1048576 := by omega
  have hp := posN_le l i
  have hat := getI_at (i := i) hr
  have hiff := fun (j : Nat) (x : Nd) => posN_iff hr (i := i) (j := j) (x := x)
  generalize getI l i = gi at *
  generalize posN l i = p at *
  replace hat := Lib.hid hat
  replace hiff := Lib.hid hiff
  replace hr := Lib.hid hr
  go_enter Tryd.func62, Tryd.ntmps62
  go_wp2_with fail
  go_loopw [9, 10] (fun a b wr => ∃ lo hi : Nat, a = .int .i64 lo ∧ b = .int .i64 hi ∧ lo ≤ p ∧ p ≤ hi ∧ hi ≤ l.length ∧ Only [] w wr) (fun a b _ => (intOf b - intOf a).toNat)
  case atStart => exact ⟨0, l.length, rfl, rfl, Nat.zero_le _, hp, Nat.le_refl _, Only.refl _ _⟩
  case round =>
    obtain ⟨lo, hi, rfl, rfl, h1, h2, h3, hk⟩ := hrel
    by_cases hlt : lo < hi
    · have hm : (lo + hi) / 2 < l.length := by omega
      obtain ⟨g, o, rfl, hg, hca⟩ := hb.get hm
      obtain ⟨c0, c1, c2, c3, c4⟩ := nds_at (hca.kept hk (by simp)) hm
      have hx : l[(lo + hi) / 2]? = some l[(lo + hi) / 2] := List.getElem?_eq_getElem hm
      have hpx := hiff.out _ _ hx
      have hc := fun W => by_id W l[(lo + hi) / 2] i
      generalize l[(lo + hi) / 2] = x at *
      obtain ⟨xi, xp, xn, xd, xs⟩ := x
      simp only [ndV] at c0 c1 c2 c3 c4 hpx hc
      replace hx := Lib.hid hx
      replace hc := Lib.hid hc
      by_cases hlow : xi < i
      · have hq := hpx.1 hlow
        have hcm : cmpI xi i = -1 := by simp [cmpI, hlow]
        rw [hcm] at hc
        clear hca hpx
        go_wp2_with fail
        refine (hc.out _).mono ?_; rintro e w3 ⟨rfl, k3⟩
        go_wp2_with fail
        go_roundw
        case rel => exact ⟨(lo + hi) / 2 + 1, hi, by go_num, rfl, by omega, h2, h3, hk.trans k3⟩
        case measure => simp [intOf]; omega
      · have hq : ¬ (lo + hi) / 2 < p := fun e => hlow (hpx.2 e)
        have hcm : ¬ cmpI xi i < 0 := by unfold cmpI; rw [if_neg hlow]; split <;> omega
        generalize cmpI xi i = cc at *
        clear hca hpx
        go_wp2_with fail
        refine (hc.out _).mono ?_; rintro e w3 ⟨rfl, k3⟩
        go_wp2_with fail
        go_roundw
        case rel => exact ⟨lo, (lo + hi) / 2, rfl, by go_num, h1, by omega, by omega, hk.trans k3⟩
        case measure => simp [intOf]; omega
    · obtain rfl : lo = p := by omega
      obtain rfl : lo = hi := by omega
      by_cases hn : lo < l.length
      · obtain ⟨g, o, rfl, hg, hca⟩ := hb.get hn
        obtain ⟨c0, c1, c2, c3, c4⟩ := nds_at (hca.kept hk (by simp)) hn
        have hx : l[lo]? = some l[lo] := List.getElem?_eq_getElem hn
        have hc := fun W => by_id W l[lo] i
        have hga := hat.out
        rw [hx] at hga
        generalize l[lo] = x at *
        obtain ⟨xi, xp, xn, xd, xs⟩ := x
        simp only [ndV] at c0 c1 c2 c3 c4 hc hga
        have hres : (cmpI xi i == 0) = gi.isSome := by
          rw [hga]
          unfold cmpI
          by_cases e : xi = i
          · simp [e]
          · rw [if_neg e]
            split
            · rfl
            · split
              · rfl
              · omega
        have hres' : decide (cmpI xi i = 0) = gi.isSome := by rw [← hres]; rfl
        replace hx := Lib.hid hx
        replace hc := Lib.hid hc
        clear hga hca
        generalize cmpI xi i = cc at *
        go_wp2_with fail
        refine (hc.out _).mono ?_; rintro e w3 ⟨rfl, k3⟩
        go_wp2
        go_ret2
        exact ⟨by simp, hk.trans k3⟩
      · have hga := hat.out
        rw [List.getElem?_eq_none (by omega)] at hga
        subst hga
        go_wp2
        go_ret2
        exact ⟨rfl, hk⟩

theorem place_any (w : World) (A : Option Addr) (c : Nat) (l : List Nd) (i : Int) (hb : Els ndE 5 w A l) (hr : l.Pairwise (fun a b => a.id < b.id)) (hl : l.length ≤ 1048576) :
    Calls Tryd.prog 38 #[.slice A l.length c, .int .u32 i] w fun e w' => e = .returned (.tuple #[.int .i64 (posN l i : Nat), .bool (getI l i).isSome]) ∧ Only [] w w' := by
  have hs := fun W (k : Only [] w W) => search_any W A c l i (hb.kept k (by simp)) hr hl
  replace hs := Lib.hid hs
  go_enter Tryd.func38, Tryd.ntmps38
  go_wp2_with fail
  refine (hs.out _ (Only.refl _ _)).mono ?_; rintro e w3 ⟨rfl, k3⟩
  go_wp2
  go_ret2
  exact ⟨rfl, k3⟩
end Go.Proofs.YteiekfccfddmjaaDoor
