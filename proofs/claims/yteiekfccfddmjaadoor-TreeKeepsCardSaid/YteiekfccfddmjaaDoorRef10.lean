/- The document's Get, Kid, Kids, Depth. -/
import Derived.Test.YteiekfccfddmjaaDoorDep10
namespace Go.Proofs.YteiekfccfddmjaaDoor
open Go.RowKit

def idxI (t : List Nd) (i : Int) : Option Nat := t.findIdx? (fun x => x.id == i)
def idxV : Option Nat → Value
  | some k => .int .i64 k
  | none => .int .i64 (-1)
theorem idxI_none_of {t : List Nd} {i : Int} (h : ∀ x ∈ t, x.id ≠ i) : idxI t i = none := by
  rw [idxI, List.findIdx?_eq_none_iff]
  intro x hx
  simpa using h x hx
theorem idxI_of {t : List Nd} {i : Int} {n : Nat} {x : Nd} (h : ∀ j y, j < n → t[j]? = some y → y.id ≠ i) (hx : t[n]? = some x) (e : x.id = i) : idxI t i = some n := by
  rw [idxI, List.findIdx?_eq_some_iff_getElem]
  obtain ⟨h1, h2⟩ := List.getElem?_eq_some_iff.1 hx
  refine ⟨h1, by rw [h2]; simpa using e, fun j hj => ?_⟩
  have := h j _ hj (List.getElem?_eq_getElem (by omega))
  simpa using this
theorem idxI_get {t : List Nd} {i : Int} : (idxI t i).bind (fun k => t[k]?) = getI t i := by
  cases h : idxI t i with
  | none =>
    rw [idxI, List.findIdx?_eq_none_iff] at h
    rw [getI_none_of (fun x hx e => by have := h x hx; simp [e] at this)]
    rfl
  | some k =>
    rw [idxI, List.findIdx?_eq_some_iff_getElem] at h
    obtain ⟨h1, h2, h3⟩ := h
    simp only [Option.bind_some]
    have h4 : getI t i = some t[k] := by
      rw [getI, List.find?_eq_some_iff_getElem]
      exact ⟨h2, k, h1, rfl, fun j hj => by have := h3 j hj; simpa using this⟩
    rw [h4]
    exact List.getElem?_eq_getElem h1
theorem idxI_some {t : List Nd} {i : Int} {k : Nat} (h : idxI t i = some k) : ∃ x, t[k]? = some x ∧ x.id = i ∧ getI t i = some x := by
  have h0 := idxI_get (t := t) (i := i)
  rw [h] at h0
  rw [idxI, List.findIdx?_eq_some_iff_getElem] at h
  obtain ⟨h1, h2, h3⟩ := h
  simp only [Option.bind_some] at h0
  refine ⟨t[k], List.getElem?_eq_getElem h1, by simpa using h2, ?_⟩
  rw [← h0]
  exact List.getElem?_eq_getElem h1

set_option maxRecDepth 100000 in
set_option maxHeartbeats 2000000 in
theorem rget_any (w : World) (A : Option Addr) (c : Nat) (l : List Nd) (i : Int) (hb : Els ndE 5 w A l) (hl : l.length ≤ 1048576) :
    Calls Tryd.prog 15 #[.slice A l.length c, .int .u32 i] w fun e w' => e = .returned (idxV (idxI l i)) ∧ Only [] w w' := by
  have hlI : (l.length : Int) ≤ 1048576 := by omega
  obtain ⟨ko, hko⟩ : ∃ ko, ko = idxI l i := ⟨_, rfl⟩
  rw [← hko]
  replace hko := Lib.hid hko
  go_enter Tryd.func15, Tryd.ntmps15
  go_wp2_with fail
  go_loopw [5] (fun a wr => ∃ n : Nat, n ≤ l.length ∧ a = .int .i64 n ∧ Hid (∀ j y, j < n → l[j]? = some y → y.id ≠ i) ∧ wr = w) (fun a _ => l.length - (intOf a).toNat)
  case atStart => exact ⟨0, Nat.zero_le _, rfl, fun j y hj => by omega, rfl⟩
  case round =>
    obtain ⟨n, hn, rfl, hm, rfl⟩ := hrel
    by_cases hlt : n < l.length
    · obtain ⟨g, o, rfl, hg, hat⟩ := hb.get hlt
      obtain ⟨c0, c1, c2, c3, c4⟩ := nds_at hat hlt
      have hx : l[n]? = some l[n] := List.getElem?_eq_getElem hlt
      have hfd := fun e => idxI_of hm.out hx e
      have hnx : l[n].id ≠ i → Hid (∀ j y, j < n + 1 → l[j]? = some y → y.id ≠ i) := fun e j y hj hy => by
        by_cases hjn : j = n
        · subst hjn; rw [hx] at hy; injection hy with hy; rw [← hy]; exact e
        · exact hm.out j y (by omega) hy
      generalize l[n] = x at *
      obtain ⟨xi, xp, xn, xd, xs⟩ := x
      simp only at c0 c1 c2 c3 c4 hfd hnx
      replace hx := Lib.hid hx
      clear hat
      by_cases he : xi = i
      · have hfin := hfd he
        have hv : Hid ((.int .i64 (n : Int) : Value) = idxV ko) := by rw [hko.out, hfin]; exact rfl
        subst he
        clear hfin hfd hnx
        go_wp2
        go_ret
        exact ⟨congrArg Ending.returned hv.out, Only.refl _ _⟩
      · have hn' := hnx he
        clear hfd hnx
        go_wp2
        go_roundw
        case rel => exact ⟨n + 1, by omega, by go_num, hn', by trivial⟩
        case measure => simp [intOf]; omega
    · have hv : Hid ((.int .i64 (-1) : Value) = idxV ko) := by
        rw [hko.out, idxI_none_of (fun x hx => by
          obtain ⟨j, hj, rfl⟩ := List.getElem_of_mem hx
          exact hm.out j _ (by omega) (List.getElem?_eq_getElem hj))]
        exact rfl
      go_wp2
      go_ret
      exact ⟨congrArg Ending.returned hv.out, Only.refl _ _⟩

theorem kidX_none_of {t : List Nd} {d : Int} {s : List UInt8} (h : ∀ x ∈ t.tail, ¬ (x.par = d ∧ x.name = s)) : kidX t d s = none := by
  rw [kidX, Option.map_eq_none_iff, List.findIdx?_eq_none_iff]
  intro x hx
  have := h x hx
  simpa using this
theorem kidX_first {t : List Nd} {d : Int} {s : List UInt8} {n : Nat} {x : Nd} (h1 : 1 ≤ n) (h : ∀ j y, 1 ≤ j → j < n → t[j]? = some y → ¬ (y.par = d ∧ y.name = s)) (hx : t[n]? = some x) (e1 : x.par = d) (e2 : x.name = s) : kidX t d s = some n := by
  obtain ⟨m, rfl⟩ : ∃ m, n = m + 1 := ⟨n - 1, by omega⟩
  have hx' : t.tail[m]? = some x := by rw [List.getElem?_tail]; exact hx
  obtain ⟨q1, q2⟩ := List.getElem?_eq_some_iff.1 hx'
  have : t.tail.findIdx? (fun x => x.par == d && x.name == s) = some m := by
    rw [List.findIdx?_eq_some_iff_getElem]
    refine ⟨q1, by rw [q2]; simp [e1, e2], fun j hj => ?_⟩
    have hy : t[j + 1]? = some (t.tail[j]'(by omega)) := by rw [← List.getElem?_tail]; exact List.getElem?_eq_getElem _
    have := h (j + 1) _ (by omega) (by omega) hy
    simpa using this
  rw [kidX, this]
  rfl

set_option maxRecDepth 100000 in
set_option maxHeartbeats 2000000 in
theorem rkid_same (w : World) (A : Option Addr) (c : Nat) (l : List Nd) (d : Int) (s : List UInt8) (hb : Els ndE 5 w A l) (hl : l.length ≤ 1048576) (hl1 : 1 ≤ l.length) :
    Calls Tryd.prog 35 #[.slice A l.length c, .int .u32 d, .string (strOf s)] w fun e w' => e = .returned (idxV (kidX l d s)) ∧ w' = w := by
  have hlI : (l.length : Int) ≤ 1048576 := by omega
  have hbe := fun x : List UInt8 => beq_toList x s
  obtain ⟨sb, hsb⟩ : ∃ sb, sb = strOf s := ⟨_, rfl⟩
  rw [← hsb] at hbe ⊢
  replace hbe := Lib.hid hbe
  replace hsb := Lib.hid hsb
  obtain ⟨ko, hko⟩ : ∃ ko, ko = kidX l d s := ⟨_, rfl⟩
  rw [← hko]
  replace hko := Lib.hid hko
  go_enter Tryd.func35, Tryd.ntmps35
  go_wp2_with fail
  go_loopw [7] (fun a wr => ∃ n : Nat, 1 ≤ n ∧ n ≤ l.length ∧ a = .int .i64 n ∧ Hid (∀ j y, 1 ≤ j → j < n → l[j]? = some y → ¬ (y.par = d ∧ y.name = s)) ∧ wr = w) (fun a _ => l.length - (intOf a).toNat)
  case atStart => exact ⟨1, by omega, hl1, rfl, fun j y h1 hj => by omega, rfl⟩
  case round =>
    obtain ⟨n, hn1, hn, rfl, hm, rfl⟩ := hrel
    by_cases hlt : n < l.length
    · obtain ⟨g, o, rfl, hg, hat⟩ := hb.get hlt
      obtain ⟨c0, c1, c2, c3, c4⟩ := nds_at hat hlt
      have hx : l[n]? = some l[n] := List.getElem?_eq_getElem hlt
      have hfd := fun e1 e2 => kidX_first hn1 hm.out hx e1 e2
      have hnx : ¬ (l[n].par = d ∧ l[n].name = s) → Hid (∀ j y, 1 ≤ j → j < n + 1 → l[j]? = some y → ¬ (y.par = d ∧ y.name = s)) := fun e j y h1 hj hy => by
        by_cases hjn : j = n
        · subst hjn; rw [hx] at hy; injection hy with hy; rw [← hy]; exact e
        · exact hm.out j y h1 (by omega) hy
      have hbx := hbe.out l[n].name
      generalize l[n] = x at *
      obtain ⟨xi, xp, xn, xd, xs⟩ := x
      simp only at c0 c1 c2 c3 c4 hfd hnx hbx
      replace hx := Lib.hid hx
      clear hat
      by_cases he : xp = d
      · subst he
        by_cases he2 : xn = s
        · have hb1 : ((strOf xn).toList == sb.toList) = true := by rw [hbx]; simpa using he2
          have hfin := hfd rfl he2
          have hv : Hid ((.int .i64 (n : Int) : Value) = idxV ko) := by rw [hko.out, hfin]; exact rfl
          clear hfin hfd hnx
          replace he2 := Lib.hid he2
          generalize strOf xn = xb at *
          replace hbx := Lib.hid hbx
          go_wp2
          go_ret
          exact ⟨congrArg Ending.returned hv.out, rfl⟩
        · have hb1 : ((strOf xn).toList == sb.toList) = false := by rw [hbx]; simpa using he2
          have hn' := hnx (fun h => he2 h.2)
          clear hfd hnx
          replace he2 := Lib.hid he2
          generalize strOf xn = xb at *
          replace hbx := Lib.hid hbx
          go_wp2
          go_roundw
          case rel => exact ⟨n + 1, by omega, by omega, by go_num, hn', by trivial⟩
          case measure => simp [intOf]; omega
      · have hn' := hnx (fun h => he h.1)
        clear hfd hnx
        generalize strOf xn = xb at *
        replace hbx := Lib.hid hbx
        go_wp2
        go_roundw
        case rel => exact ⟨n + 1, by omega, by omega, by go_num, hn', by trivial⟩
        case measure => simp [intOf]; omega
    · have hv : Hid ((.int .i64 (-1) : Value) = idxV ko) := by
        rw [hko.out, kidX_none_of (fun x hx => by
          obtain ⟨j, h1, h2, h3⟩ := tail_pos hx
          exact hm.out j _ h1 (by omega) h3)]
        exact rfl
      go_wp2
      go_ret
      exact ⟨congrArg Ending.returned hv.out, rfl⟩

theorem rkid_any (w : World) (A : Option Addr) (c : Nat) (l : List Nd) (d : Int) (s : List UInt8) (hb : Els ndE 5 w A l) (hl : l.length ≤ 1048576) (hl1 : 1 ≤ l.length) :
    Calls Tryd.prog 35 #[.slice A l.length c, .int .u32 d, .string (strOf s)] w fun e w' => e = .returned (idxV (kidX l d s)) ∧ Only [] w w' :=
  (rkid_same w A c l d s hb hl hl1).mono fun e w' ⟨he, hw⟩ => ⟨he, by rw [hw]; exact Only.refl _ _⟩

theorem kids1_take {l : List Nd} {d : Int} {n : Nat} {x : Nd} (h1 : 1 ≤ n) (h : l[n]? = some x) : kids1 (l.take (n + 1)) d = kids1 (l.take n) d + (if x.par = d then 1 else 0) := by
  rw [get_snoc h]
  unfold kids1
  have : l.take n ≠ [] := by
    intro e
    have he := congrArg List.length e
    have hl := (List.getElem?_eq_some_iff.1 h).1
    rw [List.length_take, List.length_nil] at he
    omega
  rw [List.tail_append_of_ne_nil this, List.countP_append]
  by_cases e : x.par = d <;> simp [e]
set_option maxRecDepth 100000 in
set_option maxHeartbeats 2000000 in
theorem rkids_any (w : World) (A : Option Addr) (c : Nat) (l : List Nd) (d : Int) (hb : Els ndE 5 w A l) (hl : l.length ≤ 1048576) (hl1 : 1 ≤ l.length) :
    Calls Tryd.prog 36 #[.slice A l.length c, .int .u32 d] w fun e w' => e = .returned (.int .i64 (kids1 l d : Nat)) ∧ Only [] w w' := by
  have hlI : (l.length : Int) ≤ 1048576 := by omega
  go_enter Tryd.func36, Tryd.ntmps36
  go_wp2_with fail
  go_loopw [6, 5] (fun i s wr => ∃ n m : Nat, 1 ≤ n ∧ n ≤ l.length ∧ i = .int .i64 n ∧ s = .int .i64 m ∧ m ≤ n ∧ Hid (m = kids1 (l.take n) d) ∧ wr = w) (fun i _ _ => l.length - (intOf i).toNat)
  case atStart => exact ⟨1, 0, by omega, hl1, rfl, rfl, by omega, (by cases l <;> simp [kids1] : 0 = kids1 (l.take 1) d), rfl⟩
  case round =>
    obtain ⟨n, m, hn1, hn, rfl, rfl, hmn, hm, rfl⟩ := hrel
    by_cases hlt : n < l.length
    · obtain ⟨g, o, rfl, hg, hat⟩ := hb.get hlt
      obtain ⟨c0, c1, c2, c3, c4⟩ := nds_at hat hlt
      have hx : l[n]? = some l[n] := List.getElem?_eq_getElem hlt
      have hst := kids1_take (d := d) hn1 hx
      generalize l[n] = x at *
      obtain ⟨xi, xp, xn, xd, xs⟩ := x
      simp only at c0 c1 c2 c3 c4 hst
      clear hat
      by_cases he : xp = d
      · subst he
        rw [if_pos rfl] at hst
        have hm' : Hid (m + 1 = kids1 (l.take (n + 1)) xp) := by rw [hst, ← hm.out]; exact rfl
        replace hst := Lib.hid hst
        replace hx := Lib.hid hx
        go_wp2
        go_roundw
        case rel => exact ⟨n + 1, m + 1, by omega, by omega, by go_num, by go_num, by omega, hm', by trivial⟩
        case measure => simp [intOf]; omega
      · rw [if_neg he] at hst
        have hm' : Hid (m = kids1 (l.take (n + 1)) d) := by rw [hst, ← hm.out]; rfl
        replace hst := Lib.hid hst
        replace hx := Lib.hid hx
        go_wp2
        go_roundw
        case rel => exact ⟨n + 1, m, by omega, by omega, by go_num, rfl, by omega, hm', by trivial⟩
        case measure => simp [intOf]; omega
    · have hm' : m = kids1 l d := by have := hm.out; rwa [List.take_of_length_le (by omega)] at this
      subst hm'
      go_wp2
      go_ret
      exact ⟨rfl, Only.refl _ _⟩

/-- The document's walk up: r is what comes out (99: too deep), behind k steps one is at x. -/
def DrI (t : List Nd) (r k : Nat) (x : Nd) : Prop := k ≤ 7 ∧ r = ((dpR t (7 - k) x).map (· + k)).getD 99
theorem drI_start (t : List Nd) (x : Nd) : DrI t ((dpR t 7 x).getD 99) 0 x := by
  refine ⟨by omega, ?_⟩
  cases dpR t 7 x <;> rfl
theorem drI_root {t : List Nd} {r k : Nat} {x : Nd} (h : DrI t r k x) (h1 : x.id = 1) : r = k := by
  obtain ⟨h0, h⟩ := h
  have : dpR t (7 - k) x = some 0 := by cases 7 - k <;> simp [dpR, h1]
  rw [this] at h
  simpa using h
theorem drI_none {t : List Nd} {r k : Nat} {x : Nd} (h : DrI t r k x) (h1 : x.id ≠ 1) (h2 : getI t x.par = none ∨ 6 < k) : r = 99 := by
  obtain ⟨h0, h⟩ := h
  have : dpR t (7 - k) x = none := by
    rcases h2 with h2 | h2
    · cases 7 - k with
      | zero => simp [dpR, h1]
      | succ f => rw [dpR, if_neg h1, h2]
    · rw [show 7 - k = 0 by omega]; simp [dpR, h1]
  rw [this] at h
  exact h
theorem drI_next {t : List Nd} {r k : Nat} {x p : Nd} (h : DrI t r k x) (h1 : x.id ≠ 1) (hk : k ≤ 6) (h2 : getI t x.par = some p) : DrI t r (k + 1) p := by
  obtain ⟨h0, h⟩ := h
  refine ⟨by omega, ?_⟩
  obtain ⟨f, hf⟩ : ∃ f, 7 - k = f + 1 := ⟨6 - k, by omega⟩
  have hf' : 7 - (k + 1) = f := by omega
  rw [hf, dpR, if_neg h1, h2] at h
  simp only at h
  rw [hf', h]
  cases dpR t f p with
  | none => rfl
  | some j => simp; omega

set_option maxRecDepth 100000 in
set_option maxHeartbeats 2000000 in
theorem rdepth_any (w : World) (A : Option Addr) (c : Nat) (l : List Nd) (i : Nat) (x : Nd) (hx : l[i]? = some x) (hb : Els ndE 5 w A l) (hl : l.length ≤ 1048576) :
    Calls Tryd.prog 37 #[.slice A l.length c, .int .i64 i] w fun e w' => e = .returned (.int .i64 ((dpR l 7 x).getD 99 : Nat)) ∧ Only [] w w' := by
  have hlI : (l.length : Int) ≤ 1048576 := by omega
  have hil : i < l.length := (List.getElem?_eq_some_iff.1 hx).1
  have hpl := fun W j (k : Only [] w W) => rget_any W A c l j (hb.kept k (by simp)) hl
  have hst := drI_start l x
  generalize (dpR l 7 x).getD 99 = r at *
  replace hpl := Lib.hid hpl
  replace hx := Lib.hid hx
  go_enter Tryd.func37, Tryd.ntmps37
  go_wp2_with fail
  go_loopw [1, 5] (fun a b wr => ∃ (j k : Nat) (y : Nd), a = .int .i64 j ∧ b = .int .i64 k ∧ j < l.length ∧ Hid (l[j]? = some y) ∧ Hid (DrI l r k y) ∧ Only [] w wr ∧ k ≤ 7) (fun _ b _ => 7 - (intOf b).toNat)
  case atStart => exact ⟨i, 0, x, rfl, rfl, hil, hx, hst, Only.refl _ _, by omega⟩
  case round =>
    clear hst hil hx
    obtain ⟨j, k, y, rfl, rfl, hj, hjy, hI, hk, hk7⟩ := hrel
    obtain ⟨g, o, rfl, hg, hat⟩ := hb.get hj
    obtain ⟨c0, c1, c2, c3, c4⟩ := nds_at (hat.kept hk (by simp)) hj
    have hye : l[j] = y := (List.getElem?_eq_some_iff.1 hjy.out).2
    rw [hye] at c0 c1 c2 c3 c4
    replace hye := Lib.hid hye
    have hcells := fun W (kk : Only [] w W) => nds_at (hat.kept kk (by simp)) hj
    clear hat
    replace hcells := Lib.hid hcells
    by_cases h1 : y.id = 1
    · have hrk := drI_root hI.out h1
      subst hrk
      rw [h1] at c0
      replace h1 := Lib.hid h1
      go_wp2
      go_ret
      exact ⟨rfl, hk⟩
    · have h1b : (y.id != 1) = true := by simpa using h1
      have hcall := hpl.out wr y.par hk
      have hsome := fun m => idxI_some (t := l) (i := y.par) (k := m)
      have hnone : idxI l y.par = none → getI l y.par = none := fun h => by rw [← idxI_get, h]; rfl
      generalize idxI l y.par = io at *
      cases io with
      | none =>
        have hr9 := drI_none hI.out h1 (.inl (hnone rfl))
        subst hr9
        clear hsome hnone
        simp only [idxV] at hcall
        replace hcall := Lib.hid hcall
        go_wp2_with fail
        refine hcall.out.mono ?_; rintro e w3 ⟨rfl, k3⟩
        go_wp2
        go_ret
        exact ⟨rfl, hk.trans k3⟩
      | some m =>
        obtain ⟨p, hp1, hp2, hp3⟩ := hsome m rfl
        have hm : m < l.length := (List.getElem?_eq_some_iff.1 hp1).1
        clear hsome hnone
        simp only [idxV] at hcall
        by_cases h6 : 6 < k
        · have hr9 := drI_none hI.out h1 (.inr h6)
          subst hr9
          replace hcall := Lib.hid hcall
          replace hp1 := Lib.hid hp1
          replace hp2 := Lib.hid hp2
          replace hp3 := Lib.hid hp3
          have hd6 : decide ((6 : Int) < (k : Int)) = true := by simpa using (show (6 : Int) < k by omega)
          have hdm : decide ((m : Int) < 0) = false := by simp
          go_wp2_with fail
          refine hcall.out.mono ?_; rintro e w3 ⟨rfl, k3⟩
          go_wp2
          go_ret
          exact ⟨rfl, hk.trans k3⟩
        · have hnx := drI_next hI.out h1 (by omega) hp3
          replace hcall := Lib.hid hcall
          replace hp1 := Lib.hid hp1
          replace hp2 := Lib.hid hp2
          replace hp3 := Lib.hid hp3
          replace hnx := Lib.hid hnx
          have hd6 : decide ((6 : Int) < (k : Int)) = false := by simpa using (show ¬ (6 : Int) < k by omega)
          have hdm : decide ((m : Int) < 0) = false := by simp
          go_wp2_with fail
          refine hcall.out.mono ?_; rintro e w3 ⟨rfl, k3⟩
          go_wp2
          go_roundw
          case rel => exact ⟨m, k + 1, p, rfl, by go_num, hm, hp1, hnx, hk.trans k3, by omega⟩
          case measure => simp [intOf]; omega
end Go.Proofs.YteiekfccfddmjaaDoor
