/- Joined: Kid10, Dep10, Shelf10, Name10, Ref10, Eql10. -/
import Derived.Test.YtalkhhjfplahkaaGreatKD
import Derived.Test.YtalkhhjfplahkaaGreatKB
import Derived.Shelf.Small.Strs
import Derived.Shelf.Strings.Search3
import Derived.Shelf.Strings.Count
import Derived.Shelf.Strings.Split
import Derived.Test.YtalkhhjfplahkaaGreatChecked
import Derived.Deep.RegionHeld3
namespace Go.Proofs.YtalkhhjfplahkaaGreat
set_option maxRecDepth 100000
open Go.RowKit

theorem Only.store5 {w w0 : World} {S : List Nat} {g : Nat} {a b c d e : Value} (h : Only S w0 w) (hg : g ∈ S ∨ w0.heap.size ≤ g) :
    Only S w0 (((((w.setCell ⟨g, 0, none⟩ a).setCell ⟨g, 1, none⟩ b).setCell ⟨g, 2, none⟩ c).setCell ⟨g, 3, none⟩ d).setCell ⟨g, 4, none⟩ e) :=
  ((((h.setCell hg a).setCell hg b).setCell hg c).setCell hg d).setCell hg e

theorem kidsN_take {l : List Nd} {d : Int} {n : Nat} {x : Nd} (h : l[n]? = some x) : kidsN (l.take (n + 1)) d = kidsN (l.take n) d + (if x.par = d then 1 else 0) := by
  rw [get_snoc h]
  unfold kidsN
  rw [List.countP_append]
  by_cases e : x.par = d <;> simp [e]

set_option maxRecDepth 100000 in
set_option maxHeartbeats 2000000 in
theorem count_any (w : World) (A : Option Addr) (c : Nat) (l : List Nd) (d : Int) (hb : Els ndE 5 w A l) (hl : l.length ≤ 1048576) :
    Calls Tryz.prog 113 #[.slice A l.length c, .int .u32 d] w fun e w' => e = .returned (.int .i64 (kidsN l d : Nat)) ∧ Only [] w w' := by
  have hlI : (l.length : Int) ≤ 1048576 := by omega
  go_enter Tryz.func113, Tryz.ntmps113
  go_wp2_with fail
  go_loopw [10, 5] (fun i s wr => ∃ n m : Nat, n ≤ l.length ∧ i = .int .i64 n ∧ s = .int .i64 m ∧ m ≤ n ∧ Hid (m = kidsN (l.take n) d) ∧ Only [] w wr) (fun i _ _ => l.length - (intOf i).toNat)
  case atStart => exact ⟨0, 0, Nat.zero_le _, rfl, rfl, Nat.le_refl _, rfl, Only.refl _ _⟩
  case round =>
    obtain ⟨n, m, hn, rfl, rfl, hmn, hm, hk⟩ := hrel
    by_cases hlt : n < l.length
    · obtain ⟨g, o, rfl, hg, hat⟩ := hb.get hlt
      obtain ⟨c0, c1, c2, c3, c4⟩ := nds_at (hat.kept hk (by simp)) hlt
      have hx : l[n]? = some l[n] := List.getElem?_eq_getElem hlt
      have hst := kidsN_take (d := d) hx
      generalize l[n] = x at *
      obtain ⟨xi, xp, xn, xd, xs⟩ := x
      simp only at c0 c1 c2 c3 c4 hst
      clear hat
      by_cases he : xp = d
      · subst he
        rw [if_pos rfl] at hst
        have hm' : Hid (m + 1 = kidsN (l.take (n + 1)) xp) := by rw [hst, ← hm.out]; exact rfl
        replace hst := Lib.hid hst
        replace hx := Lib.hid hx
        go_wp2
        go_roundw
        case rel => exact ⟨n + 1, m + 1, by omega, by go_num, by go_num, by omega, hm', hk.alloc _⟩
        case measure => simp [intOf]; omega
      · rw [if_neg he] at hst
        have hm' : Hid (m = kidsN (l.take (n + 1)) d) := by rw [hst, ← hm.out]; rfl
        replace hst := Lib.hid hst
        replace hx := Lib.hid hx
        go_wp2
        go_roundw
        case rel => exact ⟨n + 1, m, by omega, by go_num, rfl, by omega, hm', hk.alloc _⟩
        case measure => simp [intOf]; omega
    · have hm' : m = kidsN l d := by have := hm.out; rwa [List.take_of_length_le (by omega)] at this
      subst hm'
      go_wp2
      go_ret
      exact ⟨rfl, hk⟩

theorem full_any (w : World) (A : Option Addr) (c : Nat) (l : List Nd) (d : Int) (hb : Els ndE 5 w A l) (hl : l.length ≤ 1048576) :
    Calls Tryz.prog 98 #[.slice A l.length c, .int .u32 d] w fun e w' => e = .returned (.bool (decide (12 ≤ kidsN l d))) ∧ Only [] w w' := by
  have hs := fun W (k : Only [] w W) => count_any W A c l d (hb.kept k (by simp)) hl
  replace hs := Lib.hid hs
  go_enter Tryz.func98, Tryz.ntmps98
  go_wp2_with fail
  refine (hs.out _ (Only.refl _ _)).mono ?_; rintro e w3 ⟨rfl, k3⟩
  go_wp2
  go_ret
  exact ⟨by simp; omega, k3⟩

theorem kidN_step {l : List Nd} {d : Int} {s : List UInt8} {n : Nat} {x : Nd} (h : kidN (l.take n) d s = none) (hx : l[n]? = some x) (hne : ¬ (x.par = d ∧ x.name = s)) : kidN (l.take (n + 1)) d s = none := by
  refine kidN_none_of fun y hy e => ?_
  rw [get_snoc hx, List.mem_append] at hy
  rcases hy with hy | hy
  · exact kidN_none h y hy e
  · simp only [List.mem_singleton] at hy
    subst hy
    exact hne e
theorem kidN_found {l : List Nd} {d : Int} {s : List UInt8} {n : Nat} {x : Nd} (h : kidN (l.take n) d s = none) (hx : l[n]? = some x) (e1 : x.par = d) (e2 : x.name = s) : kidN l d s = some x := by
  have e : l = l.take n ++ x :: l.drop (n + 1) := by
    have h1 := List.take_append_drop (n + 1) l
    rw [get_snoc hx, List.append_assoc] at h1
    exact h1.symm
  unfold kidN at h ⊢
  rw [e, List.find?_append, h]
  simp [e1, e2]
theorem bool_of {a b : List UInt8} (h : a = b) : ((strOf a).toList == (strOf b).toList) = true := by rw [h]; simp
set_option maxRecDepth 100000 in
set_option maxHeartbeats 2000000 in
theorem child_any (w : World) (A : Option Addr) (c : Nat) (l : List Nd) (d : Int) (s : List UInt8) (hb : Els ndE 5 w A l) (hl : l.length ≤ 1048576) :
    Calls Tryz.prog 97 #[.slice A l.length c, .int .u32 d, .string (strOf s)] w fun e w' => e = .returned (.tuple #[ndV ((kidN l d s).getD zeroN), .bool (kidN l d s).isSome]) ∧ Only [] w w' := by
  have hlI : (l.length : Int) ≤ 1048576 := by omega
  have hbe := fun x : List UInt8 => beq_toList x s
  obtain ⟨sb, hsb⟩ : ∃ sb, sb = strOf s := ⟨_, rfl⟩
  rw [← hsb] at hbe ⊢
  replace hbe := Lib.hid hbe
  replace hsb := Lib.hid hsb
  obtain ⟨ko, hko⟩ : ∃ ko, ko = kidN l d s := ⟨_, rfl⟩
  rw [← hko]
  replace hko := Lib.hid hko
  go_enter Tryz.func97, Tryz.ntmps97
  go_wp2_with fail
  go_loopw [12] (fun i wr => ∃ n : Nat, n ≤ l.length ∧ i = .int .i64 n ∧ Hid (kidN (l.take n) d s = none) ∧ Only [] (w.alloc (.cells #[.int .u32 0, .int .u32 0, .string ⟨#[]⟩, .bool false, .int .u32 0] 42)) wr) (fun i _ => l.length - (intOf i).toNat)
  case atStart => exact ⟨0, Nat.zero_le _, rfl, rfl, Only.refl _ _⟩
  case round =>
    obtain ⟨n, hn, rfl, hm, hk⟩ := hrel
    have hk0 : Only [] w wr := ((Only.refl [] w).alloc _).trans hk
    have hbk : Blk wr w.heap.size 42 #[.int .u32 0, .int .u32 0, .string ⟨#[]⟩, .bool false, .int .u32 0] := (Blk.new _ _ _).kept hk (by simp)
    by_cases hlt : n < l.length
    · obtain ⟨g, o, rfl, hg, hat⟩ := hb.get hlt
      obtain ⟨c0, c1, c2, c3, c4⟩ := nds_at (hat.kept hk0 (by simp)) hlt
      have hx : l[n]? = some l[n] := List.getElem?_eq_getElem hlt
      have hst := fun h => kidN_step hm.out hx h
      have hfd := fun h1 h2 => kidN_found hm.out hx h1 h2
      have hbx := hbe.out l[n].name
      generalize l[n] = x at *
      obtain ⟨xi, xp, xn, xd, xs⟩ := x
      simp only at c0 c1 c2 c3 c4 hst hfd hbx
      replace hst := Lib.hid hst
      replace hfd := Lib.hid hfd
      replace hx := Lib.hid hx
      clear hat
      have w0 : w.heap.size < wr.heap.size := hbk.lt
      by_cases he : xp = d
      · subst he
        by_cases he2 : xn = s
        · have hb1 : ((strOf xn).toList == sb.toList) = true := by rw [hbx]; simpa using he2
          have hfin := hfd.out rfl he2
          have hv : Hid ((.tuple #[ndV ⟨xi, xp, xn, xd, xs⟩, .bool true] : Value) = .tuple #[ndV (ko.getD zeroN), .bool ko.isSome]) := by rw [hko.out, hfin]; exact rfl
          clear hfin
          replace he2 := Lib.hid he2
          replace hbx := Lib.hid hbx
          have hba := hbk.alloc (.cells #[.int .u32 xi, .int .u32 xp, .string (strOf xn), .bool xd, .int .u32 xs] 42)
          have hb2 : Bx (wr.alloc (.cells #[.int .u32 xi, .int .u32 xp, .string (strOf xn), .bool xd, .int .u32 xs] 42)) w.heap.size zeroN := hba
          clear hba
          replace hbk := Lib.hid hbk
          go_wp2_with (refine wpList_store_nd ⟨xi, xp, xn, xd, xs⟩ zeroN rfl _ _ rfl w.heap.size rfl rfl hb2 ?_; intro w5 b5 k5)
          refine bodyPost_ret (v := .tuple #[ndV ⟨xi, xp, xn, xd, xs⟩, .bool true]) (results_nd rfl _ _ w.heap.size rfl _ b5 _ rfl) rfl ?_
          exact ⟨congrArg Ending.returned hv.out, (hk0.alloc _).then k5 (by intro i hi; simp at hi; subst hi; exact .inr (Nat.le_refl _))⟩
        · have hb1 : ((strOf xn).toList == sb.toList) = false := by rw [hbx]; simpa using he2
          have hn' := hst.out (fun h => he2 h.2)
          replace hn' := Lib.hid hn'
          replace hbx := Lib.hid hbx
          replace he2 := Lib.hid he2
          generalize strOf xn = xb at *
          replace hbk := Lib.hid hbk
          go_wp2
          go_roundw
          case rel => exact ⟨n + 1, by omega, by go_num, hn'.out, hk.alloc _⟩
          case measure => simp [intOf]; omega
      · have hn' := hst.out (fun h => he h.1)
        replace hn' := Lib.hid hn'
        replace hbx := Lib.hid hbx
        generalize strOf xn = xb at *
        replace hbk := Lib.hid hbk
        go_wp2
        go_roundw
        case rel => exact ⟨n + 1, by omega, by go_num, hn'.out, hk.alloc _⟩
        case measure => simp [intOf]; omega
    · have hno : kidN l d s = none := by have := hm.out; rwa [List.take_of_length_le (by omega)] at this
      have hv : Hid ((.tuple #[ndV zeroN, .bool false] : Value) = .tuple #[ndV (ko.getD zeroN), .bool ko.isSome]) := by rw [hko.out, hno]; exact rfl
      clear hno
      have hb2 : Bx wr w.heap.size zeroN := hbk
      replace hbk := Lib.hid hbk
      go_wp2_with (refine wpList_store_nd zeroN zeroN rfl _ _ rfl w.heap.size rfl rfl hb2 ?_; intro w5 b5 k5)
      refine bodyPost_ret (v := .tuple #[ndV zeroN, .bool false]) (results_nd rfl _ _ w.heap.size rfl _ b5 _ rfl) rfl ?_
      exact ⟨congrArg Ending.returned hv.out, hk0.then k5 (by intro i hi; simp at hi; subst hi; exact .inr (Nat.le_refl _))⟩
end Go.Proofs.YtalkhhjfplahkaaGreat
namespace Go.Proofs.YtalkhhjfplahkaaGreat
set_option maxRecDepth 100000
open Go.RowKit

theorem sized_any (w : World) (x : Nd) : Calls Tryz.prog 71 #[ndV x] w fun e w' => e = .returned (.bool (szB x)) ∧ Only [] w w' := by
  obtain ⟨i, p, n, d, s⟩ := x
  unfold ndV szB
  simp only
  cases d
  · go_enter Tryz.func71, Tryz.ntmps71
    go_wp2
    go_ret
    exact ⟨by simp, (Only.refl [] w).alloc _⟩
  · go_enter Tryz.func71, Tryz.ntmps71
    go_wp2
    go_ret
    exact ⟨by simp, (Only.refl [] w).alloc _⟩

theorem not12 (n : Nat) : (!decide (12 ≤ n)) = decide (n < 12) := by
  rw [← decide_not]
  exact decide_eq_decide.2 Nat.not_le
set_option maxRecDepth 100000 in
set_option maxHeartbeats 2000000 in
theorem joins_any (w : World) (A : Option Addr) (c : Nat) (l : List Nd) (x : Nd) (hb : Els ndE 5 w A l) (hl : l.length ≤ 1048576) :
    Calls Tryz.prog 73 #[.slice A l.length c, ndV x] w fun e w' => e = .returned (.bool ((kidN l x.par x.name).isNone && decide (kidsN l x.par < 12))) ∧ Only [] w w' := by
  have hs := fun W (k : Only [] w W) => child_any W A c l x.par x.name (hb.kept k (by simp)) hl
  have hf := fun W (k : Only [] w W) => full_any W A c l x.par (hb.kept k (by simp)) hl
  replace hs := Lib.hid hs
  replace hf := Lib.hid hf
  obtain ⟨i, p, n, d, s⟩ := x
  unfold ndV
  simp only at hs hf ⊢
  have hk0 := (Only.refl [] w).alloc (.cells #[.int .u32 i, .int .u32 p, .string (strOf n), .bool d, .int .u32 s] 42)
  have hb0 := Bx.new w ⟨i, p, n, d, s⟩
  simp only at hb0
  generalize hko : kidN l p n = ko at *
  replace hko := Lib.hid hko
  have hkz : ∀ y : Nd, ∃ a b c d e, ndV y = .agg #[.int .u32 a, .int .u32 b, .string c, .bool d, .int .u32 e] := fun y => ⟨_, _, _, _, _, rfl⟩
  go_enter Tryz.func73, Tryz.ntmps73
  go_wp2_with fail
  refine (hs.out _ hk0).mono ?_; rintro e w1 ⟨rfl, k1⟩
  obtain ⟨c0, c1, c2, c3, c4⟩ := (hb0.kept k1 (by simp)).cells
  have hk1 := hk0.trans k1
  obtain ⟨y0, y1, y2, y3, y4, hy⟩ := hkz (ko.getD zeroN)
  rw [hy]
  cases ko with
  | some y =>
    clear hy
    go_wp2
    go_ret
    exact ⟨rfl, hk1.alloc _⟩
  | none =>
    clear hy
    simp only [Option.isSome_none]
    obtain ⟨c0, c1, c2, c3, c4⟩ := ((hb0.kept k1 (by simp)).alloc (.cells #[.int .u32 y0, .int .u32 y1, .string y2, .bool y3, .int .u32 y4] 42)).cells
    go_wp2_with fail
    refine (hf.out _ (hk1.alloc _)).mono ?_; rintro e w2 ⟨rfl, k2⟩
    have hk2 := (hk1.alloc _).trans k2
    go_wp2
    go_ret
    exact ⟨by rw [not12]; rfl, hk2⟩

/-- The walk up: r is what comes out, behind k steps one is at x. -/
def DpI (t : List Nd) (r k : Nat) (x : Nd) : Prop := k ≤ 7 ∧ r = if k ≤ 6 then ((dpP t (6 - k) x).map (· + k)).getD 7 else 7
theorem dpI_start (t : List Nd) (x : Nd) : DpI t ((dpP t 6 x).getD 7) 0 x := by
  refine ⟨by omega, ?_⟩
  rw [if_pos (by omega)]
  cases dpP t 6 x <;> rfl
theorem dpI_root {t : List Nd} {r k : Nat} {x : Nd} (h : DpI t r k x) (h1 : x.id = 1) : r = k := by
  obtain ⟨h0, h⟩ := h
  by_cases hk : k ≤ 6
  · rw [if_pos hk] at h
    have : dpP t (6 - k) x = some 0 := by cases 6 - k <;> simp [dpP, h1]
    rw [this] at h
    simpa using h
  · rw [if_neg hk] at h
    omega
theorem dpI_end {t : List Nd} {r k : Nat} {x : Nd} (h : DpI t r k x) (h1 : ¬ k ≤ 6) : r = k := by
  obtain ⟨h0, h⟩ := h
  rw [if_neg h1] at h
  omega
theorem dpI_none {t : List Nd} {r k : Nat} {x : Nd} (h : DpI t r k x) (h1 : x.id ≠ 1) (h2 : ∀ p, getI t x.par = some p → p.dir = false) : r = 7 := by
  obtain ⟨h0, h⟩ := h
  by_cases hk : k ≤ 6
  · rw [if_pos hk] at h
    have : dpP t (6 - k) x = none := by
      cases 6 - k with
      | zero => simp [dpP, h1]
      | succ f =>
        rw [dpP, if_neg h1]
        cases hp : getI t x.par with
        | none => rfl
        | some p => simp [h2 p hp]
    rw [this] at h
    exact h
  · rw [if_neg hk] at h
    exact h
theorem dpI_next {t : List Nd} {r k : Nat} {x p : Nd} (h : DpI t r k x) (h1 : x.id ≠ 1) (hk : k ≤ 6) (h2 : getI t x.par = some p) (h3 : p.dir = true) : DpI t r (k + 1) p := by
  obtain ⟨h0, h⟩ := h
  refine ⟨by omega, ?_⟩
  rw [if_pos hk] at h
  by_cases h6 : k = 6
  · subst h6
    rw [if_neg (by omega)]
    simp [dpP, h1] at h
    exact h
  · rw [if_pos (by omega)]
    obtain ⟨f, hf⟩ : ∃ f, 6 - k = f + 1 := ⟨5 - k, by omega⟩
    have hf' : 6 - (k + 1) = f := by omega
    rw [hf, dpP, if_neg h1, h2] at h
    simp only [h3, if_true] at h
    rw [hf', h]
    cases dpP t f p with
    | none => rfl
    | some j => simp; omega

set_option maxRecDepth 100000 in
set_option maxHeartbeats 2000000 in
theorem depth_any (w : World) (A : Option Addr) (c : Nat) (l : List Nd) (x : Nd) (hb : Els ndE 5 w A l) (hr : l.Pairwise (fun a b => a.id < b.id)) (hl : l.length ≤ 1048576) :
    Calls Tryz.prog 72 #[.slice A l.length c, ndV x] w fun e w' => e = .returned (.int .i64 ((dpP l 6 x).getD 7 : Nat)) ∧ Only [] w w' := by
  have hlI : (l.length : Int) ≤ 1048576 := by omega
  have hpl := fun W i (k : Only [] w W) => place_any W A c l i (hb.kept k (by simp)) hr hl
  have hst := dpI_start l x
  generalize (dpP l 6 x).getD 7 = r at *
  replace hpl := Lib.hid hpl
  have hk0 := (Only.refl [] w).alloc (.cells #[.int .u32 x.id, .int .u32 x.par, .string (strOf x.name), .bool x.dir, .int .u32 x.size] 42)
  have hb0 := Bx.new w x
  have hsz : w.heap.size < (w.alloc (.cells #[.int .u32 x.id, .int .u32 x.par, .string (strOf x.name), .bool x.dir, .int .u32 x.size] 42)).heap.size := by simp
  unfold ndV
  go_enter Tryz.func72, Tryz.ntmps72
  go_wp2_with fail
  generalize (w.alloc (.cells #[.int .u32 x.id, .int .u32 x.par, .string (strOf x.name), .bool x.dir, .int .u32 x.size] 42)) = w0 at *
  go_loopw [5] (fun i wr => ∃ (k : Nat) (y : Nd), i = .int .i64 k ∧ Hid (DpI l r k y) ∧ Bx wr w.heap.size y ∧ Only [] w wr ∧ k ≤ 7) (fun i _ => 7 - (intOf i).toNat)
  case atStart => exact ⟨0, x, rfl, hst, hb0, hk0, by omega⟩
  case round =>
    clear hst hb0 hk0 hsz
    obtain ⟨k, y, rfl, hI, hby, hk, hk7⟩ := hrel
    obtain ⟨c0, c1, c2, c3, c4⟩ := hby.cells
    by_cases h1 : y.id = 1
    · have hrk := dpI_root hI.out h1
      subst hrk
      rw [h1] at c0
      replace h1 := Lib.hid h1
      go_wp2
      go_ret
      exact ⟨rfl, hk⟩
    · have h1b : (y.id != 1) = true := by simpa using h1
      by_cases h6 : k ≤ 6
      · have hpos : ∀ p, getI l y.par = some p → l[posN l y.par]? = some p := fun p h => getI_pos hr h
        have hnx := fun p => dpI_next hI.out h1 h6 (p := p)
        have hno := dpI_none hI.out h1
        generalize hgo : getI l y.par = go at *
        generalize hpo : posN l y.par = po at *
        have hcall := hpl.out wr y.par hk
        rw [hgo, hpo] at hcall
        replace hgo := Lib.hid hgo
        replace hpo := Lib.hid hpo
        cases go with
        | none =>
          have hr7 := hno (by simp)
          replace hnx := Lib.hid hnx
          clear hno hpos
          subst hr7
          simp only [Option.isSome_none] at hcall
          replace hcall := Lib.hid hcall
          go_wp2_with fail
          refine hcall.out.mono ?_; rintro e w3 ⟨rfl, k3⟩
          go_wp2
          go_ret
          exact ⟨rfl, hk.trans k3⟩
        | some p =>
          have hpp := hpos p rfl
          simp only [Option.isSome_some] at hcall
          have hlt : po < l.length := (List.getElem?_eq_some_iff.1 hpp).1
          obtain ⟨g, o, rfl, hg, hat⟩ := hb.get hlt
          have hpe : l[po] = p := (List.getElem?_eq_some_iff.1 hpp).2
          have hcells := fun W (kk : Only [] w W) => nds_at (hat.kept kk (by simp)) hlt
          rw [hpe] at hcells
          clear hat hpos
          replace hpe := Lib.hid hpe
          replace hpp := Lib.hid hpp
          cases hd : p.dir with
          | false =>
            have hr7 := hno (fun q hq => by injection hq with hq; rw [← hq]; exact hd)
            replace hnx := Lib.hid hnx
            clear hno
            subst hr7
            rw [hd] at hcells
            replace hcall := Lib.hid hcall
            replace hcells := Lib.hid hcells
            go_wp2_with fail
            refine hcall.out.mono ?_; rintro e w3 ⟨rfl, k3⟩
            obtain ⟨d0, d1, d2, d3, d4⟩ := hcells.out _ (hk.trans k3)
            go_wp2
            go_ret
            exact ⟨rfl, hk.trans k3⟩
          | true =>
            have hnx' := hnx p rfl hd
            rw [hd] at hcells
            replace hnx := Lib.hid hnx
            replace hnx' := Lib.hid hnx'
            replace hcall := Lib.hid hcall
            replace hcells := Lib.hid hcells
            replace hno := Lib.hid hno
            have hvp : ndV p = .agg #[.int .u32 p.id, .int .u32 p.par, .string (strOf p.name), .bool true, .int .u32 p.size] := by rw [← hd]; rfl
            go_wp2_with fail
            refine hcall.out.mono ?_; rintro e w3 ⟨rfl, k3⟩
            have hk3 := hk.trans k3
            obtain ⟨d0, d1, d2, d3, d4⟩ := hcells.out _ hk3
            have hb3 : Bx w3 w.heap.size y := hby.kept k3 (by simp)
            obtain ⟨c0, c1, c2, c3, c4⟩ := hb3.cells
            go_wp2_with (refine wpList_store_nd p y rfl _ _ rfl w.heap.size rfl hvp.symm hb3 ?_; intro w5 b5 k5)
            go_roundw
            case rel => exact ⟨k + 1, p, by go_num, hnx', b5, hk3.then k5 (by intro i hi; simp at hi; subst hi; exact .inr (Nat.le_refl _)), by omega⟩
            case measure => simp [intOf]; omega
      · have hrk := dpI_end hI.out h6
        subst hrk
        have h6b : ¬ (r : Int) ≤ 6 := by omega
        go_wp2
        go_ret
        exact ⟨rfl, hk⟩
end Go.Proofs.YtalkhhjfplahkaaGreat
namespace Go.Proofs
open Go.Shelf
def Tryz.lays137_ren : Go.Shelf.Ren := ⟨fun | 137 => 95 | 217 => 110 | 266 => 115 | n => n, fun | 9 => 9 | 5 => 5 | 3 => 3 | n => n, fun | n => n⟩
theorem Tryz.lays137 : Go.Proofs.Lays.n137 Tryz.prog Tryz.lays137_ren := {
  mixed := by kernel_rfl
  f137 := Tryz.func95.trans (congrArg some (by kernel_rfl))
  f217 := Tryz.func110.trans (congrArg some (by kernel_rfl))
  f266 := Tryz.func115.trans (congrArg some (by kernel_rfl))
  t3 := Tryz.underlying3
  a3 := Tryz.isAgg3
  z3 := Tryz.sizeOf3
  v3 := Tryz.zeroValue3
  t5 := Tryz.underlying5
  a5 := Tryz.isAgg5
  z5 := Tryz.sizeOf5
  v5 := Tryz.zeroValue5
  t9 := Tryz.underlying9
  a9 := Tryz.isAgg9
  z9 := Tryz.sizeOf9
  v9 := Tryz.zeroValue9 }
open Go.RowKit in
/-- strings.IndexByte: "IndexByte returns the index of the first instance of c in s, or -1 if c is not present in s.": IT RETURNS 'Lib.indexByte s c'; the world is as it was. (LAID: no walk: one application.) -/
theorem Tryz.strings_IndexByte (s : ByteArray) (c : Int) (w : World) :
    Calls Tryz.prog 95 #[.string s, .int .u8 c] w fun e w' => e = .returned (.int .i64 (Lib.indexByte s.data.toList c.toNat.toUInt8)) ∧ w' = w := Any.strings_IndexByte Tryz.lays137 s c w
end Go.Proofs
namespace Go.Proofs.YtalkhhjfplahkaaGreat
set_option maxRecDepth 100000
open Go.RowKit

def signs : List UInt8 := [97, 98, 99, 100, 101, 102, 103, 104, 105, 106, 107, 108, 109, 110, 111, 112, 113, 114, 115, 116, 117, 118, 119, 120, 121, 122, 48, 49, 50, 51, 52, 53, 54, 55, 56, 57, 46, 95, 45]
theorem signs_fin : ∀ n : Fin 256, (Lib.indexByte signs (UInt8.ofNat n.val) < 0 ↔ okC (UInt8.ofNat n.val) = false) := by decide +kernel
theorem signs_any (c : UInt8) : Lib.indexByte signs c < 0 ↔ okC c = false := by
  have := signs_fin ⟨c.toNat, c.toNat_lt⟩
  simpa using this
theorem okC_iff (c : UInt8) : okC c = true ↔ ((97 ≤ c.toNat ∧ c.toNat ≤ 122) ∨ (48 ≤ c.toNat ∧ c.toNat ≤ 57) ∨ c.toNat = 46 ∨ c.toNat = 95 ∨ c.toNat = 45) := by
  unfold okC
  simp only [Bool.or_eq_true, Bool.and_eq_true, decide_eq_true_eq, beq_iff_eq, or_assoc]

theorem nmB_iff (s : List UInt8) : nmB s = true ↔ (1 ≤ s.length ∧ s.length ≤ 8 ∧ s ≠ [46] ∧ s ≠ [46, 46] ∧ ∀ c ∈ s, okC c = true) := by
  unfold nmB
  simp only [Bool.and_eq_true, decide_eq_true_eq, Bool.not_eq_true', beq_eq_false_iff_ne, List.all_eq_true, and_assoc, ne_eq]
theorem nmB_no {s : List UInt8} (h : ¬ (1 ≤ s.length ∧ s.length ≤ 8 ∧ s ≠ [46] ∧ s ≠ [46, 46] ∧ ∀ c ∈ s, okC c = true)) : nmB s = false := by
  cases hb : nmB s
  · rfl
  · exact absurd ((nmB_iff s).1 hb) h
theorem all_of_get {s : List UInt8} (h : ∀ j (hj : j < s.length), okC s[j] = true) : ∀ c ∈ s, okC c = true := by
  intro c hc
  obtain ⟨j, hj, rfl⟩ := List.getElem_of_mem hc
  exact h j hj

set_option maxRecDepth 100000 in
set_option maxHeartbeats 2000000 in
theorem named_any (w : World) (s : List UInt8) :
    Calls Tryz.prog 70 #[.string (strOf s)] w fun e w' => e = .returned (.bool (nmB s)) ∧ w' = w := by
  have hsz := strOf_size s
  have E0 : ((strOf s).toList == ([] : List UInt8)) = (s == []) := by rw [show (strOf s).toList = s from ByteArray.toList_mk _]
  have E1 : ((strOf s).toList == [46]) = (s == [46]) := by rw [show (strOf s).toList = s from ByteArray.toList_mk _]
  have E2 : ((strOf s).toList == [46, 46]) = (s == [46, 46]) := by rw [show (strOf s).toList = s from ByteArray.toList_mk _]
  have hix := fun (i : Nat) (x : Int) (hx : x = i) (h : i < s.length) => index_strOf (P := Tryz.prog) 9 Tryz.underlying9 s i x .i64 hx h
  generalize strOf s = sb at *
  replace hix := Lib.hid hix
  replace E0 := Lib.hid E0
  replace E1 := Lib.hid E1
  replace E2 := Lib.hid E2
  obtain ⟨r, hr⟩ : ∃ r, r = nmB s := ⟨_, rfl⟩
  rw [← hr]
  have HR := Lib.hid hr
  clear hr
  have HZ := Lib.hid hsz
  clear hsz
  by_cases h0 : s = []
  · have hr' : r = false := by rw [HR.out]; exact nmB_no (by rw [h0]; simp)
    have e0 : (sb.toList == ([] : List UInt8)) = true := by rw [E0.out, h0]; rfl
    subst hr'
    go_enter Tryz.func70, Tryz.ntmps70
    go_wp2
    go_ret
    exact ⟨rfl, rfl⟩
  have e0 : (sb.toList == ([] : List UInt8)) = false := by rw [E0.out]; simpa using h0
  by_cases h1 : s = [46]
  · have hr' : r = false := by rw [HR.out]; exact nmB_no (fun h => h.2.2.1 h1)
    have e1 : (sb.toList == [46]) = true := by rw [E1.out, h1]; rfl
    subst hr'
    clear h0
    go_enter Tryz.func70, Tryz.ntmps70
    go_wp2
    go_ret
    exact ⟨rfl, rfl⟩
  have e1 : (sb.toList == [46]) = false := by rw [E1.out]; simpa using h1
  by_cases h2 : s = [46, 46]
  · have hr' : r = false := by rw [HR.out]; exact nmB_no (fun h => h.2.2.2.1 h2)
    have e2 : (sb.toList == [46, 46]) = true := by rw [E2.out, h2]; rfl
    subst hr'
    clear h0 h1
    go_enter Tryz.func70, Tryz.ntmps70
    go_wp2
    go_ret
    exact ⟨rfl, rfl⟩
  have e2 : (sb.toList == [46, 46]) = false := by rw [E2.out]; simpa using h2
  by_cases h8 : s.length ≤ 8
  · have hyes : (∀ c ∈ s, okC c = true) → r = true := fun h => by rw [HR.out, nmB_iff]; exact ⟨List.length_pos_iff.2 h0, h8, h1, h2, h⟩
    have hno : ∀ c ∈ s, okC c = false → r = false := fun c hc h => by rw [HR.out]; exact nmB_no (fun hh => by have := hh.2.2.2.2 c hc; rw [h] at this; cases this)
    replace hyes := Lib.hid hyes
    replace hno := Lib.hid hno
    clear h0 h1 h2
    have hs8 : (sb.size : Int) ≤ 8 := by have := HZ.out; omega
    have hd8 : decide ((8 : Int) < (sb.size : Int)) = false := by simp; omega
    go_enter Tryz.func70, Tryz.ntmps70
    go_wp2_with fail
    go_loopw [21] (fun i wr => ∃ n : Nat, n ≤ s.length ∧ i = .int .i64 n ∧ Hid (∀ j (hj : j < s.length), j < n → okC s[j] = true) ∧ wr = w) (fun i _ => s.length - (intOf i).toNat)
    case atStart => exact ⟨0, Nat.zero_le _, rfl, fun j hj h => by omega, rfl⟩
    case round =>
      obtain ⟨n, hn, rfl, hgood, rfl⟩ := hrel
      have hbn : n < s.length → (n : Int) < (sb.size : Int) := fun h => by have := HZ.out; omega
      have hbe : ¬ n < s.length → ¬ (n : Int) < (sb.size : Int) := fun h => by have := HZ.out; omega
      by_cases hlt : n < s.length
      · have hltI := hbn hlt
        clear hbn hbe
        have hx := hix.out n n rfl hlt
        have hcc : (s.getD n 0) = s[n] := by simp [hlt]
        rw [hcc] at hx
        have hsg := signs_any s[n]
        have hmem : s[n] ∈ s := List.getElem_mem hlt
        have hnos := hno.out s[n] hmem
        have hind : ∀ W, Calls Tryz.prog 95 #[.string (strOf signs), .int .u8 (s[n].toNat : Nat)] W fun e w' => e = .returned (.int .i64 (Lib.indexByte signs s[n])) ∧ w' = W := fun W => by
          have := Tryz.strings_IndexByte (strOf signs) (s[n].toNat : Nat) W
          rwa [strOf_list, show ((s[n].toNat : Nat) : Int).toNat.toUInt8 = s[n] by simp] at this
        have hsgs : strOf signs = ⟨#[97, 98, 99, 100, 101, 102, 103, 104, 105, 106, 107, 108, 109, 110, 111, 112, 113, 114, 115, 116, 117, 118, 119, 120, 121, 122, 48, 49, 50, 51, 52, 53, 54, 55, 56, 57, 46, 95, 45]⟩ := rfl
        rw [hsgs] at hind
        clear hsgs
        have hnext : okC s[n] = true → Hid (∀ j (hj : j < s.length), j < n + 1 → okC s[j] = true) := fun h j hj hjn => by
          by_cases e : j = n
          · subst e; exact h
          · exact hgood.out j hj (by omega)
        generalize s[n] = ch at *
        generalize Lib.indexByte signs ch = v at *
        replace hind := Lib.hid hind
        replace hmem := Lib.hid hmem
        by_cases hv : v < 0
        · have hr' := hnos (hsg.1 hv)
          subst hr'
          clear hsg hnext hgood
          go_wp2_with fail
          refine (hind.out _).mono ?_; rintro e w3 ⟨rfl, rfl⟩
          go_wp2
          go_ret
          exact ⟨rfl, rfl⟩
        · have hnext' := hnext (by
            cases hb : okC ch
            · exact absurd (hsg.2 hb) hv
            · rfl)
          replace hnos := Lib.hid hnos
          clear hsg hnext hgood
          go_wp2_with fail
          refine (hind.out _).mono ?_; rintro e w3 ⟨rfl, rfl⟩
          go_wp2
          go_roundw
          case rel => exact ⟨n + 1, by omega, by go_num, hnext', by trivial⟩
          case measure => simp [intOf]; omega
      · have hltI := hbe hlt
        clear hbn hbe
        have hr' := hyes.out (all_of_get fun j hj => hgood.out j hj (by omega))
        subst hr'
        clear hgood
        go_wp2
        go_ret
        exact ⟨rfl, rfl⟩
  · have hr' : r = false := by rw [HR.out]; exact nmB_no (fun h => h8 h.2.1)
    have hs9 : (8 : Int) < (sb.size : Int) := by have := HZ.out; omega
    have hd9 : decide ((8 : Int) < (sb.size : Int)) = true := by simpa using hs9
    subst hr'
    clear h0 h1 h2
    go_enter Tryz.func70, Tryz.ntmps70
    go_wp2
    go_ret
    exact ⟨rfl, rfl⟩

theorem tf (p : Prop) [Decidable p] : decide p = true ∨ decide p = false := by cases decide p <;> simp
end Go.Proofs.YtalkhhjfplahkaaGreat
namespace Go.Proofs.YtalkhhjfplahkaaGreat
set_option maxRecDepth 100000
open Go.RowKit

def idxI (t : List Nd) (i : Int) : Option Nat := t.findIdx? (fun x => x.id == i)
def idxV : Option Nat → Value
  | some k => .int .i64 k
  | none => .int .i64 (-1)
theorem idxI_none_of {t : List Nd} {i : Int} (h : ∀ x ∈ t, x.id ≠ i) : idxI t i = none := by
  rw [idxI, List.findIdx?_eq_none_iff]
  intro x hx
  simpa using h x hx
theorem idxI_of {t : List Nd} {i : Int} {n : Nat} {x : Nd} (h : ∀ j y, j < n → t[j]? = some y → y.id ≠ i) (hx : t[n]? = some x) (e : x.id = i) : idxI t i = some n := by
  rw [idxI, List.findIdx?_eq_some_iff_getElem]
  obtain ⟨h1, h2⟩ := List.getElem?_eq_some_iff.1 hx
  refine ⟨h1, by rw [h2]; simpa using e, fun j hj => ?_⟩
  have := h j _ hj (List.getElem?_eq_getElem (by omega))
  simpa using this
theorem idxI_get {t : List Nd} {i : Int} : (idxI t i).bind (fun k => t[k]?) = getI t i := by
  cases h : idxI t i with
  | none =>
    rw [idxI, List.findIdx?_eq_none_iff] at h
    rw [getI_none_of (fun x hx e => by have := h x hx; simp [e] at this)]
    rfl
  | some k =>
    rw [idxI, List.findIdx?_eq_some_iff_getElem] at h
    obtain ⟨h1, h2, h3⟩ := h
    simp only [Option.bind_some]
    have h4 : getI t i = some t[k] := by
      rw [getI, List.find?_eq_some_iff_getElem]
      exact ⟨h2, k, h1, rfl, fun j hj => by have := h3 j hj; simpa using this⟩
    rw [h4]
    exact List.getElem?_eq_getElem h1
theorem idxI_some {t : List Nd} {i : Int} {k : Nat} (h : idxI t i = some k) : ∃ x, t[k]? = some x ∧ x.id = i ∧ getI t i = some x := by
  have h0 := idxI_get (t := t) (i := i)
  rw [h] at h0
  rw [idxI, List.findIdx?_eq_some_iff_getElem] at h
  obtain ⟨h1, h2, h3⟩ := h
  simp only [Option.bind_some] at h0
  refine ⟨t[k], List.getElem?_eq_getElem h1, by simpa using h2, ?_⟩
  rw [← h0]
  exact List.getElem?_eq_getElem h1

theorem kidX_none_of {t : List Nd} {d : Int} {s : List UInt8} (h : ∀ x ∈ t.tail, ¬ (x.par = d ∧ x.name = s)) : kidX t d s = none := by
  rw [kidX, Option.map_eq_none_iff, List.findIdx?_eq_none_iff]
  intro x hx
  have := h x hx
  simpa using this
theorem kidX_first {t : List Nd} {d : Int} {s : List UInt8} {n : Nat} {x : Nd} (h1 : 1 ≤ n) (h : ∀ j y, 1 ≤ j → j < n → t[j]? = some y → ¬ (y.par = d ∧ y.name = s)) (hx : t[n]? = some x) (e1 : x.par = d) (e2 : x.name = s) : kidX t d s = some n := by
  obtain ⟨m, rfl⟩ : ∃ m, n = m + 1 := ⟨n - 1, by omega⟩
  have hx' : t.tail[m]? = some x := by rw [List.getElem?_tail]; exact hx
  obtain ⟨q1, q2⟩ := List.getElem?_eq_some_iff.1 hx'
  have : t.tail.findIdx? (fun x => x.par == d && x.name == s) = some m := by
    rw [List.findIdx?_eq_some_iff_getElem]
    refine ⟨q1, by rw [q2]; simp [e1, e2], fun j hj => ?_⟩
    have hy : t[j + 1]? = some (t.tail[j]'(by omega)) := by rw [← List.getElem?_tail]; exact List.getElem?_eq_getElem _
    have := h (j + 1) _ (by omega) (by omega) hy
    simpa using this
  rw [kidX, this]
  rfl

theorem kids1_take {l : List Nd} {d : Int} {n : Nat} {x : Nd} (h1 : 1 ≤ n) (h : l[n]? = some x) : kids1 (l.take (n + 1)) d = kids1 (l.take n) d + (if x.par = d then 1 else 0) := by
  rw [get_snoc h]
  unfold kids1
  have : l.take n ≠ [] := by
    intro e
    have he := congrArg List.length e
    have hl := (List.getElem?_eq_some_iff.1 h).1
    rw [List.length_take, List.length_nil] at he
    omega
  rw [List.tail_append_of_ne_nil this, List.countP_append]
  by_cases e : x.par = d <;> simp [e]
/-- The document's walk up: r is what comes out (99: too deep), behind k steps one is at x. -/
def DrI (t : List Nd) (r k : Nat) (x : Nd) : Prop := k ≤ 7 ∧ r = ((dpR t (7 - k) x).map (· + k)).getD 99
theorem drI_start (t : List Nd) (x : Nd) : DrI t ((dpR t 7 x).getD 99) 0 x := by
  refine ⟨by omega, ?_⟩
  cases dpR t 7 x <;> rfl
theorem drI_root {t : List Nd} {r k : Nat} {x : Nd} (h : DrI t r k x) (h1 : x.id = 1) : r = k := by
  obtain ⟨h0, h⟩ := h
  have : dpR t (7 - k) x = some 0 := by cases 7 - k <;> simp [dpR, h1]
  rw [this] at h
  simpa using h
theorem drI_none {t : List Nd} {r k : Nat} {x : Nd} (h : DrI t r k x) (h1 : x.id ≠ 1) (h2 : getI t x.par = none ∨ 6 < k) : r = 99 := by
  obtain ⟨h0, h⟩ := h
  have : dpR t (7 - k) x = none := by
    rcases h2 with h2 | h2
    · cases 7 - k with
      | zero => simp [dpR, h1]
      | succ f => rw [dpR, if_neg h1, h2]
    · rw [show 7 - k = 0 by omega]; simp [dpR, h1]
  rw [this] at h
  exact h
theorem drI_next {t : List Nd} {r k : Nat} {x p : Nd} (h : DrI t r k x) (h1 : x.id ≠ 1) (hk : k ≤ 6) (h2 : getI t x.par = some p) : DrI t r (k + 1) p := by
  obtain ⟨h0, h⟩ := h
  refine ⟨by omega, ?_⟩
  obtain ⟨f, hf⟩ : ∃ f, 7 - k = f + 1 := ⟨6 - k, by omega⟩
  have hf' : 7 - (k + 1) = f := by omega
  rw [hf, dpR, if_neg h1, h2] at h
  simp only at h
  rw [hf', h]
  cases dpR t f p with
  | none => rfl
  | some j => simp; omega

end Go.Proofs.YtalkhhjfplahkaaGreat
namespace Go.Proofs.YtalkhhjfplahkaaGreat
set_option maxRecDepth 100000
open Go.RowKit

theorem nd_iff (x y : Nd) : x = y ↔ (x.id = y.id ∧ x.par = y.par ∧ strOf x.name = strOf y.name ∧ x.dir = y.dir ∧ x.size = y.size) :=
  ⟨fun h => by subst h; exact ⟨rfl, rfl, rfl, rfl, rfl⟩, fun ⟨h1, h2, h3, h4, h5⟩ => nd_ext h1 h2 (strOf_inj h3) h4 h5⟩
set_option maxRecDepth 100000 in
set_option maxHeartbeats 2000000 in
theorem run_eql_nd (p q : Nd) (w : World) : (binOp .eql 42 (ndV p) (ndV q)).run Tryz.prog w = .ok (.bool (decide (p = q))) w := by
  have hb := nd_iff p q
  generalize hB : decide (p = q) = B
  obtain ⟨x0, x1, x2, x3, x4⟩ := p
  obtain ⟨y0, y1, y2, y3, y4⟩ := q
  simp only at hb
  unfold ndV
  simp only
  generalize strOf x2 = s2 at *
  generalize strOf y2 = u2 at *
  rw [run_eql_struct]
  have hb := Lib.hid hb
  have hB := Lib.hid hB
  go_simp
  simp only [list_same]
  by_cases h0 : x0 = y0
  rotate_left
  · rw [if_neg h0, ← hB.out, decide_eq_false (fun h => h0 (hb.out.1 h).1)]
  rw [if_pos h0]
  by_cases h1 : x1 = y1
  rotate_left
  · rw [if_neg h1, ← hB.out, decide_eq_false (fun h => h1 (hb.out.1 h).2.1)]
  rw [if_pos h1]
  by_cases h2 : s2 = u2
  rotate_left
  · rw [if_neg h2, ← hB.out, decide_eq_false (fun h => h2 (hb.out.1 h).2.2.1)]
  rw [if_pos h2]
  by_cases h3 : x3 = y3
  rotate_left
  · rw [if_neg h3, ← hB.out, decide_eq_false (fun h => h3 (hb.out.1 h).2.2.2.1)]
  rw [if_pos h3]
  by_cases h4 : x4 = y4
  rotate_left
  · rw [if_neg h4, ← hB.out, decide_eq_false (fun h => h4 (hb.out.1 h).2.2.2.2)]
  rw [if_pos h4]
  rw [← hB.out, decide_eq_true (hb.out.2 ⟨h0, h1, h2, h3, h4⟩)]

section
variable {ops : Array Oper} {rest : List Oper} {o : Oper} {a : Act} {w : World} {Q : Exit → Act → World → Prop}
theorem wpList_eql_nd (p q : Nd) (hw : Region.wanted o (yielded ops a.tmps) = true) (x y : Operand) (u : TypeId) (ho : o.op = .binOp .eql 42 x y u) (hx : a.eval x = ndV p) (hy : a.eval y = ndV q) (b : Bool) (hb : decide (p = q) = b)
    (h : wpList Tryz.prog ops Q rest (a.put o.dst (.bool b)) w) : wpList Tryz.prog ops Q (o :: rest) a w := by
  subst hb
  refine wpList_want hw fun _ hK => ?_
  have hg := run_eqGuard_agg (P := Tryz.prog) w .eql 42 x y (ndA p) (ndA q) (by kernel_rfl)
  have hr : (binOp .eql 42 (.agg (ndA p)) (.agg (ndA q))).run Tryz.prog w = .ok (.bool (decide (p = q))) w := run_eql_nd p q w
  have hx' : a.eval x = .agg (ndA p) := hx
  have hy' : a.eval y = .agg (ndA q) := hy
  unfold Oper.wp execOp
  simp only [ho, hx', hy', Sem.run_bind, Sem.run_pure, Result.andThen_ok, hg, hr]
  exact hK _ _ h
theorem wpList_neq_nd (p q : Nd) (hw : Region.wanted o (yielded ops a.tmps) = true) (x y : Operand) (u : TypeId) (ho : o.op = .binOp .neq 42 x y u) (hx : a.eval x = ndV p) (hy : a.eval y = ndV q) (b : Bool) (hb : (!decide (p = q)) = b)
    (h : wpList Tryz.prog ops Q rest (a.put o.dst (.bool b)) w) : wpList Tryz.prog ops Q (o :: rest) a w := by
  subst hb
  refine wpList_want hw fun _ hK => ?_
  have hg := run_eqGuard_agg (P := Tryz.prog) w .neq 42 x y (ndA p) (ndA q) (by kernel_rfl)
  have hr : (binOp .eql 42 (.agg (ndA p)) (.agg (ndA q))).run Tryz.prog w = .ok (.bool (decide (p = q))) w := run_eql_nd p q w
  have hx' : a.eval x = .agg (ndA p) := hx
  have hy' : a.eval y = .agg (ndA q) := hy
  have hn : (binOp .neq 42 (.agg (ndA p)) (.agg (ndA q))).run Tryz.prog w = .ok (.bool (!decide (p = q))) w := by
    rw [run_eql_struct] at hr
    rw [run_neq_struct]
    generalize (Op.equalIn 10000 42 (.agg (ndA p)) (.agg (ndA q))).run Tryz.prog w = R at hr ⊢
    cases R with
    | ok v w1 =>
      simp only [Result.andThen_ok, Result.ok.injEq, Value.bool.injEq] at hr ⊢
      exact ⟨by rw [hr.1], hr.2⟩
    | halt x w1 => simp [Result.andThen] at hr
  unfold Oper.wp execOp
  simp only [ho, hx', hy', Sem.run_bind, Sem.run_pure, Result.andThen_ok, hg, hn]
  exact hK _ _ h
end

/-! A list's tail and head, as slices. -/
section
variable {α : Type} {enc : α → List Value} {k : Nat} {w : World} {A : Option Addr} {l : List α}
def tailA (A : Option Addr) (c m k : Nat) : Option Addr := if c = m then A else A.map (·.add (m * k))
theorem run_tail {P : Program} (t e : TypeId) (ht : P.underlying t = some (.slice e)) (hz : ∀ w, (Go.sizeOf e).run P w = .ok k w) (A : Option Addr) (n c m : Nat) (x : Int) (hx : x = m) (hm : m ≤ n) (W : World) :
    (Instr.slice t (.slice A n c) (some (.int .i64 x)) none none).run P W = .ok (.slice (tailA A c m k) (n - m) (c - m)) W := by
  subst hx
  have ht' : P.underlying t = some (.slice (P.elem t)) := by simp [Program.elem, ht]
  have he : P.elem t = e := by simp [Program.elem, ht]
  rw [run_slice_l W t _ _ _ ht' .i64 _ (by omega) (by omega), he, hz]
  simp [Result.andThen, sliced, tailA]
theorem run_head {P : Program} (t e : TypeId) (ht : P.underlying t = some (.slice e)) (hz : ∀ w, (Go.sizeOf e).run P w = .ok k w) (A : Option Addr) (n c m : Nat) (x : Int) (hx : x = m) (hm : m ≤ c) (W : World) :
    (Instr.slice t (.slice A n c) none (some (.int .i64 x)) none).run P W = .ok (.slice (tailA A c 0 k) m c) W := by
  subst hx
  have ht' : P.underlying t = some (.slice (P.elem t)) := by simp [Program.elem, ht]
  have he : P.elem t = e := by simp [Program.elem, ht]
  rw [run_slice_h W t _ _ _ ht' .i64 _ (by omega) (by omega), he, hz]
  simp [Result.andThen, sliced, tailA]
theorem tailA_block {A : Option Addr} {c m k : Nat} : ∀ a, tailA A c m k = some a → ∃ b, A = some b ∧ a.block = b.block := by
  intro a h
  unfold tailA at h
  split at h
  · exact ⟨a, h, rfl⟩
  · cases A with
    | none => cases h
    | some b =>
      simp only [Option.map_some, Option.some.injEq] at h
      refine ⟨b, rfl, ?_⟩
      rw [← h]
      unfold Addr.add
      split <;> rfl
theorem Els.tail (h : Els enc k w A l) {c m : Nat} (hc : l.length ≤ c) (hm : m ≤ l.length) : Els enc k w (tailA A c m k) (l.drop m) := by
  by_cases h0 : m = l.length
  · exact .inl (by rw [h0]; simp)
  · obtain ⟨g, o, rfl, hg, hat⟩ := h.get (i := m) (by omega)
    right
    refine ⟨g, o + m * k, ?_, hg, fun i hi j v hv => ?_⟩
    · unfold tailA
      rw [if_neg (by omega)]
      simp [addr_add]
    · have hi' : m + i < l.length := by simp at hi; omega
      have := hat (m + i) hi' j v (by simpa using hv)
      rw [← this]
      congr 2
      rw [Nat.add_mul]
      omega
theorem Els.head (h : Els enc k w A l) {c m : Nat} : Els enc k w (tailA A c 0 k) (l.take m) := by
  rcases h with rfl | ⟨g, o, rfl, hg, hat⟩
  · exact .inl (by simp)
  · right
    refine ⟨g, o, ?_, hg, fun i hi j v hv => ?_⟩
    · unfold tailA
      split
      · rfl
      · simp [addr_add]
    · have hi' : i < l.length := by simp at hi; omega
      exact hat i hi' j v (by simpa using hv)
end
section
variable {P : Program}
theorem held_take {ops : Array Oper} {Q : Exit → Act → World → Prop} {md : Region.Mode} {S : World → Prop} {fuel : Nat} {listed : Array Bool} {a : Act} {w : World} (i : Nat) {oi : Oper} (v : Value) (hi : ops.toList[i]? = some oi)
    (hs : Region.noSelect ops = true) (hf : Region.free md ops listed i = true) (hr : (Region.ready md ops listed).contains i = true)
    (hQ : ∀ c a w, Q (.panic c) (a.put oi.dst v) w → Q (.panic c) a w) (hS : S w) (hy : YieldsIf P ops S oi v a)
    (h : wpAnyH P md ops Q S fuel (listed.setIfInBounds i true) (a.put oi.dst v) w) : wpAnyH P md ops Q S (fuel + 1) listed a w :=
  wpAnyH_take (by simpa using hi) hs hf hr hQ hy hS h
theorem held_step {ops : Array Oper} {Q : Exit → Act → World → Prop} {md : Region.Mode} {S : World → Prop} {fuel : Nat} {listed : Array Bool} {a : Act} {w : World} (i : Nat) {oi : Oper} (hi : ops.toList[i]? = some oi)
    (hr : Region.ready md ops listed = [i])
    (h : ∀ K' : Act → World → Prop, Shut (∀ a w, S w → (S w → wpAnyH P md ops Q S fuel (listed.setIfInBounds i true) a w) → K' a w) → if Region.wanted oi (yielded ops a.tmps) = true then Oper.wp P oi a w K' Q else K' (a.put oi.dst undef) w) :
    wpAnyH P md ops Q S (fuel + 1) listed a w :=
  wpAnyH_ready hr (by simp) (AllReadyH.cons (by simpa using hi) h AllReadyH.nil)
end
theorem size_nd' : ∀ w, (Go.sizeOf 42).run Tryz.prog w = .ok 5 w := Tryz.sizeOf42
end Go.Proofs.YtalkhhjfplahkaaGreat
