/- count, full, child: what lies in a directory. -/
import Derived.Test.YteiekfccfddmjaaDoorWhole10
namespace Go.Proofs.YteiekfccfddmjaaDoor
open Go.RowKit

theorem Only.store5 {w w0 : World} {S : List Nat} {g : Nat} {a b c d e : Value} (h : Only S w0 w) (hg : g ∈ S ∨ w0.heap.size ≤ g) :
    Only S w0 (((((w.setCell ⟨g, 0, none⟩ a).setCell ⟨g, 1, none⟩ b).setCell ⟨g, 2, none⟩ c).setCell ⟨g, 3, none⟩ d).setCell ⟨g, 4, none⟩ e) :=
  ((((h.setCell hg a).setCell hg b).setCell hg c).setCell hg d).setCell hg e

theorem kidsN_take {l : List Nd} {d : Int} {n : Nat} {x : Nd} (h : l[n]? = some x) : kidsN (l.take (n + 1)) d = kidsN (l.take n) d + (if x.par = d then 1 else 0) := by
  rw [get_snoc h]
  unfold kidsN
  rw [List.countP_append]
  by_cases e : x.par = d <;> simp [e]

set_option maxRecDepth 100000 in
set_option maxHeartbeats 2000000 in
theorem count_any (w : World) (A : Option Addr) (c : Nat) (l : List Nd) (d : Int) (hb : Els ndE 5 w A l) (hl : l.length ≤ 1048576) :
    Calls Tryd.prog 69 #[.slice A l.length c, .int .u32 d] w fun e w' => e = .returned (.int .i64 (kidsN l d : Nat)) ∧ Only [] w w' := by
  have hlI : (l.length : Int) ≤ 1048576 := by omega
  go_enter Tryd.func69, Tryd.ntmps69
  go_wp2_with fail
  go_loopw [10, 5] (fun i s wr => ∃ n m : Nat, n ≤ l.length ∧ i = .int .i64 n ∧ s = .int .i64 m ∧ m ≤ n ∧ Hid (m = kidsN (l.take n) d) ∧ Only [] w wr) (fun i _ _ => l.length - (intOf i).toNat)
  case atStart => exact ⟨0, 0, Nat.zero_le _, rfl, rfl, Nat.le_refl _, rfl, Only.refl _ _⟩
  case round =>
    obtain ⟨n, m, hn, rfl, rfl, hmn, hm, hk⟩ := hrel
    by_cases hlt : n < l.length
    · obtain ⟨g, o, rfl, hg, hat⟩ := hb.get hlt
      obtain ⟨c0, c1, c2, c3, c4⟩ := nds_at (hat.kept hk (by simp)) hlt
      have hx : l[n]? = some l[n] := List.getElem?_eq_getElem hlt
      have hst := kidsN_take (d := d) hx
      generalize l[n] = x at *
      obtain ⟨xi, xp, xn, xd, xs⟩ := x
      simp only at c0 c1 c2 c3 c4 hst
      clear hat
      by_cases he : xp = d
      · subst he
        rw [if_pos rfl] at hst
        have hm' : Hid (m + 1 = kidsN (l.take (n + 1)) xp) := by rw [hst, ← hm.out]; exact rfl
        replace hst := Lib.hid hst
        replace hx := Lib.hid hx
        go_wp2
        go_roundw
        case rel => exact ⟨n + 1, m + 1, by omega, by go_num, by go_num, by omega, hm', hk.alloc _⟩
        case measure => simp [intOf]; omega
      · rw [if_neg he] at hst
        have hm' : Hid (m = kidsN (l.take (n + 1)) d) := by rw [hst, ← hm.out]; rfl
        replace hst := Lib.hid hst
        replace hx := Lib.hid hx
        go_wp2
        go_roundw
        case rel => exact ⟨n + 1, m, by omega, by go_num, rfl, by omega, hm', hk.alloc _⟩
        case measure => simp [intOf]; omega
    · have hm' : m = kidsN l d := by have := hm.out; rwa [List.take_of_length_le (by omega)] at this
      subst hm'
      go_wp2
      go_ret
      exact ⟨rfl, hk⟩

theorem full_any (w : World) (A : Option Addr) (c : Nat) (l : List Nd) (d : Int) (hb : Els ndE 5 w A l) (hl : l.length ≤ 1048576) :
    Calls Tryd.prog 51 #[.slice A l.length c, .int .u32 d] w fun e w' => e = .returned (.bool (decide (12 ≤ kidsN l d))) ∧ Only [] w w' := by
  have hs := fun W (k : Only [] w W) => count_any W A c l d (hb.kept k (by simp)) hl
  replace hs := Lib.hid hs
  go_enter Tryd.func51, Tryd.ntmps51
  go_wp2_with fail
  refine (hs.out _ (Only.refl _ _)).mono ?_; rintro e w3 ⟨rfl, k3⟩
  go_wp2
  go_ret
  exact ⟨by simp; omega, k3⟩

theorem kidN_step {l : List Nd} {d : Int} {s : List UInt8} {n : Nat} {x : Nd} (h : kidN (l.take n) d s = none) (hx : l[n]? = some x) (hne : ¬ (x.par = d ∧ x.name = s)) : kidN (l.take (n + 1)) d s = none := by
  refine kidN_none_of fun y hy e => ?_
  rw [get_snoc hx, List.mem_append] at hy
  rcases hy with hy | hy
  · exact kidN_none h y hy e
  · simp only [List.mem_singleton] at hy
    subst hy
    exact hne e
theorem kidN_found {l : List Nd} {d : Int} {s : List UInt8} {n : Nat} {x : Nd} (h : kidN (l.take n) d s = none) (hx : l[n]? = some x) (e1 : x.par = d) (e2 : x.name = s) : kidN l d s = some x := by
  have e : l = l.take n ++ x :: l.drop (n + 1) := by
    have h1 := List.take_append_drop (n + 1) l
    rw [get_snoc hx, List.append_assoc] at h1
    exact h1.symm
  unfold kidN at h ⊢
  rw [e, List.find?_append, h]
  simp [e1, e2]
theorem bool_of {a b : List UInt8} (h : a = b) : ((strOf a).toList == (strOf b).toList) = true := by rw [h]; simp
set_option maxRecDepth 100000 in
set_option maxHeartbeats 2000000 in
theorem child_any (w : World) (A : Option Addr) (c : Nat) (l : List Nd) (d : Int) (s : List UInt8) (hb : Els ndE 5 w A l) (hl : l.length ≤ 1048576) :
    Calls Tryd.prog 50 #[.slice A l.length c, .int .u32 d, .string (strOf s)] w fun e w' => e = .returned (.tuple #[ndV ((kidN l d s).getD zeroN), .bool (kidN l d s).isSome]) ∧ Only [] w w' := by
  have hlI : (l.length : Int) ≤ 1048576 := by omega
  have hbe := fun x : List UInt8 => beq_toList x s
  obtain ⟨sb, hsb⟩ : ∃ sb, sb = strOf s := ⟨_, rfl⟩
  rw [← hsb] at hbe ⊢
  replace hbe := Lib.hid hbe
  replace hsb := Lib.hid hsb
  obtain ⟨ko, hko⟩ : ∃ ko, ko = kidN l d s := ⟨_, rfl⟩
  rw [← hko]
  replace hko := Lib.hid hko
  go_enter Tryd.func50, Tryd.ntmps50
  go_wp2_with fail
  go_loopw [12] (fun i wr => ∃ n : Nat, n ≤ l.length ∧ i = .int .i64 n ∧ Hid (kidN (l.take n) d s = none) ∧ Only [] (w.alloc (.cells #[.int .u32 0, .int .u32 0, .string ⟨#[]⟩, .bool false, .int .u32 0] 28)) wr) (fun i _ => l.length - (intOf i).toNat)
  case atStart => exact ⟨0, Nat.zero_le _, rfl, rfl, Only.refl _ _⟩
  case round =>
    obtain ⟨n, hn, rfl, hm, hk⟩ := hrel
    have hk0 : Only [] w wr := ((Only.refl [] w).alloc _).trans hk
    have hbk : Blk wr w.heap.size 28 #[.int .u32 0, .int .u32 0, .string ⟨#[]⟩, .bool false, .int .u32 0] := (Blk.new _ _ _).kept hk (by simp)
    by_cases hlt : n < l.length
    · obtain ⟨g, o, rfl, hg, hat⟩ := hb.get hlt
      obtain ⟨c0, c1, c2, c3, c4⟩ := nds_at (hat.kept hk0 (by simp)) hlt
      have hx : l[n]? = some l[n] := List.getElem?_eq_getElem hlt
      have hst := fun h => kidN_step hm.out hx h
      have hfd := fun h1 h2 => kidN_found hm.out hx h1 h2
      have hbx := hbe.out l[n].name
      generalize l[n] = x at *
      obtain ⟨xi, xp, xn, xd, xs⟩ := x
      simp only at c0 c1 c2 c3 c4 hst hfd hbx
      replace hst := Lib.hid hst
      replace hfd := Lib.hid hfd
      replace hx := Lib.hid hx
      clear hat
      have w0 : w.heap.size < wr.heap.size := hbk.lt
      by_cases he : xp = d
      · subst he
        by_cases he2 : xn = s
        · have hb1 : ((strOf xn).toList == sb.toList) = true := by rw [hbx]; simpa using he2
          have hfin := hfd.out rfl he2
          have hv : Hid ((.tuple #[ndV ⟨xi, xp, xn, xd, xs⟩, .bool true] : Value) = .tuple #[ndV (ko.getD zeroN), .bool ko.isSome]) := by rw [hko.out, hfin]; exact rfl
          clear hfin
          replace he2 := Lib.hid he2
          replace hbx := Lib.hid hbx
          have hba := hbk.alloc (.cells #[.int .u32 xi, .int .u32 xp, .string (strOf xn), .bool xd, .int .u32 xs] 28)
          have hb2 : Bx (wr.alloc (.cells #[.int .u32 xi, .int .u32 xp, .string (strOf xn), .bool xd, .int .u32 xs] 28)) w.heap.size zeroN := hba
          clear hba
          replace hbk := Lib.hid hbk
          go_wp2_with (refine wpList_store_nd ⟨xi, xp, xn, xd, xs⟩ zeroN rfl _ _ rfl w.heap.size rfl rfl hb2 ?_; intro w5 b5 k5)
          refine bodyPost_ret (v := .tuple #[ndV ⟨xi, xp, xn, xd, xs⟩, .bool true]) (results_nd rfl _ _ w.heap.size rfl _ b5 _ rfl) rfl ?_
          exact ⟨congrArg Ending.returned hv.out, (hk0.alloc _).then k5 (by intro i hi; simp at hi; subst hi; exact .inr (Nat.le_refl _))⟩
        · have hb1 : ((strOf xn).toList == sb.toList) = false := by rw [hbx]; simpa using he2
          have hn' := hst.out (fun h => he2 h.2)
          replace hn' := Lib.hid hn'
          replace hbx := Lib.hid hbx
          replace he2 := Lib.hid he2
          generalize strOf xn = xb at *
          replace hbk := Lib.hid hbk
          go_wp2
          go_roundw
          case rel => exact ⟨n + 1, by omega, by go_num, hn'.out, hk.alloc _⟩
          case measure => simp [intOf]; omega
      · have hn' := hst.out (fun h => he h.1)
        replace hn' := Lib.hid hn'
        replace hbx := Lib.hid hbx
        generalize strOf xn = xb at *
        replace hbk := Lib.hid hbk
        go_wp2
        go_roundw
        case rel => exact ⟨n + 1, by omega, by go_num, hn'.out, hk.alloc _⟩
        case measure => simp [intOf]; omega
    · have hno : kidN l d s = none := by have := hm.out; rwa [List.take_of_length_le (by omega)] at this
      have hv : Hid ((.tuple #[ndV zeroN, .bool false] : Value) = .tuple #[ndV (ko.getD zeroN), .bool ko.isSome]) := by rw [hko.out, hno]; exact rfl
      clear hno
      have hb2 : Bx wr w.heap.size zeroN := hbk
      replace hbk := Lib.hid hbk
      go_wp2_with (refine wpList_store_nd zeroN zeroN rfl _ _ rfl w.heap.size rfl rfl hb2 ?_; intro w5 b5 k5)
      refine bodyPost_ret (v := .tuple #[ndV zeroN, .bool false]) (results_nd rfl _ _ w.heap.size rfl _ b5 _ rfl) rfl ?_
      exact ⟨congrArg Ending.returned hv.out, hk0.then k5 (by intro i hi; simp at hi; subst hi; exact .inr (Nat.le_refl _))⟩
end Go.Proofs.YteiekfccfddmjaaDoor
