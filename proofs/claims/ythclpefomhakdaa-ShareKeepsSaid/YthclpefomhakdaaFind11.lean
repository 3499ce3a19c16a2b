/- An open found, a client's counted: the program's Find; the document's Find, Mine, Uses. -/
import Derived.Test.YthclpefomhakdaaCmp11
namespace Go.Proofs.Ythclpefomhakdaa
open Go.RowKit

theorem findK_step {l : List Opn} {a h : Int} {n : Nat} {x : Opn} (k : findK (l.take n) a h = none) (hx : l[n]? = some x) (hne : ¬ (x.client = a ∧ x.handle = h)) : findK (l.take (n + 1)) a h = none := by
  refine findK_none_of fun y hy e => ?_
  rw [get_snoc hx, List.mem_append] at hy
  rcases hy with hy | hy
  · exact findK_none k y hy e
  · simp only [List.mem_singleton] at hy
    subst hy
    exact hne e
theorem findK_found {l : List Opn} {a h : Int} {n : Nat} {x : Opn} (k : findK (l.take n) a h = none) (hx : l[n]? = some x) (e1 : x.client = a) (e2 : x.handle = h) : findK l a h = some x := by
  have e : l = l.take n ++ x :: l.drop (n + 1) := by
    have h1 := List.take_append_drop (n + 1) l
    rw [get_snoc hx, List.append_assoc] at h1
    exact h1.symm
  unfold findK at k ⊢
  rw [e, List.find?_append, k]
  simp [isK, e1, e2]

set_option maxRecDepth 100000 in
set_option maxHeartbeats 2000000 in
theorem find_any (w : World) (A : Option Addr) (c : Nat) (l : List Opn) (a h : Int) (hb : Els opE 5 w A l) (hl : l.length ≤ 9223372036854775807) :
    Calls Try.prog 12 #[.slice A l.length c, .int .u32 a, .int .u32 h] w fun e w' => e = .returned (.tuple #[opV ((findK l a h).getD zeroO), .bool (findK l a h).isSome]) ∧ Only [] w w' := by
  have hlI : (l.length : Int) ≤ 9223372036854775807 := by omega
  obtain ⟨ko, hko⟩ : ∃ ko, ko = findK l a h := ⟨_, rfl⟩
  rw [← hko]
  replace hko := Lib.hid hko
  go_enter Try.func12, Try.ntmps12
  go_wp2_with fail
  go_loopw [12] (fun i wr => ∃ n : Nat, n ≤ l.length ∧ i = .int .i64 n ∧ Hid (findK (l.take n) a h = none) ∧ Only [] (w.alloc (.cells #[.int .u32 0, .int .u32 0, .int .u32 0, .int .u32 0, .int .u32 0] 27)) wr) (fun i _ => l.length - (intOf i).toNat)
  case atStart => exact ⟨0, Nat.zero_le _, rfl, rfl, Only.refl _ _⟩
  case round =>
    obtain ⟨n, hn, rfl, hm, hk⟩ := hrel
    have hk0 : Only [] w wr := ((Only.refl [] w).alloc _).trans hk
    have hbk : Blk wr w.heap.size 27 #[.int .u32 0, .int .u32 0, .int .u32 0, .int .u32 0, .int .u32 0] := (Blk.new _ _ _).kept hk (by simp)
    by_cases hlt : n < l.length
    · obtain ⟨g, o, rfl, hg, hat⟩ := hb.get hlt
      obtain ⟨c0, c1, c2, c3, c4⟩ := ops_at (hat.kept hk0 (by simp)) hlt
      have hx : l[n]? = some l[n] := List.getElem?_eq_getElem hlt
      have hst := fun h => findK_step hm.out hx h
      have hfd := fun h1 h2 => findK_found hm.out hx h1 h2
      generalize l[n] = x at *
      obtain ⟨x0, x1, x2, x3, x4⟩ := x
      simp only at c0 c1 c2 c3 c4 hst hfd
      replace hst := Lib.hid hst
      replace hfd := Lib.hid hfd
      replace hx := Lib.hid hx
      clear hat
      have w0 : w.heap.size < wr.heap.size := hbk.lt
      by_cases he : x0 = a
      · have d1 : (x0 == a) = true := by simpa using he
        by_cases he2 : x1 = h
        · have d2 : (x1 == h) = true := by simpa using he2
          have hfin := hfd.out he he2
          have hv : Hid ((.tuple #[opV ⟨x0, x1, x2, x3, x4⟩, .bool true] : Value) = .tuple #[opV (ko.getD zeroO), .bool ko.isSome]) := by rw [hko.out, hfin]; exact rfl
          clear hfin
          replace he := Lib.hid he
          replace he2 := Lib.hid he2
          have hba := hbk.alloc (.cells #[.int .u32 x0, .int .u32 x1, .int .u32 x2, .int .u32 x3, .int .u32 (x4 : Int)] 27)
          have hb2 : Bx (wr.alloc (.cells #[.int .u32 x0, .int .u32 x1, .int .u32 x2, .int .u32 x3, .int .u32 (x4 : Int)] 27)) w.heap.size zeroO := hba
          clear hba
          replace hbk := Lib.hid hbk
          go_wp2_with (refine wpList_store_op ⟨x0, x1, x2, x3, x4⟩ zeroO rfl _ _ rfl w.heap.size rfl rfl hb2 ?_; intro w5 b5 k5)
          refine bodyPost_ret (v := .tuple #[opV ⟨x0, x1, x2, x3, x4⟩, .bool true]) (results_op rfl _ _ w.heap.size rfl _ b5 _ rfl) rfl ?_
          exact ⟨congrArg Ending.returned hv.out, (hk0.alloc _).then k5 (by intro i hi; simp at hi; subst hi; exact .inr (Nat.le_refl _))⟩
        · have d2 : (x1 == h) = false := by simpa using he2
          have hn' := hst.out (fun h => he2 h.2)
          replace hn' := Lib.hid hn'
          replace he := Lib.hid he
          replace he2 := Lib.hid he2
          replace hbk := Lib.hid hbk
          go_wp2
          go_roundw
          case rel => exact ⟨n + 1, by omega, by go_num, hn'.out, hk.alloc _⟩
          case measure => simp [intOf]; omega
      · have d1 : (x0 == a) = false := by simpa using he
        have hn' := hst.out (fun h => he h.1)
        replace hn' := Lib.hid hn'
        replace he := Lib.hid he
        replace hbk := Lib.hid hbk
        go_wp2
        go_roundw
        case rel => exact ⟨n + 1, by omega, by go_num, hn'.out, hk.alloc _⟩
        case measure => simp [intOf]; omega
    · have hno : findK l a h = none := by have := hm.out; rwa [List.take_of_length_le (by omega)] at this
      have hv : Hid ((.tuple #[opV zeroO, .bool false] : Value) = .tuple #[opV (ko.getD zeroO), .bool ko.isSome]) := by rw [hko.out, hno]; exact rfl
      clear hno
      have hb2 : Bx wr w.heap.size zeroO := hbk
      replace hbk := Lib.hid hbk
      go_wp2_with (refine wpList_store_op zeroO zeroO rfl _ _ rfl w.heap.size rfl rfl hb2 ?_; intro w5 b5 k5)
      refine bodyPost_ret (v := .tuple #[opV zeroO, .bool false]) (results_op rfl _ _ w.heap.size rfl _ b5 _ rfl) rfl ?_
      exact ⟨congrArg Ending.returned hv.out, hk0.then k5 (by intro i hi; simp at hi; subst hi; exact .inr (Nat.le_refl _))⟩

/-- An open's place. -/
def RFound (l : List Opn) (a h : Int) (r : Int) : Prop := (r = -1 ∧ findK l a h = none) ∨ ∃ (m : Nat) (x : Opn), r = m ∧ l[m]? = some x ∧ findK l a h = some x
set_option maxRecDepth 100000 in
set_option maxHeartbeats 2000000 in
theorem rfind_any (w : World) (A : Option Addr) (c : Nat) (l : List Opn) (a h : Int) (hb : Els opE 5 w A l) (hl : l.length ≤ 9223372036854775807) :
    Calls Try.prog 13 #[.slice A l.length c, .int .u32 a, .int .u32 h] w fun e w' => (∃ r : Int, e = .returned (.int .i64 r) ∧ Hid (RFound l a h r)) ∧ w' = w := by
  have hlI : (l.length : Int) ≤ 9223372036854775807 := by omega
  go_enter Try.func13, Try.ntmps13
  go_wp2_with fail
  go_loopw [7] (fun i wr => ∃ n : Nat, n ≤ l.length ∧ i = .int .i64 n ∧ Hid (findK (l.take n) a h = none) ∧ wr = w) (fun i _ => l.length - (intOf i).toNat)
  case atStart => exact ⟨0, Nat.zero_le _, rfl, rfl, rfl⟩
  case round =>
    obtain ⟨n, hn, rfl, hm, rfl⟩ := hrel
    by_cases hlt : n < l.length
    · obtain ⟨g, o, rfl, hg, hat⟩ := hb.get hlt
      obtain ⟨c0, c1, c2, c3, c4⟩ := ops_at hat hlt
      have hx : l[n]? = some l[n] := List.getElem?_eq_getElem hlt
      have hst := fun h => findK_step hm.out hx h
      have hfd := fun h1 h2 => findK_found hm.out hx h1 h2
      generalize l[n] = x at *
      obtain ⟨x0, x1, x2, x3, x4⟩ := x
      simp only at c0 c1 c2 c3 c4 hst hfd
      replace hst := Lib.hid hst
      replace hfd := Lib.hid hfd
      clear hat
      by_cases he : x0 = a
      · have d1 : (x0 == a) = true := by simpa using he
        by_cases he2 : x1 = h
        · have d2 : (x1 == h) = true := by simpa using he2
          have hfin : Hid (RFound l a h (n : Int)) := .inr ⟨n, _, rfl, hx, hfd.out he he2⟩
          replace he := Lib.hid he
          replace he2 := Lib.hid he2
          replace hx := Lib.hid hx
          go_wp2
          go_ret
          exact ⟨⟨_, rfl, hfin⟩, rfl⟩
        · have d2 : (x1 == h) = false := by simpa using he2
          have hn' := hst.out (fun h => he2 h.2)
          replace hn' := Lib.hid hn'
          replace he := Lib.hid he
          replace he2 := Lib.hid he2
          replace hx := Lib.hid hx
          go_wp2
          go_roundw
          case rel => exact ⟨n + 1, by omega, by go_num, hn'.out, by trivial⟩
          case measure => simp [intOf]; omega
      · have d1 : (x0 == a) = false := by simpa using he
        have hn' := hst.out (fun h => he h.1)
        replace hn' := Lib.hid hn'
        replace he := Lib.hid he
        replace hx := Lib.hid hx
        go_wp2
        go_roundw
        case rel => exact ⟨n + 1, by omega, by go_num, hn'.out, by trivial⟩
        case measure => simp [intOf]; omega
    · have hno : findK l a h = none := by have := hm.out; rwa [List.take_of_length_le (by omega)] at this
      have hfin : Hid (RFound l a h (-1)) := .inl ⟨rfl, hno⟩
      clear hno
      go_wp2
      go_ret
      exact ⟨⟨_, rfl, hfin⟩, rfl⟩

theorem countP_step {l : List Opn} {p : Opn → Bool} {n : Nat} {x : Opn} (h : l[n]? = some x) : (l.take (n + 1)).countP p = (l.take n).countP p + (if p x = true then 1 else 0) := by
  rw [get_snoc h, List.countP_append]
  by_cases e : p x = true <;> simp [e]
set_option maxRecDepth 100000 in
set_option maxHeartbeats 2000000 in
theorem mine_any (w : World) (A : Option Addr) (c : Nat) (l : List Opn) (a : Int) (hb : Els opE 5 w A l) (hl : l.length ≤ 9223372036854775807) :
    Calls Try.prog 30 #[.slice A l.length c, .int .u32 a] w fun e w' => e = .returned (.int .i64 (mineN l a : Nat)) ∧ w' = w := by
  have hlI : (l.length : Int) ≤ 9223372036854775807 := by omega
  go_enter Try.func30, Try.ntmps30
  go_wp2_with fail
  go_loopw [6, 5] (fun i s wr => ∃ n m : Nat, n ≤ l.length ∧ i = .int .i64 n ∧ s = .int .i64 m ∧ m ≤ n ∧ Hid (m = mineN (l.take n) a) ∧ wr = w) (fun i _ _ => l.length - (intOf i).toNat)
  case atStart => exact ⟨0, 0, Nat.zero_le _, rfl, rfl, Nat.le_refl _, rfl, rfl⟩
  case round =>
    obtain ⟨n, m, hn, rfl, rfl, hmn, hm, rfl⟩ := hrel
    by_cases hlt : n < l.length
    · obtain ⟨g, o, rfl, hg, hat⟩ := hb.get hlt
      obtain ⟨c0, c1, c2, c3, c4⟩ := ops_at hat hlt
      have hx : l[n]? = some l[n] := List.getElem?_eq_getElem hlt
      have hst : mineN (l.take (n + 1)) a = _ := countP_step (p := fun x => decide (x.client = a)) hx
      generalize l[n] = x at *
      obtain ⟨x0, x1, x2, x3, x4⟩ := x
      simp only [decide_eq_true_eq] at c0 c1 c2 c3 c4 hst
      clear hat
      by_cases he : x0 = a
      · have d1 : (x0 == a) = true := by simpa using he
        rw [if_pos he] at hst
        have hm' : Hid (m + 1 = mineN (l.take (n + 1)) a) := by rw [hst, hm.out]; exact rfl
        replace hst := Lib.hid hst
        replace hx := Lib.hid hx
        replace he := Lib.hid he
        go_wp2
        go_roundw
        case rel => exact ⟨n + 1, m + 1, by omega, by go_num, by go_num, by omega, hm', by trivial⟩
        case measure => simp [intOf]; omega
      · have d1 : (x0 == a) = false := by simpa using he
        rw [if_neg he] at hst
        have hm' : Hid (m = mineN (l.take (n + 1)) a) := by rw [hst, hm.out]; exact rfl
        replace hst := Lib.hid hst
        replace hx := Lib.hid hx
        replace he := Lib.hid he
        go_wp2
        go_roundw
        case rel => exact ⟨n + 1, m, by omega, by go_num, rfl, by omega, hm', by trivial⟩
        case measure => simp [intOf]; omega
    · have hm' : m = mineN l a := by have := hm.out; rwa [List.take_of_length_le (by omega)] at this
      subst hm'
      go_wp2
      go_ret
      exact ⟨rfl, rfl⟩
set_option maxRecDepth 100000 in
set_option maxHeartbeats 2000000 in
theorem ruses_any (w : World) (A : Option Addr) (c : Nat) (l : List Opn) (f : Int) (hb : Els opE 5 w A l) (hl : l.length ≤ 9223372036854775807) :
    Calls Try.prog 16 #[.slice A l.length c, .int .u32 0, .int .u32 f] w fun e w' => e = .returned (.int .i64 (l.countP (fun x => decide (x.file = f)) : Nat)) ∧ w' = w := by
  have hlI : (l.length : Int) ≤ 9223372036854775807 := by omega
  go_enter Try.func16, Try.ntmps16
  go_wp2_with fail
  go_loopw [8, 7] (fun i s wr => ∃ n m : Nat, n ≤ l.length ∧ i = .int .i64 n ∧ s = .int .i64 m ∧ m ≤ n ∧ Hid (m = (l.take n).countP (fun x => decide (x.file = f))) ∧ wr = w) (fun i _ _ => l.length - (intOf i).toNat)
  case atStart => exact ⟨0, 0, Nat.zero_le _, rfl, rfl, Nat.le_refl _, rfl, rfl⟩
  case round =>
    obtain ⟨n, m, hn, rfl, rfl, hmn, hm, rfl⟩ := hrel
    by_cases hlt : n < l.length
    · obtain ⟨g, o, rfl, hg, hat⟩ := hb.get hlt
      obtain ⟨c0, c1, c2, c3, c4⟩ := ops_at hat hlt
      have hx : l[n]? = some l[n] := List.getElem?_eq_getElem hlt
      have hst := countP_step (p := fun x => decide (x.file = f)) hx
      generalize l[n] = x at *
      obtain ⟨x0, x1, x2, x3, x4⟩ := x
      simp only [decide_eq_true_eq] at c0 c1 c2 c3 c4 hst
      clear hat
      by_cases he : x2 = f
      · have d1 : (x2 == f) = true := by simpa using he
        rw [if_pos he] at hst
        have hm' : Hid (m + 1 = (l.take (n + 1)).countP (fun x => decide (x.file = f))) := by rw [hst, hm.out]; exact rfl
        replace hst := Lib.hid hst
        replace hx := Lib.hid hx
        replace he := Lib.hid he
        go_wp2
        go_roundw
        case rel => exact ⟨n + 1, m + 1, by omega, by go_num, by go_num, by omega, hm', by trivial⟩
        case measure => simp [intOf]; omega
      · have d1 : (x2 == f) = false := by simpa using he
        rw [if_neg he] at hst
        have hm' : Hid (m = (l.take (n + 1)).countP (fun x => decide (x.file = f))) := by rw [hst, hm.out]; exact rfl
        replace hst := Lib.hid hst
        replace hx := Lib.hid hx
        replace he := Lib.hid he
        go_wp2
        go_roundw
        case rel => exact ⟨n + 1, m, by omega, by go_num, rfl, by omega, hm', by trivial⟩
        case measure => simp [intOf]; omega
    · have hm' : m = l.countP (fun x => decide (x.file = f)) := by have := hm.out; rwa [List.take_of_length_le (by omega)] at this
      subst hm'
      go_wp2
      go_ret
      exact ⟨rfl, rfl⟩
end Go.Proofs.Ythclpefomhakdaa
