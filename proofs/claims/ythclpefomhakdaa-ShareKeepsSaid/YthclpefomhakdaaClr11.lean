/- slices.IndexFunc, slices.DeleteFunc at a row of the call's own; Clear of both sides. -/
import Derived.Test.YthclpefomhakdaaRight11
import Derived.Test.YthclpefomhakdaaRright11
import Derived.Test.YthclpefomhakdaaRoom11
import Derived.Test.YthclpefomhakdaaIns11
namespace Go.Proofs.Ythclpefomhakdaa
open Go.RowKit

/-- A row of opens in a block of its own, with room. -/
def RowB (w : World) (g c : Nat) (M : List Opn) : Prop := ∃ (cur : Array Value) (T : List Value), Blk w g 27 cur ∧ M.length ≤ c ∧ c ≤ maxLen ∧ cur.size = c * 5 ∧ cur.toList = encs opE M ++ T
theorem RowB.kept {S : List Nat} {w w' : World} {g c : Nat} {M : List Opn} (h : RowB w g c M) (k : Only S w w') (hg : g ∉ S) : RowB w' g c M := by
  obtain ⟨cur, T, h1, h2⟩ := h
  exact ⟨cur, T, h1.kept k hg, h2⟩
theorem RowB.at {w : World} {g c : Nat} {M : List Opn} (h : RowB w g c M) : ElsAt opE 5 w g 0 M := fun i hi j v hv => by
  obtain ⟨cur, T, h1, _, _, _, h5⟩ := h
  have q := encs_at opE_length M i hi j v hv
  rw [Nat.zero_add, h1.cell, ← Array.getElem?_toList, h5, List.getElem?_append_left (List.getElem?_eq_some_iff.1 q).1]
  exact q
theorem RowB.lt {w : World} {g c : Nat} {M : List Opn} (h : RowB w g c M) : g < w.heap.size := by
  obtain ⟨cur, T, h1, _⟩ := h
  exact h1.lt
theorem encs_set (M : List Opn) (i : Nat) (hi : i < M.length) (x : Opn) : encs opE (M.set i x) = (encs opE M).take (i * 5) ++ (opE x ++ (encs opE M).drop (i * 5 + 5)) := by
  unfold encs
  rw [List.map_set]
  exact flat_set 5 (M.map opE) i (opE x) (by intro b hb; simp only [List.mem_map] at hb; obtain ⟨y, _, rfl⟩ := hb; exact opE_length y) (by simpa using hi) (opE_length x)
theorem RowB.store {w : World} {g c i : Nat} {M : List Opn} (h : RowB w g c M) (hi : i < M.length) (x : Opn) : RowB (w.setCells g (i * 5) (opE x)) g c (M.set i x) ∧ Only [g] w (w.setCells g (i * 5) (opE x)) := by
  obtain ⟨cur, T, h1, h2, h3, h4, h5⟩ := h
  refine ⟨?_, Only.setCells (.inl (by simp)) _ _ _ (Only.refl [g] w)⟩
  have hc : cur = cur.toList.toArray := by simp
  rw [hc] at h1
  have hcl : cur.toList.length = c * 5 := by rw [Array.length_toList]; exact h4
  have hfit : i * 5 + (opE x).length ≤ cur.toList.length := by rw [opE_length, hcl]; omega
  have hb := Blk.setCells (opE x) cur.toList (i * 5) w h1 hfit
  have hE : (encs opE M).length = M.length * 5 := encs_length opE_length M
  refine ⟨_, T, hb, by simpa using h2, h3, ?_, ?_⟩
  · rw [opE_length] at hfit ⊢
    rw [List.size_toArray, List.length_append, List.length_append, List.length_take, List.length_drop, opE_length, hcl]
    omega
  · rw [encs_set M i hi, h5, opE_length]
    rw [List.take_append_of_le_length (by omega), List.drop_append_of_le_length (by omega)]
    simp
theorem RowB.there {w : World} {g c i : Nat} {M : List Opn} (h : RowB w g c M) (hi : i < M.length) : w.there g (i * 5) 5 := fun j hj => by
  obtain ⟨cur, T, h1, h2, h3, h4, h5⟩ := h
  refine ⟨?_, h1.free _⟩
  rw [h1.cell, Array.getElem?_eq_getElem (by omega)]
  rfl
theorem RowB.of_mine {w w1 : World} {v : Value} {l : List Opn} (h : Mine opE 5 27 w w1 v l) (hl : l ≠ []) : ∃ g c, v = .slice (some ⟨g, 0, none⟩) l.length c ∧ w.heap.size ≤ g ∧ RowB w1 g c l ∧ l.length ≤ c := by
  obtain ⟨g, c, cur, T, rfl, hg, hb, hc, hcm, hs, ht, hat⟩ := h.row hl
  exact ⟨g, c, rfl, hg, ⟨cur, T, hb, hc, hcm, hs, ht⟩, hc⟩
theorem RowB.mine {w w' : World} {g c : Nat} {L : List Opn} (h : RowB w' g c L) (hg : w.heap.size ≤ g) (k : Only [] w w') : Mine opE 5 27 w w' (.slice (some ⟨g, 0, none⟩) L.length c) L := by
  obtain ⟨cur, T, h1, h2, h3, h4, h5⟩ := h
  exact Mine.of_row hg h1 h2 h3 h4 h5 k
theorem encs_take (M : List Opn) (k : Nat) : encs opE M = encs opE (M.take k) ++ encs opE (M.drop k) := by
  rw [← encs_append, List.take_append_drop]
section
variable {ops : Array Oper} {rest : List Oper} {o : Oper} {a : Act} {w : World} {Q : Exit → Act → World → Prop}
/-- An open goes into a row. -/
theorem wpList_store_row (hgd : o.guard = none) (x y : Operand) (ho : o.op = .store 27 x y) (g i c : Nat) (M : List Opn) (p : Opn) (hx : a.eval x = .pointer (some ⟨g, i * 5, none⟩)) (hy : a.eval y = opV p) (hr : RowB w g c M) (hi : i < M.length)
    (h : ∀ w', RowB w' g c (M.set i p) → Only [g] w w' → wpList Try.prog ops Q rest (a.put o.dst undef) w') : wpList Try.prog ops Q (o :: rest) a w :=
  wpList_store_mid hgd 27 x y ho g (i * 5) (opA p) hx hy (hr.there hi) size_op (by simp [opA, Value.oneCell']) (h _ (hr.store hi p).1 (hr.store hi p).2)
end
theorem zeroCells_one (n : Nat) : ∀ v ∈ (Builtin.zeroCells (Value.agg #[.int .u32 0, .int .u32 0, .int .u32 0, .int .u32 0, .int .u32 0]).cells n).toList, v.oneCell' = true := by
  intro v hv
  rw [Builtin.zeroCells, Array.toList_map, List.mem_map] at hv
  obtain ⟨i, _, rfl⟩ := hv
  have hr : i % 5 < 5 := Nat.mod_lt _ (by decide)
  show ((#[.int .u32 0, .int .u32 0, .int .u32 0, .int .u32 0, .int .u32 0] : Array Value)[i % 5]!).oneCell' = true
  generalize i % 5 = r at *
  rcases (show r = 0 ∨ r = 1 ∨ r = 2 ∨ r = 3 ∨ r = 4 by omega) with rfl | rfl | rfl | rfl | rfl <;> rfl
/-- 'clear(s[i:])' of a row: what lies ahead stays. -/
theorem run_clear_row (w : World) (ty : TypeId) (g c i m cc : Nat) (M : List Opn) (h : RowB w g c M) (hm : M.length = i + m) (hm0 : 0 < m) :
    ∃ w', (Builtin.clear_ #[22] ty #[.slice (some ⟨g, i * 5, none⟩) m cc]).run Try.prog w = .ok (.tuple #[]) w' ∧ RowB w' g c (M.take i) ∧ Only [g] w w' := by
  obtain ⟨cur, T, h1, h2, h3, h4, h5⟩ := h
  have hz : (Builtin.zeroCells (Value.agg #[.int .u32 0, .int .u32 0, .int .u32 0, .int .u32 0, .int .u32 0]).cells m).toList.length = m * 5 := by
    rw [Array.length_toList, size_zeroCells]; rfl
  have h6 := zeroCells_one m
  generalize hZ : (Builtin.zeroCells (Value.agg #[.int .u32 0, .int .u32 0, .int .u32 0, .int .u32 0, .int .u32 0]).cells m).toList = Z at *
  have hfit : i * 5 + Z.length ≤ cur.size := by rw [hz, h4]; omega
  have hst := run_storeCells_at Try.prog g (i * 5) 27 Z 0 cur w h1 (by simpa using hfit) h6
  simp only [Nat.add_zero] at hst
  refine ⟨w.setRow g (ins cur (i * 5) Z), ?_, ⟨_, (ins cur (i * 5) Z).toList.drop (i * 5), h1.ins _ _, by rw [List.length_take]; omega, h3, (ins_size hfit).trans h4, ?_⟩, Only.row _ _ _⟩
  · cases m with
    | zero => omega
    | succ m =>
      simp only [Builtin.clear_, Sem.run_bind, run_underlying Try.underlying22, Result.andThen_ok, Sem.run_pure, zeroValue_op, hZ, hst, List.getElem?_toArray, List.getElem?_cons_zero]
      rfl
  · have e1 : (encs opE (M.take i)).length = i * 5 := by rw [encs_length opE_length, List.length_take]; congr 1; omega
    have e2 : (ins cur (i * 5) Z).toList.take (i * 5) = encs opE (M.take i) := by
      unfold ins
      rw [h5, encs_take M i]
      simp only [List.append_assoc]
      rw [← e1, List.take_left, List.take_left]
    rw [← e2, List.take_append_drop]

/-- The first of a client's. -/
def RIdx (l : List Opn) (a : Int) (r : Int) : Prop := (r = -1 ∧ ∀ x ∈ l, x.client ≠ a) ∨ ∃ k : Nat, r = k ∧ k < l.length ∧ (∀ x ∈ l.take k, x.client ≠ a) ∧ ∀ x, l[k]? = some x → x.client = a
theorem none_step {l : List Opn} {a : Int} {n : Nat} {x : Opn} (h : ∀ y ∈ l.take n, y.client ≠ a) (hx : l[n]? = some x) (hc : ¬ x.client = a) : ∀ y ∈ l.take (n + 1), y.client ≠ a := by
  intro y hy
  rw [get_snoc hx, List.mem_append, List.mem_singleton] at hy
  rcases hy with hy | rfl
  · exact h y hy
  · exact hc
set_option maxRecDepth 100000 in
set_option maxHeartbeats 2000000 in
theorem index_any (w : World) (A : Option Addr) (c : Nat) (l : List Opn) (a : Int) (q : Nat) (hb : Els opE 5 w A l) (hl : l.length ≤ 1048576) (hq : w.cell? ⟨q, 0, none⟩ = some (.int .u32 a)) :
    Calls Try.prog 51 #[.slice A l.length c, .func (.func 41) #[] #[.pointer (some ⟨q, 0, none⟩)]] w fun e w' => (∃ r : Int, e = .returned (.int .i64 r) ∧ Hid (RIdx l a r)) ∧ Only [] w w' := by
  have hlI : (l.length : Int) ≤ 1048576 := by omega
  have hC := fun W (k : Only [] w W) (x : Opn) => clr_w W x a q (k.cell hq (by simp))
  replace hC := Lib.hid hC
  go_enter Try.func51, Try.ntmps51
  go_wp2_with fail
  go_loopw [8] (fun i wr => ∃ n : Nat, n ≤ l.length ∧ i = .int .i64 n ∧ Hid (∀ x ∈ l.take n, x.client ≠ a) ∧ Only [] w wr) (fun i _ => l.length - (intOf i).toNat)
  case atStart => exact ⟨0, Nat.zero_le _, rfl, fun x hx => by simp at hx, Only.refl _ _⟩
  case round =>
    obtain ⟨n, hn, rfl, hm, hk⟩ := hrel
    by_cases hlt : n < l.length
    · obtain ⟨g, o, rfl, hg, hat⟩ := hb.get hlt
      obtain ⟨c0, c1, c2, c3, c4⟩ := ops_at (hat.kept hk (by simp)) hlt
      have hx : l[n]? = some l[n] := List.getElem?_eq_getElem hlt
      have hcl := fun W k => hC.out W k l[n]
      generalize l[n] = x at *
      have hst := fun h => none_step hm.out hx h
      obtain ⟨x0, x1, x2, x3, x4⟩ := x
      unfold opV at hcl
      simp only at c0 c1 c2 c3 c4 hcl hst
      clear hat
      by_cases he : x0 = a
      · have hfin : Hid (RIdx l a (n : Int)) := .inr ⟨n, rfl, hlt, hm.out, fun y hy => by rw [hx] at hy; injection hy with hy; subst hy; exact he⟩
        rw [decide_eq_true he] at hcl
        replace hcl := Lib.hid hcl
        replace hx := Lib.hid hx
        replace he := Lib.hid he
        clear hst
        go_wp2_with fail
        refine (hcl.out _ hk).mono ?_; rintro e w3 ⟨rfl, k3⟩
        go_wp2
        go_ret
        exact ⟨⟨_, rfl, hfin⟩, hk.trans k3⟩
      · have hn' : Hid (∀ y ∈ l.take (n + 1), y.client ≠ a) := hst he
        rw [decide_eq_false he] at hcl
        replace hcl := Lib.hid hcl
        replace hx := Lib.hid hx
        replace he := Lib.hid he
        clear hst
        go_wp2_with fail
        refine (hcl.out _ hk).mono ?_; rintro e w3 ⟨rfl, k3⟩
        go_wp2_with fail
        go_roundw
        case rel => exact ⟨n + 1, by omega, by go_num, hn', hk.trans k3⟩
        case measure => simp [intOf]; omega
    · have hfin : Hid (RIdx l a (-1)) := .inl ⟨rfl, by have := hm.out; rwa [List.take_of_length_le (by omega)] at this⟩
      go_wp2
      go_ret
      exact ⟨⟨_, rfl, hfin⟩, hk⟩

theorem clear_snoc_keep {l : List Opn} {a : Int} {j : Nat} {x : Opn} (hx : l[j]? = some x) (h : ¬ x.client = a) : clearL (l.take (j + 1)) a = clearL (l.take j) a ++ [x] := by
  rw [get_snoc hx]
  simp [clearL, h]
theorem clear_snoc_drop {l : List Opn} {a : Int} {j : Nat} {x : Opn} (hx : l[j]? = some x) (h : x.client = a) : clearL (l.take (j + 1)) a = clearL (l.take j) a := by
  rw [get_snoc hx]
  simp [clearL, h]
theorem clear_all {l : List Opn} {a : Int} (h : ∀ x ∈ l, x.client ≠ a) : clearL l a = l := by
  unfold clearL
  rw [List.filter_eq_self]
  intro x hx
  simpa using h x hx
/-- Where the deletion stands: i opens kept of the first j, all behind them as it was. -/
structure DInv (l M : List Opn) (a : Int) (i j : Nat) : Prop where
  len : M.length = l.length
  done : M.take i = clearL (l.take j) a
  rest : M.drop j = l.drop j
  lt : i < j
theorem DInv.at {l M : List Opn} {a : Int} {i j : Nat} (h : DInv l M a i j) {x : Opn} (hx : l[j]? = some x) : M[j]? = some x := by
  have h1 : (M.drop j)[0]? = (l.drop j)[0]? := by rw [h.rest]
  simpa [hx] using h1
theorem DInv.keep {l M : List Opn} {a : Int} {i j : Nat} (h : DInv l M a i j) {x : Opn} (hx : l[j]? = some x) (hc : ¬ x.client = a) : DInv l (M.set i x) a (i + 1) (j + 1) := by
  have hj := (List.getElem?_eq_some_iff.1 hx).1
  have hl := h.len
  have hlt := h.lt
  refine ⟨by rw [List.length_set]; exact hl, ?_, ?_, by omega⟩
  · rw [clear_snoc_keep hx hc, ← h.done, List.take_add_one, List.getElem?_set_self (by omega), List.take_set_of_le (Nat.le_refl _)]
    rfl
  · rw [List.drop_set_of_lt (by omega), ← List.drop_drop, h.rest, List.drop_drop]
theorem DInv.skip {l M : List Opn} {a : Int} {i j : Nat} (h : DInv l M a i j) {x : Opn} (hx : l[j]? = some x) (hc : x.client = a) : DInv l M a i (j + 1) :=
  ⟨h.len, by rw [clear_snoc_drop hx hc]; exact h.done, by rw [← List.drop_drop, h.rest, List.drop_drop], by have := h.lt; omega⟩
set_option maxRecDepth 100000 in
set_option maxHeartbeats 4000000 in
theorem delfunc_any (w W : World) (v : Value) (l : List Opn) (a : Int) (q : Nat) (hm : Mine opE 5 27 w W v l) (hl : l.length ≤ 1000) (hq : W.cell? ⟨q, 0, none⟩ = some (.int .u32 a)) (hne : ∀ g, v.ownBlock = some g → g ≠ q) :
    Calls Try.prog 40 #[v, .func (.func 41) #[] #[.pointer (some ⟨q, 0, none⟩)]] W fun e w' => MineAns w w' e (clearL l a) := by
  obtain ⟨A, c, hv, hels, _, _, _⟩ := hm.shape opE_length
  have hI := fun W' (k : Only [] W W') => index_any W' A c l a q (hels.kept k (by simp)) (by omega) (k.cell hq (by simp))
  replace hI := Lib.hid hI
  by_cases hno : ∀ x ∈ l, x.client ≠ a
  · subst hv
    have hcl := clear_all hno
    rw [hcl]
    replace hm := Lib.hid hm
    clear hcl hels hq hne
    go_enter Try.func40, Try.ntmps40
    go_wp2_with fail
    refine (hI.out _ (Only.refl _ _)).mono ?_; rintro e w3 ⟨⟨r, rfl, hr⟩, k3⟩
    have hr1 : r = -1 := by
      rcases hr.out with h | ⟨k, _, hk, _, h⟩
      · exact h.1
      · exact absurd (h _ (List.getElem?_eq_getElem hk)) (hno _ (List.getElem_mem hk))
    subst hr1
    have hm3 := hm.out.keep k3
    replace hm3 := Lib.hid hm3
    go_wp2
    go_ret
    exact ⟨_, rfl, hm3.out⟩
  have hl0 : l ≠ [] := fun h => hno (by rw [h]; simp)
  obtain ⟨g, c', hv', hg, hrow, hcl'⟩ := RowB.of_mine hm hl0
  rw [hv] at hv'
  injection hv' with e1 _ e3
  subst e1 e3 hv
  have hgq : g ≠ q := hne g rfl
  have honly := hm.only
  have hnI : (l.length : Int) ≤ 1000 := by omega
  clear hm hels hne
  go_enter Try.func40, Try.ntmps40
  go_wp2_with fail
  refine (hI.out _ (Only.refl _ _)).mono ?_; rintro e w3 ⟨⟨r, rfl, hr⟩, k3⟩
  obtain ⟨k, hrk, hkl, hk1, hk2⟩ : ∃ k : Nat, r = k ∧ k < l.length ∧ (∀ x ∈ l.take k, x.client ≠ a) ∧ ∀ x, l[k]? = some x → x.client = a := by
    rcases hr.out with h | h
    · exact absurd h.2 hno
    · exact h
  subst hrk
  have hD : DInv l l a k (k + 1) := ⟨rfl, by rw [clear_snoc_drop (List.getElem?_eq_getElem hkl) (hk2 _ (List.getElem?_eq_getElem hkl)), clear_all hk1], rfl, by omega⟩
  have hrow3 := hrow.kept k3 (by simp)
  have ho3 := honly.trans k3
  have hq3 := k3.cell hq (by simp)
  have dk : ((k : Int) == -1) = false := by rw [beq_eq_false_iff_ne]; omega
  have dk' : ¬ (k : Int) = -1 := by omega
  obtain ⟨n, hn⟩ : ∃ n, n = l.length := ⟨_, rfl⟩
  rw [← hn] at hkl hcl' hl hnI ⊢
  replace hn := Lib.hid hn
  replace hD := Lib.hid hD
  clear hr hk1 hk2 hno hl0 hI hrow honly k3 hq
  go_wp2_with fail
  go_loopw [5, 6] (fun p s wr => ∃ (i j : Nat) (M : List Opn), p = .int .i64 i ∧ s = .int .i64 j ∧ j ≤ n ∧ Hid (DInv l M a i j) ∧ RowB wr g c M ∧ Only [] w wr ∧ wr.cell? ⟨q, 0, none⟩ = some (.int .u32 a)) (fun _ s _ => n - (intOf s).toNat)
  case atStart => exact ⟨k, k + 1, l, rfl, by go_num, by omega, hD, hrow3, ho3, hq3⟩
  case round =>
    clear hrow3 ho3 hq3 hD
    obtain ⟨i, j, M, rfl, rfl, hj, hD, hR, hk, hqr⟩ := hrel
    have hlt := hD.out.lt
    have hMl : M.length = n := by rw [hD.out.len, hn.out]
    by_cases hjn : j < n
    · have hjl : j < l.length := by have := hn.out; omega
      have hx : l[j]? = some l[j] := List.getElem?_eq_getElem hjl
      have hMj := hD.out.at hx
      have hjM : j < M.length := by omega
      have hMe : M[j] = l[j] := (List.getElem?_eq_some_iff.1 hMj).2
      have hat := ops_at hR.at hjM
      rw [hMe] at hat
      obtain ⟨c0, c1, c2, c3, c4⟩ := hat
      simp only [Nat.zero_add] at c0 c1 c2 c3 c4
      have hcl := fun W (hh : W.cell? ⟨q, 0, none⟩ = some (.int .u32 a)) => clr_w W l[j] a q hh
      have hkp := fun h => hD.out.keep hx h
      have hsk := fun h => hD.out.skip hx h
      generalize l[j] = x at *
      obtain ⟨x0, x1, x2, x3, x4⟩ := x
      unfold opV at hcl
      simp only at c0 c1 c2 c3 c4 hcl hkp hsk
      have bx := Bx.new wr ⟨x0, x1, x2, x3, x4⟩
      simp only at bx
      have hka : Only [] wr (wr.alloc (.cells #[.int .u32 x0, .int .u32 x1, .int .u32 x2, .int .u32 x3, .int .u32 (x4 : Int)] 27)) := (Only.refl [] wr).alloc _
      have hqa := hka.cell hqr (by simp)
      by_cases he : x0 = a
      · have hD' : Hid (DInv l M a i (j + 1)) := hsk he
        rw [decide_eq_true he] at hcl
        replace hcl := Lib.hid hcl
        replace hx := Lib.hid hx
        replace hMj := Lib.hid hMj
        replace hMe := Lib.hid hMe
        replace he := Lib.hid he
        replace hMl := Lib.hid hMl
        clear hkp hsk
        go_wp2_with fail
        refine (hcl.out _ hqa).mono ?_; rintro e w4 ⟨rfl, k4⟩
        go_wp2_with fail
        go_roundw
        case rel => exact ⟨i, j + 1, M, rfl, by go_num, by omega, hD', (hR.kept hka (by simp)).kept k4 (by simp), hk.trans (hka.trans k4), k4.cell hqa (by simp)⟩
        case measure => simp [intOf]; omega
      · have hD' : Hid (DInv l (M.set i ⟨x0, x1, x2, x3, x4⟩) a (i + 1) (j + 1)) := hkp he
        rw [decide_eq_false he] at hcl
        have hiM : i < M.length := by omega
        have hin : i < n := by omega
        replace hcl := Lib.hid hcl
        replace hx := Lib.hid hx
        replace hMj := Lib.hid hMj
        replace hMe := Lib.hid hMe
        replace he := Lib.hid he
        replace hMl := Lib.hid hMl
        clear hkp hsk
        go_wp2_with fail
        refine (hcl.out _ hqa).mono ?_; rintro e w4 ⟨rfl, k4⟩
        have hR4 := (hR.kept hka (by simp)).kept k4 (by simp)
        have hk4 := hk.trans (hka.trans k4)
        obtain ⟨q0, q1, q2, q3, q4⟩ := (Bx.kept bx k4 (by simp)).cells
        have hq4 := k4.cell hqa (by simp)
        simp only at q0 q1 q2 q3 q4
        clear hka k4 bx hqa hR c0 c1 c2 c3 c4
        go_wp2_with (refine wpList_store_row rfl _ _ rfl g i c M ⟨x0, x1, x2, x3, x4⟩ rfl rfl hR4 hiM ?_; intro w5 r5 k5)
        go_roundw
        case rel => exact ⟨i + 1, j + 1, _, by go_num, by go_num, by omega, hD', r5, hk4.own k5 hg, k5.cell hq4 (by simpa using fun h => hgq h.symm)⟩
        case measure => simp [intOf]; omega
    · have hje : j = n := by omega
      have hfin : M.take i = clearL l a := by have := hD.out.done; rwa [List.take_of_length_le (l := l) (i := j) (by have := hn.out; omega)] at this
      have hin : i < n := by omega
      obtain ⟨w6, hrun, hR6, hk6⟩ := run_clear_row wr 0 g c i (n - i) (c - i) M hR (by omega) (by omega)
      have hm6 := hR6.mine hg (hk.own hk6 hg)
      have hlen : (M.take i).length = i := by rw [List.length_take]; omega
      rw [hlen, hfin] at hm6
      have s1 := run_tail (P := Try.prog) 22 27 Try.underlying22 size_op' (some ⟨g, 0, none⟩) n c i (i : Int) rfl (by omega)
      rw [tailA_at g c i (by omega)] at s1
      have s2 := run_head (P := Try.prog) 22 27 Try.underlying22 size_op' (some ⟨g, 0, none⟩) n c i (i : Int) rfl (by omega)
      rw [tailA_zero] at s2
      have q1 : ¬ c = i := by omega
      have q2 : i ≤ n := by omega
      have q3 : ¬ n < i := by omega
      have q4 : i ≤ c := by omega
      have q5 : ¬ c < i := by omega
      replace hm6 := Lib.hid hm6
      replace hMl := Lib.hid hMl
      replace hje := Lib.hid hje
      clear hfin hlen hR hR6 hk6
      go_wp2
      go_ret
      exact ⟨_, rfl, hm6.out⟩
end Go.Proofs.Ythclpefomhakdaa
