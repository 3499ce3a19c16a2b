/- Joined: Cnt11, Row11. -/
import Derived.Test.YtalkhhjfplahkaaGreatKJ
import Derived.Lib.AppendZerosOnto
import Derived.Lib.AppendZeros
import Derived.Lib.Overlaps
import Derived.Laws.IdiomCopy
import Derived.Lib.SliceRun
import Derived.Deep.Upon
namespace Go.Proofs.YtalkhhjfplahkaaGreat
set_option maxRecDepth 100000
open Go.RowKit

theorem countP_take {l : List Opn} {p : Opn → Bool} {n : Nat} {x : Opn} (h : l[n]? = some x) : (l.take (n + 1)).countP p = (l.take n).countP p + (if p x = true then 1 else 0) := by
  rw [get_snocs h, List.countP_append]
  by_cases e : p x = true <;> simp [e]

theorem full_w (w : World) (x : Opn) (f : Int) (q : Nat) (h : w.cell? ⟨q, 0, none⟩ = some (.int .u32 f)) : Calls Tryz.prog 101 #[opV x, .pointer (some ⟨q, 0, none⟩)] w fun e w' => e = .returned (.bool (decide (x.client = f))) ∧ Only [] w w' := by
  obtain ⟨x0, x1, x2, x3, x4⟩ := x
  have k : Only [] w (w.alloc (.cells #[.int .u32 x0, .int .u32 x1, .int .u32 x2, .int .u32 x3, .int .u32 (x4 : Int)] 61)) := (Only.refl [] w).alloc _
  have h' := k.cell h (by simp)
  unfold opV
  simp only
  go_enter Tryz.func101, Tryz.ntmps101
  go_wp2
  go_ret
  exact ⟨rfl, k⟩

set_option maxRecDepth 100000 in
set_option maxHeartbeats 2000000 in
theorem count_full (w : World) (A : Option Addr) (c : Nat) (l : List Opn) (f : Int) (q : Nat) (hb : Els opE 5 w A l) (hl : l.length ≤ 9223372036854775807) (hq : w.cell? ⟨q, 0, none⟩ = some (.int .u32 f)) :
    Calls Tryz.prog 100 #[.slice A l.length c, .func (.func 101) #[] #[.pointer (some ⟨q, 0, none⟩)]] w fun e w' => e = .returned (.int .i64 (l.countP (fun x => decide (x.client = f)) : Nat)) ∧ Only [] w w' := by
  have hlI : (l.length : Int) ≤ 9223372036854775807 := by omega
  have hC := fun W (k : Only [] w W) (x : Opn) (hx : x ∈ l) => full_w W x f q (k.cell hq (by simp))
  replace hC := Lib.hid hC
  obtain ⟨p, hp⟩ : ∃ p : Opn → Bool, p = (fun x => decide (x.client = f)) := ⟨_, rfl⟩
  have hC2 : Hid (∀ W, Only [] w W → ∀ x ∈ l, Calls Tryz.prog 101 #[opV x, .pointer (some ⟨q, 0, none⟩)] W fun e w' => e = .returned (.bool (p x)) ∧ Only [] W w') := by rw [hp]; exact hC.out
  rw [← hp]
  clear hC hp hq
  go_enter Tryz.func100, Tryz.ntmps100
  go_wp2_with fail
  go_loopw [10, 5] (fun i s wr => ∃ n m : Nat, n ≤ l.length ∧ i = .int .i64 n ∧ s = .int .i64 m ∧ m ≤ n ∧ Hid (m = (l.take n).countP p) ∧ Only [] w wr) (fun i _ _ => l.length - (intOf i).toNat)
  case atStart => exact ⟨0, 0, Nat.zero_le _, rfl, rfl, Nat.le_refl _, rfl, Only.refl _ _⟩
  case round =>
    obtain ⟨n, m, hn, rfl, rfl, hmn, hm, hk⟩ := hrel
    by_cases hlt : n < l.length
    · obtain ⟨g, o, rfl, hg, hat⟩ := hb.get hlt
      obtain ⟨c0, c1, c2, c3, c4⟩ := ops_at (hat.kept hk (by simp)) hlt
      have hx : l[n]? = some l[n] := List.getElem?_eq_getElem hlt
      have hst := countP_take (p := p) hx
      have hcl := fun W k => hC2.out W k l[n] (List.getElem_mem hlt)
      generalize l[n] = x at *
      obtain ⟨x0, x1, x2, x3, x4⟩ := x
      generalize p ⟨x0, x1, x2, x3, x4⟩ = b at *
      unfold opV at hcl
      simp only at c0 c1 c2 c3 c4 hcl
      replace hcl := Lib.hid hcl
      have hka := hk.alloc (.cells #[.int .u32 x0, .int .u32 x1, .int .u32 x2, .int .u32 x3, .int .u32 (x4 : Int)] 61)
      clear hat
      cases b with
      | true =>
        rw [if_pos rfl] at hst
        have hm' : Hid (m + 1 = (l.take (n + 1)).countP p) := by rw [hst, ← hm.out]; exact rfl
        replace hst := Lib.hid hst
        replace hx := Lib.hid hx
        go_wp2_with fail
        refine (hcl.out _ hka).mono ?_; rintro e w3 ⟨rfl, k3⟩
        go_wp2_with fail
        go_roundw
        case rel => exact ⟨n + 1, m + 1, by omega, by go_num, by go_num, by omega, hm', hka.trans k3⟩
        case measure => simp [intOf]; omega
      | false =>
        rw [if_neg (by simp)] at hst
        have hm' : Hid (m = (l.take (n + 1)).countP p) := by rw [hst, ← hm.out]; rfl
        replace hst := Lib.hid hst
        replace hx := Lib.hid hx
        go_wp2_with fail
        refine (hcl.out _ hka).mono ?_; rintro e w3 ⟨rfl, k3⟩
        go_wp2_with fail
        go_roundw
        case rel => exact ⟨n + 1, m, by omega, by go_num, rfl, by omega, hm', hka.trans k3⟩
        case measure => simp [intOf]; omega
    · have hm' : m = l.countP p := by have := hm.out; rwa [List.take_of_length_le (by omega)] at this
      subst hm'
      go_wp2
      go_ret
      exact ⟨rfl, hk⟩

theorem den_w (w : World) (x o : Opn) (hx : validO x) (ho : validO o) (q : Nat) (h : Bxs w q o) : Calls Tryz.prog 102 #[opV x, .pointer (some ⟨q, 0, none⟩)] w fun e w' => e = .returned (.bool (decide (clashO o x))) ∧ Only [] w w' := by
  have hC := fun W => conflict_any W o x ho hx
  obtain ⟨r, hr⟩ : ∃ r, r = decide (clashO o x) := ⟨_, rfl⟩
  rw [← hr] at hC ⊢
  obtain ⟨x0, x1, x2, x3, x4⟩ := x
  obtain ⟨y0, y1, y2, y3, y4⟩ := o
  have k : Only [] w (w.alloc (.cells #[.int .u32 x0, .int .u32 x1, .int .u32 x2, .int .u32 x3, .int .u32 (x4 : Int)] 61)) := (Only.refl [] w).alloc _
  obtain ⟨c0, c1, c2, c3, c4⟩ := (Bxs.kept h k (by simp)).cells
  unfold opV at hC ⊢
  simp only at c0 c1 c2 c3 c4 hC ⊢
  replace hC := Lib.hid hC
  clear hr hx ho h
  go_enter Tryz.func102, Tryz.ntmps102
  go_wp2_with fail
  refine (hC.out _).mono ?_; rintro e w3 ⟨rfl, k3⟩
  go_wp2
  go_ret
  exact ⟨rfl, k.trans k3⟩

set_option maxRecDepth 100000 in
set_option maxHeartbeats 2000000 in
theorem count_den (w : World) (A : Option Addr) (c : Nat) (l : List Opn) (o : Opn) (q : Nat) (hb : Els opE 5 w A l) (hl : l.length ≤ 9223372036854775807) (ho : validO o) (hv : ∀ x ∈ l, validO x) (hq : Bxs w q o) :
    Calls Tryz.prog 100 #[.slice A l.length c, .func (.func 102) #[] #[.pointer (some ⟨q, 0, none⟩)]] w fun e w' => e = .returned (.int .i64 (l.countP (fun x => decide (clashO o x)) : Nat)) ∧ Only [] w w' := by
  have hlI : (l.length : Int) ≤ 9223372036854775807 := by omega
  have hC := fun W (k : Only [] w W) (x : Opn) (hx : x ∈ l) => den_w W x o (hv x hx) ho q (Bxs.kept hq k (by simp))
  replace hC := Lib.hid hC
  obtain ⟨p, hp⟩ : ∃ p : Opn → Bool, p = (fun x => decide (clashO o x)) := ⟨_, rfl⟩
  have hC2 : Hid (∀ W, Only [] w W → ∀ x ∈ l, Calls Tryz.prog 102 #[opV x, .pointer (some ⟨q, 0, none⟩)] W fun e w' => e = .returned (.bool (p x)) ∧ Only [] W w') := by rw [hp]; exact hC.out
  rw [← hp]
  clear hC hp ho hv hq
  go_enter Tryz.func100, Tryz.ntmps100
  go_wp2_with fail
  go_loopw [10, 5] (fun i s wr => ∃ n m : Nat, n ≤ l.length ∧ i = .int .i64 n ∧ s = .int .i64 m ∧ m ≤ n ∧ Hid (m = (l.take n).countP p) ∧ Only [] w wr) (fun i _ _ => l.length - (intOf i).toNat)
  case atStart => exact ⟨0, 0, Nat.zero_le _, rfl, rfl, Nat.le_refl _, rfl, Only.refl _ _⟩
  case round =>
    obtain ⟨n, m, hn, rfl, rfl, hmn, hm, hk⟩ := hrel
    by_cases hlt : n < l.length
    · obtain ⟨g, o, rfl, hg, hat⟩ := hb.get hlt
      obtain ⟨c0, c1, c2, c3, c4⟩ := ops_at (hat.kept hk (by simp)) hlt
      have hx : l[n]? = some l[n] := List.getElem?_eq_getElem hlt
      have hst := countP_take (p := p) hx
      have hcl := fun W k => hC2.out W k l[n] (List.getElem_mem hlt)
      generalize l[n] = x at *
      obtain ⟨x0, x1, x2, x3, x4⟩ := x
      generalize p ⟨x0, x1, x2, x3, x4⟩ = b at *
      unfold opV at hcl
      simp only at c0 c1 c2 c3 c4 hcl
      replace hcl := Lib.hid hcl
      have hka := hk.alloc (.cells #[.int .u32 x0, .int .u32 x1, .int .u32 x2, .int .u32 x3, .int .u32 (x4 : Int)] 61)
      clear hat
      cases b with
      | true =>
        rw [if_pos rfl] at hst
        have hm' : Hid (m + 1 = (l.take (n + 1)).countP p) := by rw [hst, ← hm.out]; exact rfl
        replace hst := Lib.hid hst
        replace hx := Lib.hid hx
        go_wp2_with fail
        refine (hcl.out _ hka).mono ?_; rintro e w3 ⟨rfl, k3⟩
        go_wp2_with fail
        go_roundw
        case rel => exact ⟨n + 1, m + 1, by omega, by go_num, by go_num, by omega, hm', hka.trans k3⟩
        case measure => simp [intOf]; omega
      | false =>
        rw [if_neg (by simp)] at hst
        have hm' : Hid (m = (l.take (n + 1)).countP p) := by rw [hst, ← hm.out]; rfl
        replace hst := Lib.hid hst
        replace hx := Lib.hid hx
        go_wp2_with fail
        refine (hcl.out _ hka).mono ?_; rintro e w3 ⟨rfl, k3⟩
        go_wp2_with fail
        go_roundw
        case rel => exact ⟨n + 1, m, by omega, by go_num, rfl, by omega, hm', hka.trans k3⟩
        case measure => simp [intOf]; omega
    · have hm' : m = l.countP p := by have := hm.out; rwa [List.take_of_length_le (by omega)] at this
      subst hm'
      go_wp2
      go_ret
      exact ⟨rfl, hk⟩

theorem cell_new (w : World) (t : TypeId) (v : Value) : (w.alloc (.cells #[v] t)).cell? ⟨w.heap.size, 0, none⟩ = some v := (Blk.new w t #[v]).cell 0
theorem full_anys (w : World) (A : Option Addr) (c : Nat) (l : List Opn) (a : Int) (hb : Els opE 5 w A l) (hl : l.length ≤ 9223372036854775807) :
    Calls Tryz.prog 77 #[.slice A l.length c, .int .u32 a] w fun e w' => e = .returned (.bool (decide (12 ≤ l.length ∨ 4 ≤ mineN l a))) ∧ Only [] w w' := by
  have k0 : Only [] w (w.alloc (.cells #[.int .u32 a] 22)) := (Only.refl [] w).alloc _
  have hs := count_full _ A c l a w.heap.size (hb.kept k0 (by simp)) hl (cell_new w 22 (.int .u32 a))
  have e0 : l.countP (fun x => decide (x.client = a)) = mineN l a := rfl
  rw [e0] at hs
  clear e0
  generalize mineN l a = m at *
  obtain ⟨n, hn⟩ : ∃ n, n = l.length := ⟨_, rfl⟩
  rw [← hn] at hs ⊢
  obtain ⟨r, hr⟩ : ∃ r, r = decide (12 ≤ n ∨ 4 ≤ m) := ⟨_, rfl⟩
  rw [← hr]
  replace hs := Lib.hid hs
  replace hn := Lib.hid hn
  by_cases p1 : (12 : Int) ≤ (n : Int)
  · have d1 : decide ((12 : Int) ≤ (n : Int)) = true := decide_eq_true p1
    obtain rfl : r = true := by rw [hr]; exact decide_eq_true (.inl (by omega))
    clear hr
    go_enter Tryz.func77, Tryz.ntmps77
    go_wp2_with fail
    refine hs.out.mono ?_; rintro e w3 ⟨rfl, k3⟩
    go_wp2
    go_ret
    exact ⟨rfl, k0.trans k3⟩
  · have d1 : decide ((12 : Int) ≤ (n : Int)) = false := decide_eq_false p1
    obtain rfl : r = decide ((4 : Int) ≤ (m : Int)) := by rw [hr]; exact decide_eq_decide.2 (by omega)
    clear hr
    go_enter Tryz.func77, Tryz.ntmps77
    go_wp2_with fail
    refine hs.out.mono ?_; rintro e w3 ⟨rfl, k3⟩
    go_wp2
    go_ret
    exact ⟨rfl, k0.trans k3⟩
theorem denied_any (w : World) (A : Option Addr) (c : Nat) (l : List Opn) (o : Opn) (ho : validO o) (hv : ∀ x ∈ l, validO x) (hb : Els opE 5 w A l) (hl : l.length ≤ 9223372036854775807) :
    Calls Tryz.prog 78 #[.slice A l.length c, opV o] w fun e w' => e = .returned (.bool (decide (∃ y ∈ l, clashO o y))) ∧ Only [] w w' := by
  have hz2 : decide (0 < l.countP (fun x => decide (clashO o x))) = decide (∃ y ∈ l, clashO o y) := decide_eq_decide.2 (by
    have h := List.countP_pos_iff (p := fun x => decide (clashO o x)) (l := l)
    simp only [decide_eq_true_eq] at h
    rw [← h])
  rw [← hz2]
  clear hz2
  have bq := Bxs.new w o
  have k0 := (Only.refl [] w).alloc (.cells #[.int .u32 o.client, .int .u32 o.handle, .int .u32 o.file, .int .u32 o.access, .int .u32 (o.deny : Int)] 61)
  have hs := count_den _ A c l o w.heap.size (hb.kept k0 (by simp)) hl ho hv bq
  generalize l.countP (fun x => decide (clashO o x)) = n at *
  clear bq ho hv
  obtain ⟨y0, y1, y2, y3, y4⟩ := o
  unfold opV
  simp only at hs k0 ⊢
  replace hs := Lib.hid hs
  go_enter Tryz.func78, Tryz.ntmps78
  go_wp2_with fail
  refine hs.out.mono ?_; rintro e w3 ⟨rfl, k3⟩
  go_wp2
  go_ret
  exact ⟨rfl, k0.trans k3⟩
end Go.Proofs.YtalkhhjfplahkaaGreat
namespace Go.Proofs.YtalkhhjfplahkaaGreat
set_option maxRecDepth 100000
open Go.RowKit

section
variable {α : Type} {enc : α → List Value} {k : Nat} {w : World}
theorem els_news (hk : ∀ x, (enc x).length = k) (h0 : 0 < k) {g o : Nat} {l : List α} (h : ElsAt enc k w g o l) : ∀ j u, (encs enc l)[j]? = some u → w.cell? ((⟨g, o, none⟩ : Addr).add j) = some u := by
  intro j u hu
  rw [addr_add]
  have hj : j < l.length * k := by
    have := (List.getElem?_eq_some_iff.1 hu).1
    rwa [encs_length hk] at this
  have hi : j / k < l.length := Nat.div_lt_of_lt_mul (by rw [Nat.mul_comm]; exact hj)
  have hr : j % k < (enc l[j / k]).length := by rw [hk]; exact Nat.mod_lt _ h0
  have hv := List.getElem?_eq_getElem hr
  have e : j / k * k + j % k = j := by rw [Nat.mul_comm]; exact Nat.div_add_mod j k
  have h1 := encs_at hk l (j / k) hi (j % k) _ hv
  rw [e, hu] at h1
  injection h1 with h1
  have h2 := h (j / k) hi (j % k) _ hv
  rw [Nat.add_assoc, e, ← h1] at h2
  exact h2
theorem encs_append (l m : List α) : encs enc (l ++ m) = encs enc l ++ encs enc m := by simp [encs]
variable {P : Program}
/-- 'append(s, y...)'. -/
theorem wpList_append_els (hk : ∀ x, (enc x).length = k) (h0 : 0 < k) (h1 : ∀ x, ∀ v ∈ enc x, v.oneCell' = true) {ops : Array Oper} {rest : List Oper} {o : Oper} {a : Act} {Q : Exit → Act → World → Prop} (hgd : o.guard = none) (s y : Operand) (t : TypeId)
    (ho : o.op = .call { callee := .builtin .append, args := #[s, y], argTypes := #[t, t] })
    (e : TypeId) (z : Value) (bytes : Nat) (ht : P.underlying t = some (.slice e)) (hinfo : (P.info? e).map (fun i => (i.zero, i.size, i.bytes)) = some (some z, k, bytes)) (hzs : z.cells.size = k)
    (v : Value) (n : Nat) (xs : List α) (hs : a.eval s = v) (hown : w.ownsRow 0 e k v n (encs enc xs))
    (g p m c : Nat) (ys : List α) (hm : m = ys.length) (hx : a.eval y = .slice (some ⟨g, p, none⟩) m c) (hsrc : ElsAt enc k w g p ys)
    (h63 : n + m ≤ maxLen) (hbytes : (n + m) * bytes ≤ 140737488355328)
    (h : ∀ v' w', w'.ownsRow 0 e k v' (n + m) (encs enc (xs ++ ys)) → w.grownBy w' v.ownBlock → (v'.ownBlock = v.ownBlock ∨ v'.ownBlock = some w.heap.size) → wpList P ops Q rest (a.put o.dst v') w') : wpList P ops Q (o :: rest) a w := by
  subst hm
  refine wpList_plain hgd fun K hK => ?_
  obtain ⟨i, hi, hz0, hz1, hz2⟩ := info_parts hinfo
  obtain ⟨v', w', hrun, h2, h3, _, h4⟩ := run_append_own_at (P := P) w 0 t o.type e i z k bytes ht hi hz0 hz1 hz2 hzs h0 v n (encs enc xs) hown ⟨g, p, none⟩ ys.length c (encs enc ys) (encs_length hk ys) (els_news hk h0 hsrc) (encs_one h1 ys) h63 hbytes (Nat.zero_le _)
  rw [← encs_append] at h2
  unfold Oper.wp execOp
  simp only [ho, resolve, invoke, builtin, Sem.run_bind, Sem.run_pure, Result.andThen_ok, List.map_toArray, List.map_cons, List.map_nil, hs, hx, hrun]
  exact hK _ _ (h v' w' h2 h3 h4)
/-- .. y empty or not. -/
theorem wpList_append_any (hk : ∀ x, (enc x).length = k) (h0 : 0 < k) (h1 : ∀ x, ∀ v ∈ enc x, v.oneCell' = true) {ops : Array Oper} {rest : List Oper} {o : Oper} {a : Act} {Q : Exit → Act → World → Prop} (hgd : o.guard = none) (s y : Operand) (t : TypeId)
    (ho : o.op = .call { callee := .builtin .append, args := #[s, y], argTypes := #[t, t] })
    (e : TypeId) (z : Value) (bytes : Nat) (ht : P.underlying t = some (.slice e)) (hinfo : (P.info? e).map (fun i => (i.zero, i.size, i.bytes)) = some (some z, k, bytes)) (hzs : z.cells.size = k)
    (v : Value) (n : Nat) (xs : List α) (hs : a.eval s = v) (hown : w.ownsRow 0 e k v n (encs enc xs))
    (A : Option Addr) (c : Nat) (ys : List α) (hx : a.eval y = .slice A ys.length c) (hsrc : Els enc k w A ys)
    (h63 : n + ys.length ≤ maxLen) (hbytes : (n + ys.length) * bytes ≤ 140737488355328)
    (h : ∀ v' w', w'.ownsRow 0 e k v' (n + ys.length) (encs enc (xs ++ ys)) → w.grownBy w' v.ownBlock → (v'.ownBlock = v.ownBlock ∨ v'.ownBlock = some w.heap.size) → wpList P ops Q rest (a.put o.dst v') w') : wpList P ops Q (o :: rest) a w := by
  rcases hsrc with hnil | ⟨g, p, rfl, hg, hat⟩
  · subst hnil
    refine wpList_plain hgd fun K hK => ?_
    obtain ⟨i, hi, hz0, hz1, hz2⟩ := info_parts hinfo
    have hsrc : Src P i.size t (.slice A 0 c) 0 [] w := by
      cases A with
      | none => exact Src.ofNil w ht c
      | some a => exact Src.ofSlice w ht a 0 c [] (by simp) (fun j u hj => by simp at hj) (fun _ h => by cases h)
    have hrun : (Builtin.append_ #[t, t] o.type #[v, .slice A 0 c]).run P w = .ok v w := by
      rcases id hown.2 with ⟨rfl, rfl⟩ | ⟨g, cap, cur, rfl, _, _, hnc, _⟩
      · exact run_append_nothing w t t o.type e i ht hi none 0 0 (Nat.le_refl _) _ hsrc
      · exact run_append_nothing w t t o.type e i ht hi _ n cap hnc _ hsrc
    simp only [List.length_nil] at hx
    unfold Oper.wp execOp
    simp only [ho, resolve, invoke, builtin, Sem.run_bind, Sem.run_pure, Result.andThen_ok, List.map_toArray, List.map_cons, List.map_nil, hs, hx, hrun]
    exact hK _ _ (h v w (by simpa using hown) (World.grownBy.refl _ _) (.inl rfl))
  · exact wpList_append_els hk h0 h1 hgd s y t ho e z bytes ht hinfo hzs v n xs hs hown g p ys.length c ys rfl hx hat h63 hbytes h
end
theorem own_empty {w : World} {e : TypeId} {k g : Nat} (h : Blk w g e #[]) : w.ownsRow 0 e k (.slice (some ⟨g, 0, none⟩) 0 0) 0 [] :=
  ⟨by simp, .inr ⟨g, 0, #[], rfl, Nat.zero_le _, h, Nat.le_refl _, Nat.zero_le _, by simp, by simp⟩⟩

/-- What is answered: a list of the call's own. -/
def MineAns (w w' : World) (e : Ending) (l : List Opn) : Prop := ∃ v, e = .returned v ∧ Mine opE 5 61 w w' v l

/-- A row with other cells from o on. -/
def ins (cur : Array Value) (o : Nat) (vs : List Value) : Array Value := (cur.toList.take o ++ vs ++ cur.toList.drop (o + vs.length)).toArray
theorem ins_size {cur : Array Value} {o : Nat} {vs : List Value} (h : o + vs.length ≤ cur.size) : (ins cur o vs).size = cur.size := by
  simp only [ins, List.size_toArray, List.length_append, List.length_take, List.length_drop, Array.length_toList]
  omega
theorem ins_two {A : Array Value} {E1 E2 T X : List Value} (hA : A.toList = E1 ++ (E2 ++ T)) (hT : X.length ≤ T.length) : ∃ T', (ins (ins A (E1.length + X.length) E2) E1.length X).toList = E1 ++ X ++ E2 ++ T' := by
  refine ⟨A.toList.drop (E1.length + X.length + E2.length), ?_⟩
  have h1 : A.toList.take (E1.length + X.length) = E1 ++ (E2 ++ T).take X.length := by
    rw [hA, List.take_append, List.take_of_length_le (l := E1) (by omega)]
    congr 2
    omega
  have hy : ((E2 ++ T).take X.length).length = X.length := by simp; omega
  generalize (E2 ++ T).take X.length = Y at *
  unfold ins
  simp only [h1]
  have h2 : (E1 ++ Y ++ E2 ++ A.toList.drop (E1.length + X.length + E2.length)).take E1.length = E1 := by
    rw [List.append_assoc, List.append_assoc, List.take_left]
  have h3 : (E1 ++ Y ++ E2 ++ A.toList.drop (E1.length + X.length + E2.length)).drop (E1.length + X.length) = E2 ++ A.toList.drop (E1.length + X.length + E2.length) := by
    rw [List.append_assoc, show E1.length + X.length = (E1 ++ Y).length by simp [hy], List.drop_left]
  simp only [h2, h3]
  simp
theorem ins_next {A : Array Value} {E1 T X E2 : List Value} (hA : A.toList = E1 ++ T) : ∃ T', (ins (ins A E1.length X) (E1.length + X.length) E2).toList = E1 ++ X ++ E2 ++ T' := by
  refine ⟨(ins A E1.length X).toList.drop (E1.length + X.length + E2.length), ?_⟩
  have h1 : (ins A E1.length X).toList.take (E1.length + X.length) = E1 ++ X := by
    unfold ins
    simp only [hA, List.take_left]
    rw [show E1.length + X.length = (E1 ++ X).length by simp, List.take_left]
  have e : ∀ (B : Array Value) (o : Nat) (vs : List Value), (ins B o vs).toList = B.toList.take o ++ vs ++ B.toList.drop (o + vs.length) := fun _ _ _ => rfl
  rw [e, h1]
section
variable {P : Program} {w : World} {g o : Nat} {cur : Array Value} {vs : List Value}
theorem Blk.ins (h : Blk w g 61 cur) (o : Nat) (vs : List Value) : Blk (w.setRow g (ins cur o vs)) g 61 (ins cur o vs) := setRow_heap w g cur _ 61 _ h
theorem Only.row (w : World) (g : Nat) (c : Array Value) : Only [g] w (w.setRow g c) := (Only.refl [g] w).setRow (.inl (by simp)) _
end
theorem run_copy_ops (w : World) (ty : TypeId) (g o dLen dCap : Nat) (a : Addr) (sLen sCap : Nat) (cur : Array Value) (cs : List Value)
    (hg : Blk w g 61 cur) (hn : cs.length = Nat.min sLen dLen * 5)
    (hsrc : ∀ j v, cs[j]? = some v → w.cell? (a.add j) = some v) (hfit : o + cs.length ≤ cur.size) (h1 : ∀ v ∈ cs, v.oneCell' = true) :
    (Builtin.copy_ #[24, 24] ty #[.slice (some ⟨g, o, none⟩) dLen dCap, .slice (some a) sLen sCap]).run Tryz.prog w = .ok (goInt (Nat.min sLen dLen)) (w.setRow g (ins cur o cs)) := by
  have hf := run_firstCells_some (P := Tryz.prog) w 5 (Nat.min sLen dLen) a sLen sCap cs hn hsrc
  have hst := run_storeCells_at Tryz.prog g o 61 cs 0 cur w hg (by simpa using hfit) h1
  simp only [Nat.add_zero] at hst
  simp only [Builtin.copy_, Sem.run_bind, run_underlying Tryz.underlying24, Result.andThen_ok, Builtin.lenOf, Sem.run_pure, size_op', hf, hst, List.getElem?_toArray, List.getElem?_cons_zero, List.getElem?_cons_succ]
  rfl
theorem run_append_ops (w : World) (ty : TypeId) (g n c : Nat) (a : Addr) (m mc : Nat) (cur : Array Value) (cs : List Value)
    (hg : Blk w g 61 cur) (hn : cs.length = m * 5) (hsrc : ∀ j v, cs[j]? = some v → w.cell? (a.add j) = some v) (hroom : n + m ≤ c) (hfit : n * 5 + cs.length ≤ cur.size) (h1 : ∀ v ∈ cs, v.oneCell' = true) :
    (Builtin.append_ #[24, 24] ty #[.slice (some ⟨g, 0, none⟩) n c, .slice (some a) m mc]).run Tryz.prog w = .ok (.slice (some ⟨g, 0, none⟩) (n + m) c) (w.setRow g (ins cur (n * 5) cs)) := by
  obtain ⟨i, hi, hz0, hz1, hz2⟩ := info_parts info_op
  have := run_append_room (P := Tryz.prog) w 24 ty 61 i Tryz.underlying24 hi g n c cur hg a m mc cs (by rw [hz1]; exact hn) hsrc h1 hroom (by rw [hz1]; exact hfit)
  rw [hz1] at this
  exact this
def zeroE : List Value := [.int .u32 0, .int .u32 0, .int .u32 0, .int .u32 0, .int .u32 0]
theorem zeroValue_op : ∀ w, (zeroValue 61).run Tryz.prog w = .ok (.agg #[.int .u32 0, .int .u32 0, .int .u32 0, .int .u32 0, .int .u32 0]) w := Tryz.zeroValue61
theorem run_clear_op (w : World) (ty : TypeId) (g o c : Nat) (cur : Array Value) (hg : Blk w g 61 cur) (hfit : o + 5 ≤ cur.size) :
    (Builtin.clear_ #[24] ty #[.slice (some ⟨g, o, none⟩) 1 c]).run Tryz.prog w = .ok (.tuple #[]) (w.setRow g (ins cur o zeroE)) := by
  have hst := run_storeCells_at Tryz.prog g o 61 zeroE 0 cur w hg (by simpa [zeroE] using hfit) (by simp [zeroE, Value.oneCell'])
  simp only [Nat.add_zero] at hst
  have hzc : (Builtin.zeroCells (Value.agg #[.int .u32 0, .int .u32 0, .int .u32 0, .int .u32 0, .int .u32 0]).cells 1).toList = zeroE := by kernel_rfl
  simp only [Builtin.clear_, Sem.run_bind, run_underlying Tryz.underlying24, Result.andThen_ok, Sem.run_pure, zeroValue_op, hzc, hst, List.getElem?_toArray, List.getElem?_cons_zero]
  rfl
/-- A row of the call's own, laid open. -/
theorem Mine.row {w w1 : World} {v : Value} {l : List Opn} (h : Mine opE 5 61 w w1 v l) (hl : l ≠ []) : ∃ g c cur T, v = .slice (some ⟨g, 0, none⟩) l.length c ∧ w.heap.size ≤ g ∧ Blk w1 g 61 cur ∧ l.length ≤ c ∧ c ≤ maxLen ∧ cur.size = c * 5 ∧ cur.toList = encs opE l ++ T ∧ ElsAt opE 5 w1 g 0 l := by
  have hpos := List.length_pos_iff.2 hl
  rcases id h.own.2 with ⟨_, h0⟩ | ⟨g, cap, cur, rfl, _, hg, hn, hm, hs, ht⟩
  · omega
  · refine ⟨g, cap, cur, cur.toList.drop (l.length * 5), rfl, h.new g rfl, hg, hn, hm, hs, ?_, fun i hi j u hu => ?_⟩
    · rw [← ht, List.take_append_drop]
    · have q := h.own.cells rfl _ _ (encs_at opE_length l i hi j u hu)
      rw [addr_add, Nat.zero_add] at q
      rw [Nat.zero_add]
      exact q
/-- .. and put together again. -/
theorem Mine.of_row {w w1 : World} {l : List Opn} {g c : Nat} {cur : Array Value} {T : List Value} (hg : w.heap.size ≤ g) (hb : Blk w1 g 61 cur) (hc : l.length ≤ c) (hm : c ≤ maxLen) (hs : cur.size = c * 5) (ht : cur.toList = encs opE l ++ T) (hk : Only [] w w1) :
    Mine opE 5 61 w w1 (.slice (some ⟨g, 0, none⟩) l.length c) l :=
  ⟨⟨encs_length opE_length l, .inr ⟨g, c, cur, rfl, Nat.zero_le _, hb, hc, hm, hs, by rw [ht, ← encs_length opE_length l, List.take_left]⟩⟩, fun j hj => by simp [Value.ownBlock] at hj; omega, hk⟩
theorem Only.own {w w1 w2 : World} {g : Nat} (h : Only [] w w1) (k : Only [g] w1 w2) (hg : w.heap.size ≤ g) : Only [] w w2 := h.then k (by intro i hi; simp at hi; subst hi; exact .inr hg)

end Go.Proofs.YtalkhhjfplahkaaGreat
