/- How many of a list are such as is asked for: count, with each of its closures; Uses, Has, full, denied. -/
import Derived.Test.YthclpefomhakdaaVal11
namespace Go.Proofs.Ythclpefomhakdaa
open Go.RowKit

theorem countP_take {l : List Opn} {p : Opn → Bool} {n : Nat} {x : Opn} (h : l[n]? = some x) : (l.take (n + 1)).countP p = (l.take n).countP p + (if p x = true then 1 else 0) := by
  rw [get_snoc h, List.countP_append]
  by_cases e : p x = true <;> simp [e]

theorem uses_w (w : World) (x : Opn) (f : Int) (q : Nat) (h : w.cell? ⟨q, 0, none⟩ = some (.int .u32 f)) : Calls Try.prog 34 #[opV x, .pointer (some ⟨q, 0, none⟩)] w fun e w' => e = .returned (.bool (decide (x.file = f))) ∧ Only [] w w' := by
  obtain ⟨x0, x1, x2, x3, x4⟩ := x
  have k : Only [] w (w.alloc (.cells #[.int .u32 x0, .int .u32 x1, .int .u32 x2, .int .u32 x3, .int .u32 (x4 : Int)] 27)) := (Only.refl [] w).alloc _
  have h' := k.cell h (by simp)
  unfold opV
  simp only
  go_enter Try.func34, Try.ntmps34
  go_wp2
  go_ret
  exact ⟨rfl, k⟩

set_option maxRecDepth 100000 in
set_option maxHeartbeats 2000000 in
theorem count_uses (w : World) (A : Option Addr) (c : Nat) (l : List Opn) (f : Int) (q : Nat) (hb : Els opE 5 w A l) (hl : l.length ≤ 9223372036854775807) (hq : w.cell? ⟨q, 0, none⟩ = some (.int .u32 f)) :
    Calls Try.prog 33 #[.slice A l.length c, .func (.func 34) #[] #[.pointer (some ⟨q, 0, none⟩)]] w fun e w' => e = .returned (.int .i64 (l.countP (fun x => decide (x.file = f)) : Nat)) ∧ Only [] w w' := by
  have hlI : (l.length : Int) ≤ 9223372036854775807 := by omega
  have hC := fun W (k : Only [] w W) (x : Opn) (hx : x ∈ l) => uses_w W x f q (k.cell hq (by simp))
  replace hC := Lib.hid hC
  obtain ⟨p, hp⟩ : ∃ p : Opn → Bool, p = (fun x => decide (x.file = f)) := ⟨_, rfl⟩
  have hC2 : Hid (∀ W, Only [] w W → ∀ x ∈ l, Calls Try.prog 34 #[opV x, .pointer (some ⟨q, 0, none⟩)] W fun e w' => e = .returned (.bool (p x)) ∧ Only [] W w') := by rw [hp]; exact hC.out
  rw [← hp]
  clear hC hp hq
  go_enter Try.func33, Try.ntmps33
  go_wp2_with fail
  go_loopw [10, 5] (fun i s wr => ∃ n m : Nat, n ≤ l.length ∧ i = .int .i64 n ∧ s = .int .i64 m ∧ m ≤ n ∧ Hid (m = (l.take n).countP p) ∧ Only [] w wr) (fun i _ _ => l.length - (intOf i).toNat)
  case atStart => exact ⟨0, 0, Nat.zero_le _, rfl, rfl, Nat.le_refl _, rfl, Only.refl _ _⟩
  case round =>
    obtain ⟨n, m, hn, rfl, rfl, hmn, hm, hk⟩ := hrel
    by_cases hlt : n < l.length
    · obtain ⟨g, o, rfl, hg, hat⟩ := hb.get hlt
      obtain ⟨c0, c1, c2, c3, c4⟩ := ops_at (hat.kept hk (by simp)) hlt
      have hx : l[n]? = some l[n] := List.getElem?_eq_getElem hlt
      have hst := countP_take (p := p) hx
      have hcl := fun W k => hC2.out W k l[n] (List.getElem_mem hlt)
      generalize l[n] = x at *
      obtain ⟨x0, x1, x2, x3, x4⟩ := x
      generalize p ⟨x0, x1, x2, x3, x4⟩ = b at *
      unfold opV at hcl
      simp only at c0 c1 c2 c3 c4 hcl
      replace hcl := Lib.hid hcl
      have hka := hk.alloc (.cells #[.int .u32 x0, .int .u32 x1, .int .u32 x2, .int .u32 x3, .int .u32 (x4 : Int)] 27)
      clear hat
      cases b with
      | true =>
        rw [if_pos rfl] at hst
        have hm' : Hid (m + 1 = (l.take (n + 1)).countP p) := by rw [hst, ← hm.out]; exact rfl
        replace hst := Lib.hid hst
        replace hx := Lib.hid hx
        go_wp2_with fail
        refine (hcl.out _ hka).mono ?_; rintro e w3 ⟨rfl, k3⟩
        go_wp2_with fail
        go_roundw
        case rel => exact ⟨n + 1, m + 1, by omega, by go_num, by go_num, by omega, hm', hka.trans k3⟩
        case measure => simp [intOf]; omega
      | false =>
        rw [if_neg (by simp)] at hst
        have hm' : Hid (m = (l.take (n + 1)).countP p) := by rw [hst, ← hm.out]; rfl
        replace hst := Lib.hid hst
        replace hx := Lib.hid hx
        go_wp2_with fail
        refine (hcl.out _ hka).mono ?_; rintro e w3 ⟨rfl, k3⟩
        go_wp2_with fail
        go_roundw
        case rel => exact ⟨n + 1, m, by omega, by go_num, rfl, by omega, hm', hka.trans k3⟩
        case measure => simp [intOf]; omega
    · have hm' : m = l.countP p := by have := hm.out; rwa [List.take_of_length_le (by omega)] at this
      subst hm'
      go_wp2
      go_ret
      exact ⟨rfl, hk⟩

theorem full_w (w : World) (x : Opn) (f : Int) (q : Nat) (h : w.cell? ⟨q, 0, none⟩ = some (.int .u32 f)) : Calls Try.prog 42 #[opV x, .pointer (some ⟨q, 0, none⟩)] w fun e w' => e = .returned (.bool (decide (x.client = f))) ∧ Only [] w w' := by
  obtain ⟨x0, x1, x2, x3, x4⟩ := x
  have k : Only [] w (w.alloc (.cells #[.int .u32 x0, .int .u32 x1, .int .u32 x2, .int .u32 x3, .int .u32 (x4 : Int)] 27)) := (Only.refl [] w).alloc _
  have h' := k.cell h (by simp)
  unfold opV
  simp only
  go_enter Try.func42, Try.ntmps42
  go_wp2
  go_ret
  exact ⟨rfl, k⟩

set_option maxRecDepth 100000 in
set_option maxHeartbeats 2000000 in
theorem count_full (w : World) (A : Option Addr) (c : Nat) (l : List Opn) (f : Int) (q : Nat) (hb : Els opE 5 w A l) (hl : l.length ≤ 9223372036854775807) (hq : w.cell? ⟨q, 0, none⟩ = some (.int .u32 f)) :
    Calls Try.prog 33 #[.slice A l.length c, .func (.func 42) #[] #[.pointer (some ⟨q, 0, none⟩)]] w fun e w' => e = .returned (.int .i64 (l.countP (fun x => decide (x.client = f)) : Nat)) ∧ Only [] w w' := by
  have hlI : (l.length : Int) ≤ 9223372036854775807 := by omega
  have hC := fun W (k : Only [] w W) (x : Opn) (hx : x ∈ l) => full_w W x f q (k.cell hq (by simp))
  replace hC := Lib.hid hC
  obtain ⟨p, hp⟩ : ∃ p : Opn → Bool, p = (fun x => decide (x.client = f)) := ⟨_, rfl⟩
  have hC2 : Hid (∀ W, Only [] w W → ∀ x ∈ l, Calls Try.prog 42 #[opV x, .pointer (some ⟨q, 0, none⟩)] W fun e w' => e = .returned (.bool (p x)) ∧ Only [] W w') := by rw [hp]; exact hC.out
  rw [← hp]
  clear hC hp hq
  go_enter Try.func33, Try.ntmps33
  go_wp2_with fail
  go_loopw [10, 5] (fun i s wr => ∃ n m : Nat, n ≤ l.length ∧ i = .int .i64 n ∧ s = .int .i64 m ∧ m ≤ n ∧ Hid (m = (l.take n).countP p) ∧ Only [] w wr) (fun i _ _ => l.length - (intOf i).toNat)
  case atStart => exact ⟨0, 0, Nat.zero_le _, rfl, rfl, Nat.le_refl _, rfl, Only.refl _ _⟩
  case round =>
    obtain ⟨n, m, hn, rfl, rfl, hmn, hm, hk⟩ := hrel
    by_cases hlt : n < l.length
    · obtain ⟨g, o, rfl, hg, hat⟩ := hb.get hlt
      obtain ⟨c0, c1, c2, c3, c4⟩ := ops_at (hat.kept hk (by simp)) hlt
      have hx : l[n]? = some l[n] := List.getElem?_eq_getElem hlt
      have hst := countP_take (p := p) hx
      have hcl := fun W k => hC2.out W k l[n] (List.getElem_mem hlt)
      generalize l[n] = x at *
      obtain ⟨x0, x1, x2, x3, x4⟩ := x
      generalize p ⟨x0, x1, x2, x3, x4⟩ = b at *
      unfold opV at hcl
      simp only at c0 c1 c2 c3 c4 hcl
      replace hcl := Lib.hid hcl
      have hka := hk.alloc (.cells #[.int .u32 x0, .int .u32 x1, .int .u32 x2, .int .u32 x3, .int .u32 (x4 : Int)] 27)
      clear hat
      cases b with
      | true =>
        rw [if_pos rfl] at hst
        have hm' : Hid (m + 1 = (l.take (n + 1)).countP p) := by rw [hst, ← hm.out]; exact rfl
        replace hst := Lib.hid hst
        replace hx := Lib.hid hx
        go_wp2_with fail
        refine (hcl.out _ hka).mono ?_; rintro e w3 ⟨rfl, k3⟩
        go_wp2_with fail
        go_roundw
        case rel => exact ⟨n + 1, m + 1, by omega, by go_num, by go_num, by omega, hm', hka.trans k3⟩
        case measure => simp [intOf]; omega
      | false =>
        rw [if_neg (by simp)] at hst
        have hm' : Hid (m = (l.take (n + 1)).countP p) := by rw [hst, ← hm.out]; rfl
        replace hst := Lib.hid hst
        replace hx := Lib.hid hx
        go_wp2_with fail
        refine (hcl.out _ hka).mono ?_; rintro e w3 ⟨rfl, k3⟩
        go_wp2_with fail
        go_roundw
        case rel => exact ⟨n + 1, m, by omega, by go_num, rfl, by omega, hm', hka.trans k3⟩
        case measure => simp [intOf]; omega
    · have hm' : m = l.countP p := by have := hm.out; rwa [List.take_of_length_le (by omega)] at this
      subst hm'
      go_wp2
      go_ret
      exact ⟨rfl, hk⟩

theorem clr_w (w : World) (x : Opn) (f : Int) (q : Nat) (h : w.cell? ⟨q, 0, none⟩ = some (.int .u32 f)) : Calls Try.prog 41 #[opV x, .pointer (some ⟨q, 0, none⟩)] w fun e w' => e = .returned (.bool (decide (x.client = f))) ∧ Only [] w w' := by
  obtain ⟨x0, x1, x2, x3, x4⟩ := x
  have k : Only [] w (w.alloc (.cells #[.int .u32 x0, .int .u32 x1, .int .u32 x2, .int .u32 x3, .int .u32 (x4 : Int)] 27)) := (Only.refl [] w).alloc _
  have h' := k.cell h (by simp)
  unfold opV
  simp only
  go_enter Try.func41, Try.ntmps41
  go_wp2
  go_ret
  exact ⟨rfl, k⟩

theorem has_w (w : World) (x : Opn) (a f : Int) (q p : Nat) (h : w.cell? ⟨q, 0, none⟩ = some (.int .u32 a)) (h2 : w.cell? ⟨p, 0, none⟩ = some (.int .u32 f)) : Calls Try.prog 35 #[opV x, .pointer (some ⟨q, 0, none⟩), .pointer (some ⟨p, 0, none⟩)] w fun e w' => e = .returned (.bool (decide (x.client = a ∧ x.file = f))) ∧ Only [] w w' := by
  obtain ⟨x0, x1, x2, x3, x4⟩ := x
  have k : Only [] w (w.alloc (.cells #[.int .u32 x0, .int .u32 x1, .int .u32 x2, .int .u32 x3, .int .u32 (x4 : Int)] 27)) := (Only.refl [] w).alloc _
  have h' := k.cell h (by simp)
  have h2' := k.cell h2 (by simp)
  unfold opV
  simp only
  by_cases e1 : x0 = a
  · have d1 : (x0 == a) = true := by simpa using e1
    have hr : decide (x0 = a ∧ x2 = f) = decide (x2 = f) := by simp [e1]
    rw [hr]
    clear e1 hr
    go_enter Try.func35, Try.ntmps35
    go_wp2
    go_ret
    exact ⟨rfl, k⟩
  · have d1 : (x0 == a) = false := by simpa using e1
    have hr : decide (x0 = a ∧ x2 = f) = false := by simp [e1]
    rw [hr]
    clear e1 hr
    go_enter Try.func35, Try.ntmps35
    go_wp2
    go_ret
    exact ⟨rfl, k⟩

set_option maxRecDepth 100000 in
set_option maxHeartbeats 2000000 in
theorem count_has (w : World) (A : Option Addr) (c : Nat) (l : List Opn) (a f : Int) (q p' : Nat) (hb : Els opE 5 w A l) (hl : l.length ≤ 9223372036854775807) (hq : w.cell? ⟨q, 0, none⟩ = some (.int .u32 a)) (hp' : w.cell? ⟨p', 0, none⟩ = some (.int .u32 f)) :
    Calls Try.prog 33 #[.slice A l.length c, .func (.func 35) #[] #[.pointer (some ⟨q, 0, none⟩), .pointer (some ⟨p', 0, none⟩)]] w fun e w' => e = .returned (.int .i64 (l.countP (fun x => decide (x.client = a ∧ x.file = f)) : Nat)) ∧ Only [] w w' := by
  have hlI : (l.length : Int) ≤ 9223372036854775807 := by omega
  have hC := fun W (k : Only [] w W) (x : Opn) (hx : x ∈ l) => has_w W x a f q p' (k.cell hq (by simp)) (k.cell hp' (by simp))
  replace hC := Lib.hid hC
  obtain ⟨p, hp⟩ : ∃ p : Opn → Bool, p = (fun x => decide (x.client = a ∧ x.file = f)) := ⟨_, rfl⟩
  have hC2 : Hid (∀ W, Only [] w W → ∀ x ∈ l, Calls Try.prog 35 #[opV x, .pointer (some ⟨q, 0, none⟩), .pointer (some ⟨p', 0, none⟩)] W fun e w' => e = .returned (.bool (p x)) ∧ Only [] W w') := by rw [hp]; exact hC.out
  rw [← hp]
  clear hC hp hq hp'
  go_enter Try.func33, Try.ntmps33
  go_wp2_with fail
  go_loopw [10, 5] (fun i s wr => ∃ n m : Nat, n ≤ l.length ∧ i = .int .i64 n ∧ s = .int .i64 m ∧ m ≤ n ∧ Hid (m = (l.take n).countP p) ∧ Only [] w wr) (fun i _ _ => l.length - (intOf i).toNat)
  case atStart => exact ⟨0, 0, Nat.zero_le _, rfl, rfl, Nat.le_refl _, rfl, Only.refl _ _⟩
  case round =>
    obtain ⟨n, m, hn, rfl, rfl, hmn, hm, hk⟩ := hrel
    by_cases hlt : n < l.length
    · obtain ⟨g, o, rfl, hg, hat⟩ := hb.get hlt
      obtain ⟨c0, c1, c2, c3, c4⟩ := ops_at (hat.kept hk (by simp)) hlt
      have hx : l[n]? = some l[n] := List.getElem?_eq_getElem hlt
      have hst := countP_take (p := p) hx
      have hcl := fun W k => hC2.out W k l[n] (List.getElem_mem hlt)
      generalize l[n] = x at *
      obtain ⟨x0, x1, x2, x3, x4⟩ := x
      generalize p ⟨x0, x1, x2, x3, x4⟩ = b at *
      unfold opV at hcl
      simp only at c0 c1 c2 c3 c4 hcl
      replace hcl := Lib.hid hcl
      have hka := hk.alloc (.cells #[.int .u32 x0, .int .u32 x1, .int .u32 x2, .int .u32 x3, .int .u32 (x4 : Int)] 27)
      clear hat
      cases b with
      | true =>
        rw [if_pos rfl] at hst
        have hm' : Hid (m + 1 = (l.take (n + 1)).countP p) := by rw [hst, ← hm.out]; exact rfl
        replace hst := Lib.hid hst
        replace hx := Lib.hid hx
        go_wp2_with fail
        refine (hcl.out _ hka).mono ?_; rintro e w3 ⟨rfl, k3⟩
        go_wp2_with fail
        go_roundw
        case rel => exact ⟨n + 1, m + 1, by omega, by go_num, by go_num, by omega, hm', hka.trans k3⟩
        case measure => simp [intOf]; omega
      | false =>
        rw [if_neg (by simp)] at hst
        have hm' : Hid (m = (l.take (n + 1)).countP p) := by rw [hst, ← hm.out]; rfl
        replace hst := Lib.hid hst
        replace hx := Lib.hid hx
        go_wp2_with fail
        refine (hcl.out _ hka).mono ?_; rintro e w3 ⟨rfl, k3⟩
        go_wp2_with fail
        go_roundw
        case rel => exact ⟨n + 1, m, by omega, by go_num, rfl, by omega, hm', hka.trans k3⟩
        case measure => simp [intOf]; omega
    · have hm' : m = l.countP p := by have := hm.out; rwa [List.take_of_length_le (by omega)] at this
      subst hm'
      go_wp2
      go_ret
      exact ⟨rfl, hk⟩

theorem den_w (w : World) (x o : Opn) (hx : validO x) (ho : validO o) (q : Nat) (h : Bx w q o) : Calls Try.prog 43 #[opV x, .pointer (some ⟨q, 0, none⟩)] w fun e w' => e = .returned (.bool (decide (clashO o x))) ∧ Only [] w w' := by
  have hC := fun W => conflict_any W o x ho hx
  obtain ⟨r, hr⟩ : ∃ r, r = decide (clashO o x) := ⟨_, rfl⟩
  rw [← hr] at hC ⊢
  obtain ⟨x0, x1, x2, x3, x4⟩ := x
  obtain ⟨y0, y1, y2, y3, y4⟩ := o
  have k : Only [] w (w.alloc (.cells #[.int .u32 x0, .int .u32 x1, .int .u32 x2, .int .u32 x3, .int .u32 (x4 : Int)] 27)) := (Only.refl [] w).alloc _
  obtain ⟨c0, c1, c2, c3, c4⟩ := (Bx.kept h k (by simp)).cells
  unfold opV at hC ⊢
  simp only at c0 c1 c2 c3 c4 hC ⊢
  replace hC := Lib.hid hC
  clear hr hx ho h
  go_enter Try.func43, Try.ntmps43
  go_wp2_with fail
  refine (hC.out _).mono ?_; rintro e w3 ⟨rfl, k3⟩
  go_wp2
  go_ret
  exact ⟨rfl, k.trans k3⟩

set_option maxRecDepth 100000 in
set_option maxHeartbeats 2000000 in
theorem count_den (w : World) (A : Option Addr) (c : Nat) (l : List Opn) (o : Opn) (q : Nat) (hb : Els opE 5 w A l) (hl : l.length ≤ 9223372036854775807) (ho : validO o) (hv : ∀ x ∈ l, validO x) (hq : Bx w q o) :
    Calls Try.prog 33 #[.slice A l.length c, .func (.func 43) #[] #[.pointer (some ⟨q, 0, none⟩)]] w fun e w' => e = .returned (.int .i64 (l.countP (fun x => decide (clashO o x)) : Nat)) ∧ Only [] w w' := by
  have hlI : (l.length : Int) ≤ 9223372036854775807 := by omega
  have hC := fun W (k : Only [] w W) (x : Opn) (hx : x ∈ l) => den_w W x o (hv x hx) ho q (Bx.kept hq k (by simp))
  replace hC := Lib.hid hC
  obtain ⟨p, hp⟩ : ∃ p : Opn → Bool, p = (fun x => decide (clashO o x)) := ⟨_, rfl⟩
  have hC2 : Hid (∀ W, Only [] w W → ∀ x ∈ l, Calls Try.prog 43 #[opV x, .pointer (some ⟨q, 0, none⟩)] W fun e w' => e = .returned (.bool (p x)) ∧ Only [] W w') := by rw [hp]; exact hC.out
  rw [← hp]
  clear hC hp ho hv hq
  go_enter Try.func33, Try.ntmps33
  go_wp2_with fail
  go_loopw [10, 5] (fun i s wr => ∃ n m : Nat, n ≤ l.length ∧ i = .int .i64 n ∧ s = .int .i64 m ∧ m ≤ n ∧ Hid (m = (l.take n).countP p) ∧ Only [] w wr) (fun i _ _ => l.length - (intOf i).toNat)
  case atStart => exact ⟨0, 0, Nat.zero_le _, rfl, rfl, Nat.le_refl _, rfl, Only.refl _ _⟩
  case round =>
    obtain ⟨n, m, hn, rfl, rfl, hmn, hm, hk⟩ := hrel
    by_cases hlt : n < l.length
    · obtain ⟨g, o, rfl, hg, hat⟩ := hb.get hlt
      obtain ⟨c0, c1, c2, c3, c4⟩ := ops_at (hat.kept hk (by simp)) hlt
      have hx : l[n]? = some l[n] := List.getElem?_eq_getElem hlt
      have hst := countP_take (p := p) hx
      have hcl := fun W k => hC2.out W k l[n] (List.getElem_mem hlt)
      generalize l[n] = x at *
      obtain ⟨x0, x1, x2, x3, x4⟩ := x
      generalize p ⟨x0, x1, x2, x3, x4⟩ = b at *
      unfold opV at hcl
      simp only at c0 c1 c2 c3 c4 hcl
      replace hcl := Lib.hid hcl
      have hka := hk.alloc (.cells #[.int .u32 x0, .int .u32 x1, .int .u32 x2, .int .u32 x3, .int .u32 (x4 : Int)] 27)
      clear hat
      cases b with
      | true =>
        rw [if_pos rfl] at hst
        have hm' : Hid (m + 1 = (l.take (n + 1)).countP p) := by rw [hst, ← hm.out]; exact rfl
        replace hst := Lib.hid hst
        replace hx := Lib.hid hx
        go_wp2_with fail
        refine (hcl.out _ hka).mono ?_; rintro e w3 ⟨rfl, k3⟩
        go_wp2_with fail
        go_roundw
        case rel => exact ⟨n + 1, m + 1, by omega, by go_num, by go_num, by omega, hm', hka.trans k3⟩
        case measure => simp [intOf]; omega
      | false =>
        rw [if_neg (by simp)] at hst
        have hm' : Hid (m = (l.take (n + 1)).countP p) := by rw [hst, ← hm.out]; rfl
        replace hst := Lib.hid hst
        replace hx := Lib.hid hx
        go_wp2_with fail
        refine (hcl.out _ hka).mono ?_; rintro e w3 ⟨rfl, k3⟩
        go_wp2_with fail
        go_roundw
        case rel => exact ⟨n + 1, m, by omega, by go_num, rfl, by omega, hm', hka.trans k3⟩
        case measure => simp [intOf]; omega
    · have hm' : m = l.countP p := by have := hm.out; rwa [List.take_of_length_le (by omega)] at this
      subst hm'
      go_wp2
      go_ret
      exact ⟨rfl, hk⟩

theorem cell_new (w : World) (t : TypeId) (v : Value) : (w.alloc (.cells #[v] t)).cell? ⟨w.heap.size, 0, none⟩ = some v := (Blk.new w t #[v]).cell 0
theorem uses_any (w : World) (A : Option Addr) (c : Nat) (l : List Opn) (f : Int) (hb : Els opE 5 w A l) (hl : l.length ≤ 9223372036854775807) :
    Calls Try.prog 15 #[.slice A l.length c, .int .u32 f] w fun e w' => e = .returned (.int .i64 (l.countP (fun x => decide (x.file = f)) : Nat)) ∧ Only [] w w' := by
  have k0 : Only [] w (w.alloc (.cells #[.int .u32 f] 23)) := (Only.refl [] w).alloc _
  have hs := count_uses _ A c l f w.heap.size (hb.kept k0 (by simp)) hl (cell_new w 23 (.int .u32 f))
  replace hs := Lib.hid hs
  go_enter Try.func15, Try.ntmps15
  go_wp2_with fail
  refine hs.out.mono ?_; rintro e w3 ⟨rfl, k3⟩
  go_wp2
  go_ret
  exact ⟨rfl, k0.trans k3⟩
theorem has_any (w : World) (A : Option Addr) (c : Nat) (l : List Opn) (a f : Int) (hb : Els opE 5 w A l) (hl : l.length ≤ 9223372036854775807) :
    Calls Try.prog 17 #[.slice A l.length c, .int .u32 a, .int .u32 f] w fun e w' => e = .returned (.bool (decide (0 < l.countP (fun x => decide (x.client = a ∧ x.file = f))))) ∧ Only [] w w' := by
  have k0 : Only [] w (w.alloc (.cells #[.int .u32 a] 23)) := (Only.refl [] w).alloc _
  have k1 : Only [] w ((w.alloc (.cells #[.int .u32 a] 23)).alloc (.cells #[.int .u32 f] 23)) := k0.alloc _
  have c0 := ((Only.refl [] (w.alloc (.cells #[.int .u32 a] 23))).alloc (.cells #[.int .u32 f] 23)).cell (cell_new w 23 (.int .u32 a)) (by simp)
  have c1 := cell_new (w.alloc (.cells #[.int .u32 a] 23)) 23 (.int .u32 f)
  have hz : (w.alloc (.cells #[.int .u32 a] 23)).heap.size = w.heap.size + 1 := by simp
  rw [hz] at c1
  have hs := count_has _ A c l a f w.heap.size (w.heap.size + 1) (hb.kept k1 (by simp)) hl c0 c1
  generalize l.countP (fun x => decide (x.client = a ∧ x.file = f)) = n at *
  replace hs := Lib.hid hs
  clear hz c0 c1
  go_enter Try.func17, Try.ntmps17
  go_wp2_with fail
  refine hs.out.mono ?_; rintro e w3 ⟨rfl, k3⟩
  go_wp2
  go_ret
  exact ⟨rfl, k1.trans k3⟩
theorem full_any (w : World) (A : Option Addr) (c : Nat) (l : List Opn) (a : Int) (hb : Els opE 5 w A l) (hl : l.length ≤ 9223372036854775807) :
    Calls Try.prog 26 #[.slice A l.length c, .int .u32 a] w fun e w' => e = .returned (.bool (decide (12 ≤ l.length ∨ 4 ≤ mineN l a))) ∧ Only [] w w' := by
  have k0 : Only [] w (w.alloc (.cells #[.int .u32 a] 23)) := (Only.refl [] w).alloc _
  have hs := count_full _ A c l a w.heap.size (hb.kept k0 (by simp)) hl (cell_new w 23 (.int .u32 a))
  have e0 : l.countP (fun x => decide (x.client = a)) = mineN l a := rfl
  rw [e0] at hs
  clear e0
  generalize mineN l a = m at *
  obtain ⟨n, hn⟩ : ∃ n, n = l.length := ⟨_, rfl⟩
  rw [← hn] at hs ⊢
  obtain ⟨r, hr⟩ : ∃ r, r = decide (12 ≤ n ∨ 4 ≤ m) := ⟨_, rfl⟩
  rw [← hr]
  replace hs := Lib.hid hs
  replace hn := Lib.hid hn
  by_cases p1 : (12 : Int) ≤ (n : Int)
  · have d1 : decide ((12 : Int) ≤ (n : Int)) = true := decide_eq_true p1
    obtain rfl : r = true := by rw [hr]; exact decide_eq_true (.inl (by omega))
    clear hr
    go_enter Try.func26, Try.ntmps26
    go_wp2_with fail
    refine hs.out.mono ?_; rintro e w3 ⟨rfl, k3⟩
    go_wp2
    go_ret
    exact ⟨rfl, k0.trans k3⟩
  · have d1 : decide ((12 : Int) ≤ (n : Int)) = false := decide_eq_false p1
    obtain rfl : r = decide ((4 : Int) ≤ (m : Int)) := by rw [hr]; exact decide_eq_decide.2 (by omega)
    clear hr
    go_enter Try.func26, Try.ntmps26
    go_wp2_with fail
    refine hs.out.mono ?_; rintro e w3 ⟨rfl, k3⟩
    go_wp2
    go_ret
    exact ⟨rfl, k0.trans k3⟩
theorem denied_any (w : World) (A : Option Addr) (c : Nat) (l : List Opn) (o : Opn) (ho : validO o) (hv : ∀ x ∈ l, validO x) (hb : Els opE 5 w A l) (hl : l.length ≤ 9223372036854775807) :
    Calls Try.prog 27 #[.slice A l.length c, opV o] w fun e w' => e = .returned (.bool (decide (∃ y ∈ l, clashO o y))) ∧ Only [] w w' := by
  have hz2 : decide (0 < l.countP (fun x => decide (clashO o x))) = decide (∃ y ∈ l, clashO o y) := decide_eq_decide.2 (by
    have h := List.countP_pos_iff (p := fun x => decide (clashO o x)) (l := l)
    simp only [decide_eq_true_eq] at h
    rw [← h])
  rw [← hz2]
  clear hz2
  have bq := Bx.new w o
  have k0 := (Only.refl [] w).alloc (.cells #[.int .u32 o.client, .int .u32 o.handle, .int .u32 o.file, .int .u32 o.access, .int .u32 (o.deny : Int)] 27)
  have hs := count_den _ A c l o w.heap.size (hb.kept k0 (by simp)) hl ho hv bq
  generalize l.countP (fun x => decide (clashO o x)) = n at *
  clear bq ho hv
  obtain ⟨y0, y1, y2, y3, y4⟩ := o
  unfold opV
  simp only at hs k0 ⊢
  replace hs := Lib.hid hs
  go_enter Try.func27, Try.ntmps27
  go_wp2_with fail
  refine hs.out.mono ?_; rintro e w3 ⟨rfl, k3⟩
  go_wp2
  go_ret
  exact ⟨rfl, k0.trans k3⟩
end Go.Proofs.Ythclpefomhakdaa
