/- slices.Insert (of one) at a row of the call's own. -/
import Derived.Test.YtnmmdnecojgccaaDel12
namespace Go.Proofs.Ytnmmdnecojgccaa
open Go.RowKit

theorem tailA_at (g c m : Nat) (h : ¬ c = m) : tailA (some ⟨g, 0, none⟩) c m 2 = some ⟨g, m * 2, none⟩ := by
  unfold tailA
  rw [if_neg h]
  simp [addr_add]
theorem tailA_zero (g c : Nat) : tailA (some ⟨g, 0, none⟩) c 0 2 = some ⟨g, 0, none⟩ := by
  unfold tailA
  split
  · rfl
  · simp [addr_add]
theorem blk_src {w : World} {g : Nat} {x : Hol} (hb : Blk w g 47 (holA x)) : ∀ j v, (holE x)[j]? = some v → w.cell? ((⟨g, 0, none⟩ : Addr).add j) = some v := fun j v hj => by
  rw [addr_add, hb.cell, Nat.zero_add, ← Array.getElem?_toList]
  exact hj
theorem row_src {w : World} {g o : Nat} {cur : Array Value} {E1 E T : List Value} (hb : Blk w g 47 cur) (he : cur.toList = E1 ++ (E ++ T)) (ho : o = E1.length) : ∀ j v, E[j]? = some v → w.cell? ((⟨g, o, none⟩ : Addr).add j) = some v := fun j v hj => by
  rw [addr_add, hb.cell, ← Array.getElem?_toList, he, ho, List.getElem?_append_right (by omega), Nat.add_sub_cancel_left, List.getElem?_append_left (List.getElem?_eq_some_iff.1 hj).1]
  exact hj
theorem zeros_size (n : Nat) : (Builtin.zeroCells (Value.agg #[.int .u32 0, .int .u32 0]).cells n).size = n * 2 := by
  rw [size_zeroCells]
  rfl
theorem wrap_one (n : Nat) (h : n ≤ 1048576) : IntKind.i64.wrap ((n : Int) + 1) = (n : Int) + 1 := by simp only [IntKind.wrap, IntKind.bits, IntKind.signed]; simp; omega

set_option maxRecDepth 100000 in
set_option maxHeartbeats 4000000 in
theorem insert_any (S : List Nat) (w W : World) (v : Value) (l : List Hol) (i : Nat) (x : Hol) (q : Nat) (hm : Hs S w W v l) (hi : i ≤ l.length) (hl : l.length ≤ 1000) (hq : Blk W q 47 (holA x)) (hne : ∀ g, v.ownBlock = some g → g ≠ q) :
    Calls Try.prog 35 #[v, .int .i64 i, .slice (some ⟨q, 0, none⟩) 1 1] W fun e w' => HsAns S w w' e (l.take i ++ x :: l.drop i) := by
  by_cases hend : i = l.length
  · subst hend
    rw [List.take_length, List.drop_length]
    obtain ⟨A, c, rfl, _, hc, _, _⟩ := hm.shape
    have hrT := run_tail (P := Try.prog) 23 47 Try.underlying23 size_hol' A l.length c l.length (l.length : Int) rfl (Nat.le_refl _)
    generalize tailA A c l.length 2 = TA at *
    go_enter Try.func35, Try.ntmps35
    go_wp2_with (at_builtin; go_must (refine wpList_push rfl _ _ 23 rfl 47 _ 8 holE_length (by decide) holE_one Try.underlying23 info_hol rfl _ l.length l rfl hm.own q x _ rfl hq (by unfold maxLen; omega) (by omega) ?_); intro vv w6 h6 g6 a6)
    have hm6 := hm.pushed h6 g6 a6
    go_ret
    exact ⟨_, rfl, hm6⟩
  obtain ⟨g, c, cur, T, rfl, hg, hb, hc, hcm, hs, ht, hat⟩ := hm.row (fun h => by rw [h] at hi hend; simp at hi hend; omega)
  have hgq : g ≠ q := hne g rfl
  have honly := hm.only
  have hilt : i < l.length := by omega
  have e1 : (encs holE (l.take i)).length = i * 2 := by rw [encs_len, List.length_take]; congr 1; omega
  have e2 : (encs holE (l.drop i)).length = (l.length - i) * 2 := by rw [encs_len, List.length_drop]
  have hx : cur.toList = encs holE (l.take i) ++ (encs holE (l.drop i) ++ T) := by
    rw [ht, ← List.append_assoc, ← encs_append, List.take_append_drop]
  have hTl : T.length = (c - l.length) * 2 := by
    have := congrArg List.length ht
    rw [List.length_append, encs_len, Array.length_toList, hs] at this
    have : c * 2 = l.length * 2 + (c - l.length) * 2 := by rw [← Nat.add_mul]; congr 1; omega
    omega
  have hlenA : (l.take i ++ x :: l.drop i).length = l.length + 1 := by simp; omega
  have hencA : encs holE (l.take i ++ x :: l.drop i) = encs holE (l.take i) ++ holE x ++ encs holE (l.drop i) := by
    rw [encs_append]
    simp [encs]
  obtain ⟨n, hn⟩ : ∃ n, n = l.length := ⟨_, rfl⟩
  rw [← hn] at hc hl hilt e2 hTl hlenA
  have hrT := run_tail (P := Try.prog) 23 47 Try.underlying23 size_hol' (some ⟨g, 0, none⟩) n c i (i : Int) rfl (by omega)
  rw [tailA_at g c i (by omega)] at hrT
  have hnei : ((i : Int) == (n : Int)) = false := by rw [beq_eq_false_iff_ne]; omega
  have hnei2 : ¬ (i : Int) = (n : Int) := by omega
  have hw1 := wrap_one i (by omega)
  rw [← hn]
  by_cases hroom : c < n + 1
  · -- no room: a new row
    obtain ⟨ti, hti, hz0, hz1, hz2⟩ := info_parts info_hol
    have hold : (Builtin.firstCells ti.size i (.slice (some ⟨g, 0, none⟩) i c)).run Try.prog W.drew = .ok (encs holE (l.take i)).toArray W.drew := by
      rw [hz1]
      exact run_firstCells_some W.drew 2 i ⟨g, 0, none⟩ i c _ e1 (row_src (E1 := []) (hb.kept (Only.refl [] _).drew (by simp)) (by simpa using hx) rfl)
    have hrz : ∀ ty, (Builtin.append_ #[23, 3] ty #[.slice (some ⟨g, 0, none⟩) i c, .int .i64 ((n : Int) + 1 - (i : Int))]).run Try.prog W =
        .ok (.slice (some ⟨W.heap.size, 0, none⟩) (n + 1) (grownCap W (n + 1) c 47)) (W.drew.alloc (.cells ((encs holE (l.take i)).toArray ++ Builtin.zeroCells (Value.agg #[.int .u32 0, .int .u32 0]).cells (n + 1 - i) ++ Builtin.zeroCells (Value.agg #[.int .u32 0, .int .u32 0]).cells (grownCap W (n + 1) c 47 - (n + 1))) 47)) := fun ty => by
      have hik : i + (n + 1 - i) = n + 1 := by omega
      have h := Lib.run_append_grow_zeros W 23 3 ty 47 ti _ .i64 .i64 Try.underlying23 Try.underlying3 hti hz0 (some ⟨g, 0, none⟩) i c (encs holE (l.take i)) hold (n + 1 - i) (by omega) (by omega) (by omega) (by omega) (by rw [hz2]; omega) (by rw [hz2, hik]; exact growslice_fits (by omega) (by omega))
      rw [hik] at h
      rw [show (n : Int) + 1 - (i : Int) = ((n + 1 - i : Nat) : Int) by omega]
      exact h
    have hGn : n + 1 ≤ grownCap W (n + 1) c 47 := grownCap_ge W _ _ _
    have hGm : grownCap W (n + 1) c 47 ≤ maxLen := grownCap_le_maxLen W (n + 1) c 47 (by unfold maxLen; omega)
    generalize grownCap W (n + 1) c 47 = G at *
    obtain ⟨r, hr⟩ : ∃ r, r = W.heap.size := ⟨_, rfl⟩
    obtain ⟨ROW, hROW⟩ : ∃ ROW : Array Value, ROW = (encs holE (l.take i)).toArray ++ Builtin.zeroCells (Value.agg #[.int .u32 0, .int .u32 0]).cells (n + 1 - i) ++ Builtin.zeroCells (Value.agg #[.int .u32 0, .int .u32 0]).cells (G - (n + 1)) := ⟨_, rfl⟩
    have hRs : ROW.size = G * 2 := by
      rw [hROW, Array.size_append, Array.size_append, zeros_size, zeros_size, List.size_toArray, e1, ← Nat.add_mul, ← Nat.add_mul]
      congr 1
      omega
    have hRl : ∃ Z, ROW.toList = encs holE (l.take i) ++ Z := ⟨_, by rw [hROW, Array.toList_append, Array.toList_append, List.append_assoc]⟩
    obtain ⟨Z, hZ⟩ := hRl
    rw [← hROW] at hrz
    obtain ⟨W1, hW1⟩ : ∃ W1, W1 = W.drew.alloc (.cells ROW 47) := ⟨_, rfl⟩
    have hb1 : Blk W1 r 47 ROW := by rw [hW1, hr]; exact Blk.new W.drew _ _
    have hk1 : Only [] W W1 := by rw [hW1]; exact (Only.refl [] W).drew.alloc _
    rw [← hW1, ← hr] at hrz
    clear hROW hW1 hold hz0 hz1 hz2 hti
    have hrw : r ∈ S ∨ w.heap.size ≤ r := .inr (by rw [hr]; exact honly.size)
    have hrq : q ≠ r := by have := hq.lt; omega
    have hrg : g ≠ r := by have := hb.lt; omega
    obtain ⟨T', hT'⟩ := ins_next (E1 := encs holE (l.take i)) (X := holE x) (E2 := encs holE (l.drop i)) hZ
    rw [e1, holE_length] at hT'
    have hx5 : (holE x).length = 2 := rfl
    have hfA : i * 2 + (holE x).length ≤ ROW.size := by rw [hRs, hx5]; omega
    have hcA := fun ty cc => run_copy_ops W1 ty r (i * 2) (n + 1 - i) cc ⟨q, 0, none⟩ 1 1 ROW (holE x) hb1 (by rw [hx5, show Nat.min 1 (n + 1 - i) = 1 by simp only [Nat.min_def]; split <;> omega]) (blk_src (hq.kept hk1 (by simp))) hfA (holE_one x)
    obtain ⟨W2, hW2⟩ : ∃ W2, W2 = W1.setRow r (ins ROW (i * 2) (holE x)) := ⟨_, rfl⟩
    have hb2 : Blk W2 r 47 (ins ROW (i * 2) (holE x)) := by rw [hW2]; exact hb1.ins _ _
    have hk2 : Only [r] W W2 := by rw [hW2]; exact (hk1.more (by simp)).trans (Only.row _ _ _)
    have hs2 : (ins ROW (i * 2) (holE x)).size = G * 2 := (ins_size hfA).trans hRs
    rw [← hW2] at hcA
    generalize ins ROW (i * 2) (holE x) = cur1 at *
    have hfB : i * 2 + 2 + (encs holE (l.drop i)).length ≤ cur1.size := by rw [hs2, e2]; omega
    have hcB := fun ty dc sc => run_copy_ops W2.drew ty r (i * 2 + 2) (n + 1 - (i + 1)) dc ⟨g, i * 2, none⟩ (n - i) sc cur1 (encs holE (l.drop i)) (hb2.kept (Only.refl [] _).drew (by simp)) (by rw [e2, show Nat.min (n - i) (n + 1 - (i + 1)) = n - i by simp only [Nat.min_def]; split <;> omega]) (row_src (hb.kept hk2.drew (by simpa using hrg)) hx e1.symm) hfB (encs_one holE_one _)
    obtain ⟨W3, hW3⟩ : ∃ W3, W3 = W2.drew.setRow r (ins cur1 (i * 2 + 2) (encs holE (l.drop i))) := ⟨_, rfl⟩
    have hfin : Hs S w W3 (.slice (some ⟨r, 0, none⟩) (n + 1) G) (l.take i ++ x :: l.drop i) := by
      have p := Hs.of_row (w := w) (w1 := W3) (l := l.take i ++ x :: l.drop i) (g := r) (c := G) (T := T') hrw (by rw [hW3]; exact (hb2.kept (Only.refl [] _).drew (by simp)).ins _ _) (by omega) hGm ((ins_size hfB).trans hs2) (by rw [hencA, hT']) (by rw [hW3]; exact (honly.own hk2 hrw).drew.own (Only.row _ _ _) hrw)
      rwa [hlenA] at p
    rw [← hW3] at hcB
    have s1 := run_head (P := Try.prog) 23 47 Try.underlying23 size_hol' (some ⟨g, 0, none⟩) n c i (i : Int) rfl (by omega)
    rw [tailA_zero] at s1
    have s2 := run_tail (P := Try.prog) 23 47 Try.underlying23 size_hol' (some ⟨r, 0, none⟩) (n + 1) G i (i : Int) rfl (by omega)
    rw [tailA_at r G i (by omega)] at s2
    have s3 := run_tail (P := Try.prog) 23 47 Try.underlying23 size_hol' (some ⟨r, 0, none⟩) (n + 1) G (i + 1) ((i : Int) + 1) (by omega) (by omega)
    rw [tailA_at r G (i + 1) (by omega), show (i + 1) * 2 = i * 2 + 2 by omega] at s3
    have hgt : (c : Int) < (n : Int) + 1 := by omega
    have q1 : ¬ G = i := by omega
    have q2 : ¬ G = i + 1 := by omega
    have q3 : (i : Int) ≤ (n : Int) := by omega
    have q4 : (i : Int) + 1 ≤ (n : Int) + 1 := by omega
    have q5 : ¬ n < i := by omega
    have q6 : ¬ n + 1 < i + 1 := by omega
    have q7 : i ≤ n := by omega
    have q8 : (0 : Int) ≤ (i : Int) + 1 := by omega
    have q9 : ¬ c = i := by omega
    have hcB0 := hcB 3 (G - (i + 1)) (c - i)
    have hcA0 := hcA 0 (G - i)
    have hcA1 := hcA 3 (G - i)
    replace hfin := Lib.hid hfin
    replace hrz := Lib.hid hrz
    replace hcA := Lib.hid hcA
    replace hcB := Lib.hid hcB
    replace hcB0 := Lib.hid hcB0
    replace hn := Lib.hid hn
    clear hT' hZ hRs hb1 hk1 hb2 hk2 hs2 hfA hfB hW2 hW3 hx ht hat hb hq hm honly e1 e2 hs hTl hlenA hencA hr hx5
    go_enter Try.func35, Try.ntmps35
    go_wp2_with (first
      | (at_builtin; refine Lib.wpList_append_run _ rfl _ _ _ _ rfl _ _ rfl rfl _ _ (hrz.out _) ?_)
      | (at_builtin; refine wpList_copy_run _ rfl _ _ 23 23 rfl _ _ rfl rfl (hcA.out _ _) ?_))
    refine wp_region_held_drew (S := fun w' => True) (by kernel_rfl) trivial (fun hHeld => ?_)
    refine held_take 0 (.slice (some ⟨r, 0, none⟩) (n + 1) G) rfl (by kernel_rfl) (by kernel_rfl) (by kernel_rfl) (fun _ _ _ h => h) hHeld (Or.inl ⟨by rfl, fun w' hSw => by (try dsimp only at hSw); (try subst hSw); go_simp⟩) ?_
    simp only [Act.put, List.setIfInBounds_toArray, List.set_cons_zero, List.set_cons_succ]
    refine held_take 1 (.int .i64 i) rfl (by kernel_rfl) (by kernel_rfl) (by kernel_rfl) (fun _ _ _ h => h) hHeld (Or.inl ⟨by rfl, fun w' hSw => by (try dsimp only at hSw); (try subst hSw); go_simp⟩) ?_
    simp only [Act.put, List.setIfInBounds_toArray, List.set_cons_zero, List.set_cons_succ]
    refine held_take 2 (.int .i64 1) rfl (by kernel_rfl) (by kernel_rfl) (by kernel_rfl) (fun _ _ _ h => h) hHeld (Or.inl ⟨by rfl, fun w' hSw => by (try dsimp only at hSw); (try subst hSw); go_simp⟩) ?_
    simp only [Act.put, List.setIfInBounds_toArray, List.set_cons_zero, List.set_cons_succ]
    refine held_take 3 (.int .i64 ((i : Int) + 1)) rfl (by kernel_rfl) (by kernel_rfl) (by kernel_rfl) (fun _ _ _ h => h) hHeld (Or.inl ⟨by rfl, fun w' hSw => by (try dsimp only at hSw); (try subst hSw); go_simp⟩) ?_
    simp only [Act.put, List.setIfInBounds_toArray, List.set_cons_zero, List.set_cons_succ]
    refine held_take 4 (.slice (some ⟨r, i * 2 + 2, none⟩) (n + 1 - (i + 1)) (G - (i + 1))) rfl (by kernel_rfl) (by kernel_rfl) (by kernel_rfl) (fun _ _ _ h => h) hHeld (Or.inl ⟨by rfl, fun w' hSw => by go_simp⟩) ?_
    simp only [Act.put, List.setIfInBounds_toArray, List.set_cons_zero, List.set_cons_succ]
    refine held_take 5 (.slice (some ⟨g, 0, none⟩) n c) rfl (by kernel_rfl) (by kernel_rfl) (by kernel_rfl) (fun _ _ _ h => h) hHeld (Or.inl ⟨by rfl, fun w' hSw => by (try dsimp only at hSw); (try subst hSw); go_simp⟩) ?_
    simp only [Act.put, List.setIfInBounds_toArray, List.set_cons_zero, List.set_cons_succ]
    refine held_take 6 (.int .i64 i) rfl (by kernel_rfl) (by kernel_rfl) (by kernel_rfl) (fun _ _ _ h => h) hHeld (Or.inl ⟨by rfl, fun w' hSw => by (try dsimp only at hSw); (try subst hSw); go_simp⟩) ?_
    simp only [Act.put, List.setIfInBounds_toArray, List.set_cons_zero, List.set_cons_succ]
    refine held_take 7 (.slice (some ⟨g, i * 2, none⟩) (n - i) (c - i)) rfl (by kernel_rfl) (by kernel_rfl) (by kernel_rfl) (fun _ _ _ h => h) hHeld (Or.inl ⟨by rfl, fun w' hSw => by go_simp⟩) ?_
    simp only [Act.put, List.setIfInBounds_toArray, List.set_cons_zero, List.set_cons_succ]
    refine held_step 8 rfl (by kernel_rfl) (fun K hK => ?_)
    rw [if_pos (by rfl)]
    refine wp_copy_run _ _ _ 23 23 rfl (.slice (some ⟨r, i * 2 + 2, none⟩) (n + 1 - (i + 1)) (G - (i + 1))) (.slice (some ⟨g, i * 2, none⟩) (n - i) (c - i)) rfl rfl (hcB.out _ _ _) ?_
    refine hK.out _ _ trivial (fun hHeld => ?_)
    clear hK K
    simp only [Act.put]
    refine wpAnyH_done (by kernel_rfl) ?_ _
    clear hHeld
    go_wp2
    go_ret
    exact ⟨_, rfl, hfin.out⟩
  · -- room: in place
    have hx5 : (holE x).length = 2 := rfl
    have hT5 : 2 ≤ T.length := by rw [hTl]; omega
    obtain ⟨T', hT'⟩ := ins_two (X := holE x) hx (by rw [hx5]; exact hT5)
    rw [e1, hx5] at hT'
    have hfA : i * 2 + 2 + (encs holE (l.drop i)).length ≤ cur.size := by rw [hs, e2]; omega
    have hbd : Blk W.drew g 47 cur := hb.kept (Only.refl [] _).drew (by simp)
    have hcA := fun ty dc sc => run_copy_ops W.drew ty g (i * 2 + 2) (n + 1 - (i + 1)) dc ⟨g, i * 2, none⟩ (n + 1 - i) sc cur (encs holE (l.drop i)) hbd (by rw [e2, show Nat.min (n + 1 - i) (n + 1 - (i + 1)) = n - i by simp only [Nat.min_def]; split <;> omega]) (row_src hbd hx e1.symm) hfA (encs_one holE_one _)
    obtain ⟨W1, hW1⟩ : ∃ W1, W1 = W.drew.setRow g (ins cur (i * 2 + 2) (encs holE (l.drop i))) := ⟨_, rfl⟩
    have hb1 : Blk W1 g 47 (ins cur (i * 2 + 2) (encs holE (l.drop i))) := by rw [hW1]; exact hbd.ins _ _
    have hk1 : Only [g] W W1 := by rw [hW1]; exact (Only.refl [g] W).drew.trans (Only.row _ _ _)
    have hs1 : (ins cur (i * 2 + 2) (encs holE (l.drop i))).size = c * 2 := (ins_size hfA).trans hs
    rw [← hW1] at hcA
    generalize ins cur (i * 2 + 2) (encs holE (l.drop i)) = cur1 at *
    have hfB : i * 2 + (holE x).length ≤ cur1.size := by rw [hs1, hx5]; omega
    have hcB := fun ty cc => run_copy_ops W1 ty g (i * 2) (n + 1 - i) cc ⟨q, 0, none⟩ 1 1 cur1 (holE x) hb1 (by rw [hx5, show Nat.min 1 (n + 1 - i) = 1 by simp only [Nat.min_def]; split <;> omega]) (blk_src (hq.kept hk1 (by simp; exact fun h => hgq h.symm))) hfB (holE_one x)
    obtain ⟨W2, hW2⟩ : ∃ W2, W2 = W1.setRow g (ins cur1 (i * 2) (holE x)) := ⟨_, rfl⟩
    have hfin : Hs S w W2 (.slice (some ⟨g, 0, none⟩) (n + 1) c) (l.take i ++ x :: l.drop i) := by
      have p := Hs.of_row (w := w) (w1 := W2) (l := l.take i ++ x :: l.drop i) (g := g) (c := c) (T := T') hg (by rw [hW2]; exact hb1.ins _ _) (by omega) hcm ((ins_size hfB).trans hs1) (by rw [hencA, hT']) (by rw [hW2]; exact (honly.own hk1 hg).own (Only.row _ _ _) hg)
      rwa [hlenA] at p
    rw [← hW2] at hcB
    have hov : ∀ lb cb, (callFunc 38 #[.slice (some ⟨q, 0, none⟩) 1 1, .slice (some ⟨g, i * 2 + 2, none⟩) lb cb]).run Try.prog W = .ok (.value (.bool false)) W := fun lb cb => by
      rw [run_callFunc_extern Try.func38 (by kernel_rfl) (by kernel_rfl) (by kernel_rfl) (e := Extern.SlicesOverlaps.overlaps #[23, 23] #[4]) (by kernel_rfl),
        Lib.run_overlaps_apart W 23 4 47 Try.underlying23 2 size_hol' ⟨q, 0, none⟩ ⟨g, i * 2 + 2, none⟩ 1 1 lb cb (fun h => hgq h.symm) 47 47 2 cur.size (by have := hq; unfold Blk at this; simp [World.shape?, this, holA]) (by have := hb; unfold Blk at this; simp [World.shape?, this]) (by rw [hs]; omega) (hq.free 0) (by have := hq.free 2; exact this)]
      rfl
    have s1 := run_head (P := Try.prog) 23 47 Try.underlying23 size_hol' (some ⟨g, 0, none⟩) n c (n + 1) ((n : Int) + 1) (by omega) (by omega)
    rw [tailA_zero] at s1
    have s2 := run_tail (P := Try.prog) 23 47 Try.underlying23 size_hol' (some ⟨g, 0, none⟩) (n + 1) c i (i : Int) rfl (by omega)
    rw [tailA_at g c i (by omega)] at s2
    have s3 := run_tail (P := Try.prog) 23 47 Try.underlying23 size_hol' (some ⟨g, 0, none⟩) (n + 1) c (i + 1) ((i : Int) + 1) (by omega) (by omega)
    rw [tailA_at g c (i + 1) (by omega), show (i + 1) * 2 = i * 2 + 2 by omega] at s3
    have hgt : ¬ (c : Int) < (n : Int) + 1 := by omega
    have q1 : ¬ c = i := by omega
    have q2 : ¬ c = i + 1 := by omega
    have q3 : (i : Int) ≤ (n : Int) + 1 := by omega
    have q4 : (i : Int) + 1 ≤ (n : Int) + 1 := by omega
    have q5 : ¬ n + 1 < i := by omega
    have q6 : ¬ n + 1 < i + 1 := by omega
    have q7 : i ≤ n + 1 := by omega
    have q8 : (0 : Int) ≤ (i : Int) + 1 := by omega
    have hnn : (n : Int) + 1 = ((n + 1 : Nat) : Int) := by omega
    replace hfin := Lib.hid hfin
    replace hcA := Lib.hid hcA
    replace hcB := Lib.hid hcB
    replace hn := Lib.hid hn
    replace hnn := Lib.hid hnn
    clear hT' hb1 hk1 hs1 hfA hfB hW1 hW2 hx ht hat hb hq hm honly e1 e2 hs hTl hlenA hencA hx5 hT5 hbd
    go_enter Try.func35, Try.ntmps35
    go_wp2_with (simp only [hov])
    refine wp_region_held_drew (S := fun w' => True) (by kernel_rfl) trivial (fun hHeld => ?_)
    refine held_take 0 (.slice (some ⟨g, 0, none⟩) (n + 1) c) rfl (by kernel_rfl) (by kernel_rfl) (by kernel_rfl) (fun _ _ _ h => h) hHeld (Or.inl ⟨by rfl, fun w' hSw => by (try dsimp only at hSw); (try subst hSw); go_simp⟩) ?_
    simp only [Act.put, List.setIfInBounds_toArray, List.set_cons_zero, List.set_cons_succ]
    refine held_take 1 (.int .i64 i) rfl (by kernel_rfl) (by kernel_rfl) (by kernel_rfl) (fun _ _ _ h => h) hHeld (Or.inl ⟨by rfl, fun w' hSw => by (try dsimp only at hSw); (try subst hSw); go_simp⟩) ?_
    simp only [Act.put, List.setIfInBounds_toArray, List.set_cons_zero, List.set_cons_succ]
    refine held_take 2 (.int .i64 1) rfl (by kernel_rfl) (by kernel_rfl) (by kernel_rfl) (fun _ _ _ h => h) hHeld (Or.inl ⟨by rfl, fun w' hSw => by (try dsimp only at hSw); (try subst hSw); go_simp⟩) ?_
    simp only [Act.put, List.setIfInBounds_toArray, List.set_cons_zero, List.set_cons_succ]
    refine held_take 3 (.int .i64 ((i : Int) + 1)) rfl (by kernel_rfl) (by kernel_rfl) (by kernel_rfl) (fun _ _ _ h => h) hHeld (Or.inl ⟨by rfl, fun w' hSw => by (try dsimp only at hSw); (try subst hSw); go_simp⟩) ?_
    simp only [Act.put, List.setIfInBounds_toArray, List.set_cons_zero, List.set_cons_succ]
    refine held_take 4 (.slice (some ⟨g, i * 2 + 2, none⟩) (n + 1 - (i + 1)) (c - (i + 1))) rfl (by kernel_rfl) (by kernel_rfl) (by kernel_rfl) (fun _ _ _ h => h) hHeld (Or.inl ⟨by rfl, fun w' hSw => by (try dsimp only at hSw); (try subst hSw); go_simp⟩) ?_
    simp only [Act.put, List.setIfInBounds_toArray, List.set_cons_zero, List.set_cons_succ]
    refine held_take 5 (.slice (some ⟨g, 0, none⟩) (n + 1) c) rfl (by kernel_rfl) (by kernel_rfl) (by kernel_rfl) (fun _ _ _ h => h) hHeld (Or.inl ⟨by rfl, fun w' hSw => by (try dsimp only at hSw); (try subst hSw); go_simp⟩) ?_
    simp only [Act.put, List.setIfInBounds_toArray, List.set_cons_zero, List.set_cons_succ]
    refine held_take 6 (.int .i64 i) rfl (by kernel_rfl) (by kernel_rfl) (by kernel_rfl) (fun _ _ _ h => h) hHeld (Or.inl ⟨by rfl, fun w' hSw => by (try dsimp only at hSw); (try subst hSw); go_simp⟩) ?_
    simp only [Act.put, List.setIfInBounds_toArray, List.set_cons_zero, List.set_cons_succ]
    refine held_take 7 (.slice (some ⟨g, i * 2, none⟩) (n + 1 - i) (c - i)) rfl (by kernel_rfl) (by kernel_rfl) (by kernel_rfl) (fun _ _ _ h => h) hHeld (Or.inl ⟨by rfl, fun w' hSw => by (try dsimp only at hSw); (try subst hSw); go_simp⟩) ?_
    simp only [Act.put, List.setIfInBounds_toArray, List.set_cons_zero, List.set_cons_succ]
    refine held_step 8 rfl (by kernel_rfl) (fun K hK => ?_)
    rw [if_pos (by rfl)]
    refine wp_copy_run _ _ _ 23 23 rfl (.slice (some ⟨g, i * 2 + 2, none⟩) (n + 1 - (i + 1)) (c - (i + 1))) (.slice (some ⟨g, i * 2, none⟩) (n + 1 - i) (c - i)) rfl rfl (hcA.out _ _ _) ?_
    refine hK.out _ _ trivial (fun hHeld => ?_)
    clear hK K
    simp only [Act.put]
    refine wpAnyH_done (by kernel_rfl) ?_ _
    clear hHeld
    have hcB0 := hcB.out 3 (c - i)
    go_wp2
    go_ret
    exact ⟨_, rfl, hfin.out⟩
end Go.Proofs.Ytnmmdnecojgccaa
