/- Lists compared. -/
import Derived.Test.YtalkhhjfplahkaaGreatKO
namespace Go.Proofs.YtalkhhjfplahkaaGreat
open Go.RowKit
set_option linter.unusedVariables false

set_option maxRecDepth 100000 in
set_option maxHeartbeats 4000000 in
theorem equal_ch (w : World) (A B : Option Addr) (c d : Nat) (l m : List Ch) (ha : Els chE 3 w A l) (hb : Els chE 3 w B m) (hl : l.length ≤ 1048576) (hm : m.length ≤ 1048576) :
    Calls Tryz.prog 22 #[.slice A l.length c, .slice B m.length d] w fun e w' => Says (l = m) e ∧ Only [] w w' := by
  by_cases hne : l.length = m.length
  rotate_left
  · have hn : Hid (¬ l = m) := fun h => hne (by rw [h])
    have d0 : ((l.length : Int) != (m.length : Int)) = true := by simp; omega
    have d1 : ¬ (l.length : Int) = (m.length : Int) := by omega
    clear ha hb
    generalize l.length = nl at *
    generalize m.length = nm at *
    go_enter Tryz.func22, Tryz.ntmps22
    go_wp2
    go_ret
    exact ⟨Says.no hn.out, Only.refl _ _⟩
  have hnm : Hid (m.length = l.length) := hne.symm
  rw [hnm.out] at hm ⊢
  have hlI : (l.length : Int) ≤ 1048576 := by omega
  clear hne
  go_enter Tryz.func22, Tryz.ntmps22
  go_wp2_with fail
  go_loopw [13] (fun i wr => ∃ n : Nat, n ≤ l.length ∧ i = .int .i64 n ∧ Hid (l.take n = m.take n) ∧ Only [] w wr) (fun i _ => l.length - (intOf i).toNat)
  case atStart => exact ⟨0, Nat.zero_le _, rfl, rfl, Only.refl _ _⟩
  case round =>
    obtain ⟨n, hn, rfl, he, hk⟩ := hrel
    by_cases hlt : n < l.length
    rotate_left
    · have hy : Hid (l = m) := by
        have := he.out
        rwa [List.take_of_length_le (by omega), List.take_of_length_le (by have := hnm.out; omega)] at this
      go_wp2
      go_ret
      exact ⟨Says.yes hy.out, hk⟩
    have hltm : n < m.length := by have := hnm.out; omega
    obtain ⟨g, o, rfl, hg, hat⟩ := ha.get hlt
    obtain ⟨g2, o2, rfl, hg2, hat2⟩ := hb.get hltm
    have hr1 := ElsAt.range (hat.kept hk (by simp)) hlt
    have hr2 := ElsAt.range (hat2.kept hk (by simp)) hltm
    have hx : l[n]? = some l[n] := List.getElem?_eq_getElem hlt
    have hy : m[n]? = some m[n] := List.getElem?_eq_getElem hltm
    generalize l[n] = x at *
    generalize m[n] = y at *
    have hneq : Hid (∀ W, (binOp .neq 48 (chV x) (chV y)).run Tryz.prog W = .ok (.bool (!decide (x = y))) W) := fun W => neq_of_eql 48 (chA x) (chA y) _ (run_eql_ch x y W)
    have hyes := fun e => take_same he.out hx hy e
    have hno := fun e => differ_at hx hy e
    replace hx := Lib.hid hx
    replace hy := Lib.hid hy
    clear hat hat2 ha hb
    by_cases hxy : x = y
    · rw [decide_eq_true hxy] at hneq
      have hnx := Lib.hid (hyes hxy)
      clear hyes hno
      replace hxy := Lib.hid hxy
      go_wp2_with fail
      refine wp_region_held_drew (S := fun w' => w'.rangeAt g (o + n * 3) (chE x) ∧ w'.rangeAt g2 (o2 + n * 3) (chE y)) (by kernel_rfl) ⟨hr1, hr2⟩ (fun hHeld => ?_)
      refine held_take 0 (.slice (some ⟨g, o, none⟩) l.length c) rfl (by kernel_rfl) (by kernel_rfl) (by kernel_rfl) (fun _ _ _ h => h) hHeld (Or.inl ⟨by rfl, fun w' hSw => by (try dsimp only at hSw); (try subst hSw); go_simp⟩) ?_
      simp only [Act.put, List.setIfInBounds_toArray, List.set_cons_zero, List.set_cons_succ]
      refine held_take 1 (.int .i64 n) rfl (by kernel_rfl) (by kernel_rfl) (by kernel_rfl) (fun _ _ _ h => h) hHeld (Or.inl ⟨by rfl, fun w' hSw => by (try dsimp only at hSw); (try subst hSw); go_simp⟩) ?_
      simp only [Act.put, List.setIfInBounds_toArray, List.set_cons_zero, List.set_cons_succ]
      refine held_take 2 (.pointer (some ⟨g, o + n * 3, none⟩)) rfl (by kernel_rfl) (by kernel_rfl) (by kernel_rfl) (fun _ _ _ h => h) hHeld (Or.inl ⟨by rfl, fun w' hSw => by (try dsimp only at hSw); (try subst hSw); go_simp⟩) ?_
      simp only [Act.put, List.setIfInBounds_toArray, List.set_cons_zero, List.set_cons_succ]
      refine held_take 3 (chV x) rfl (by kernel_rfl) (by kernel_rfl) (by kernel_rfl) (fun _ _ _ h => h) hHeld (Or.inl ⟨by rfl, fun w' hSw => ev_load 48 _ rfl g (o + n * 3) rfl (chE x) _ hSw.1 Tryz.underlying48 rfl size_ch⟩) ?_
      simp only [Act.put, List.setIfInBounds_toArray, List.set_cons_zero, List.set_cons_succ]
      refine held_take 4 (.slice (some ⟨g2, o2, none⟩) l.length d) rfl (by kernel_rfl) (by kernel_rfl) (by kernel_rfl) (fun _ _ _ h => h) hHeld (Or.inl ⟨by rfl, fun w' hSw => by (try dsimp only at hSw); (try subst hSw); go_simp⟩) ?_
      simp only [Act.put, List.setIfInBounds_toArray, List.set_cons_zero, List.set_cons_succ]
      refine held_take 5 (.int .i64 n) rfl (by kernel_rfl) (by kernel_rfl) (by kernel_rfl) (fun _ _ _ h => h) hHeld (Or.inl ⟨by rfl, fun w' hSw => by (try dsimp only at hSw); (try subst hSw); go_simp⟩) ?_
      simp only [Act.put, List.setIfInBounds_toArray, List.set_cons_zero, List.set_cons_succ]
      refine held_take 6 (.pointer (some ⟨g2, o2 + n * 3, none⟩)) rfl (by kernel_rfl) (by kernel_rfl) (by kernel_rfl) (fun _ _ _ h => h) hHeld (Or.inl ⟨by rfl, fun w' hSw => by (try dsimp only at hSw); (try subst hSw); go_simp⟩) ?_
      simp only [Act.put, List.setIfInBounds_toArray, List.set_cons_zero, List.set_cons_succ]
      refine held_take 7 (chV y) rfl (by kernel_rfl) (by kernel_rfl) (by kernel_rfl) (fun _ _ _ h => h) hHeld (Or.inl ⟨by rfl, fun w' hSw => ev_load 48 _ rfl g2 (o2 + n * 3) rfl (chE y) _ hSw.2 Tryz.underlying48 rfl size_ch⟩) ?_
      simp only [Act.put, List.setIfInBounds_toArray, List.set_cons_zero, List.set_cons_succ]
      refine held_take 8 (.bool false) rfl (by kernel_rfl) (by kernel_rfl) (by kernel_rfl) (fun _ _ _ h => h) hHeld (Or.inl ⟨by rfl, fun w' hSw => ev_neq 48 _ _ _ rfl (chA x) (chA y) rfl rfl _ (run_eqGuard_agg (P := Tryz.prog) w' .neq 48 _ _ (chA x) (chA y) (by kernel_rfl)) (hneq.out w')⟩) ?_
      simp only [Act.put, List.setIfInBounds_toArray, List.set_cons_zero, List.set_cons_succ]
      refine wpAnyH_done (by kernel_rfl) ?_ _
      clear hHeld
      go_wp2
      go_roundw
      case rel => exact ⟨n + 1, by omega, by go_num, hnx, hk.drew⟩
      case measure => simp [intOf]; omega
    · rw [decide_eq_false hxy] at hneq
      have hnx := Lib.hid (hno hxy)
      clear hyes hno
      replace hxy := Lib.hid hxy
      go_wp2_with fail
      refine wp_region_held_drew (S := fun w' => w'.rangeAt g (o + n * 3) (chE x) ∧ w'.rangeAt g2 (o2 + n * 3) (chE y)) (by kernel_rfl) ⟨hr1, hr2⟩ (fun hHeld => ?_)
      refine held_take 0 (.slice (some ⟨g, o, none⟩) l.length c) rfl (by kernel_rfl) (by kernel_rfl) (by kernel_rfl) (fun _ _ _ h => h) hHeld (Or.inl ⟨by rfl, fun w' hSw => by (try dsimp only at hSw); (try subst hSw); go_simp⟩) ?_
      simp only [Act.put, List.setIfInBounds_toArray, List.set_cons_zero, List.set_cons_succ]
      refine held_take 1 (.int .i64 n) rfl (by kernel_rfl) (by kernel_rfl) (by kernel_rfl) (fun _ _ _ h => h) hHeld (Or.inl ⟨by rfl, fun w' hSw => by (try dsimp only at hSw); (try subst hSw); go_simp⟩) ?_
      simp only [Act.put, List.setIfInBounds_toArray, List.set_cons_zero, List.set_cons_succ]
      refine held_take 2 (.pointer (some ⟨g, o + n * 3, none⟩)) rfl (by kernel_rfl) (by kernel_rfl) (by kernel_rfl) (fun _ _ _ h => h) hHeld (Or.inl ⟨by rfl, fun w' hSw => by (try dsimp only at hSw); (try subst hSw); go_simp⟩) ?_
      simp only [Act.put, List.setIfInBounds_toArray, List.set_cons_zero, List.set_cons_succ]
      refine held_take 3 (chV x) rfl (by kernel_rfl) (by kernel_rfl) (by kernel_rfl) (fun _ _ _ h => h) hHeld (Or.inl ⟨by rfl, fun w' hSw => ev_load 48 _ rfl g (o + n * 3) rfl (chE x) _ hSw.1 Tryz.underlying48 rfl size_ch⟩) ?_
      simp only [Act.put, List.setIfInBounds_toArray, List.set_cons_zero, List.set_cons_succ]
      refine held_take 4 (.slice (some ⟨g2, o2, none⟩) l.length d) rfl (by kernel_rfl) (by kernel_rfl) (by kernel_rfl) (fun _ _ _ h => h) hHeld (Or.inl ⟨by rfl, fun w' hSw => by (try dsimp only at hSw); (try subst hSw); go_simp⟩) ?_
      simp only [Act.put, List.setIfInBounds_toArray, List.set_cons_zero, List.set_cons_succ]
      refine held_take 5 (.int .i64 n) rfl (by kernel_rfl) (by kernel_rfl) (by kernel_rfl) (fun _ _ _ h => h) hHeld (Or.inl ⟨by rfl, fun w' hSw => by (try dsimp only at hSw); (try subst hSw); go_simp⟩) ?_
      simp only [Act.put, List.setIfInBounds_toArray, List.set_cons_zero, List.set_cons_succ]
      refine held_take 6 (.pointer (some ⟨g2, o2 + n * 3, none⟩)) rfl (by kernel_rfl) (by kernel_rfl) (by kernel_rfl) (fun _ _ _ h => h) hHeld (Or.inl ⟨by rfl, fun w' hSw => by (try dsimp only at hSw); (try subst hSw); go_simp⟩) ?_
      simp only [Act.put, List.setIfInBounds_toArray, List.set_cons_zero, List.set_cons_succ]
      refine held_take 7 (chV y) rfl (by kernel_rfl) (by kernel_rfl) (by kernel_rfl) (fun _ _ _ h => h) hHeld (Or.inl ⟨by rfl, fun w' hSw => ev_load 48 _ rfl g2 (o2 + n * 3) rfl (chE y) _ hSw.2 Tryz.underlying48 rfl size_ch⟩) ?_
      simp only [Act.put, List.setIfInBounds_toArray, List.set_cons_zero, List.set_cons_succ]
      refine held_take 8 (.bool true) rfl (by kernel_rfl) (by kernel_rfl) (by kernel_rfl) (fun _ _ _ h => h) hHeld (Or.inl ⟨by rfl, fun w' hSw => ev_neq 48 _ _ _ rfl (chA x) (chA y) rfl rfl _ (run_eqGuard_agg (P := Tryz.prog) w' .neq 48 _ _ (chA x) (chA y) (by kernel_rfl)) (hneq.out w')⟩) ?_
      simp only [Act.put, List.setIfInBounds_toArray, List.set_cons_zero, List.set_cons_succ]
      refine wpAnyH_done (by kernel_rfl) ?_ _
      clear hHeld
      go_wp2
      go_ret
      exact ⟨Says.no hnx.out, hk.drew⟩

set_option maxRecDepth 100000 in
set_option maxHeartbeats 4000000 in
theorem equal_wk (w : World) (A B : Option Addr) (c d : Nat) (l m : List Wk) (ha : Els wkE 8 w A l) (hb : Els wkE 8 w B m) (hl : l.length ≤ 1048576) (hm : m.length ≤ 1048576) :
    Calls Tryz.prog 27 #[.slice A l.length c, .slice B m.length d] w fun e w' => Says (l = m) e ∧ Only [] w w' := by
  by_cases hne : l.length = m.length
  rotate_left
  · have hn : Hid (¬ l = m) := fun h => hne (by rw [h])
    have d0 : ((l.length : Int) != (m.length : Int)) = true := by simp; omega
    have d1 : ¬ (l.length : Int) = (m.length : Int) := by omega
    clear ha hb
    generalize l.length = nl at *
    generalize m.length = nm at *
    go_enter Tryz.func27, Tryz.ntmps27
    go_wp2
    go_ret
    exact ⟨Says.no hn.out, Only.refl _ _⟩
  have hnm : Hid (m.length = l.length) := hne.symm
  rw [hnm.out] at hm ⊢
  have hlI : (l.length : Int) ≤ 1048576 := by omega
  clear hne
  go_enter Tryz.func27, Tryz.ntmps27
  go_wp2_with fail
  go_loopw [13] (fun i wr => ∃ n : Nat, n ≤ l.length ∧ i = .int .i64 n ∧ Hid (l.take n = m.take n) ∧ Only [] w wr) (fun i _ => l.length - (intOf i).toNat)
  case atStart => exact ⟨0, Nat.zero_le _, rfl, rfl, Only.refl _ _⟩
  case round =>
    obtain ⟨n, hn, rfl, he, hk⟩ := hrel
    by_cases hlt : n < l.length
    rotate_left
    · have hy : Hid (l = m) := by
        have := he.out
        rwa [List.take_of_length_le (by omega), List.take_of_length_le (by have := hnm.out; omega)] at this
      go_wp2
      go_ret
      exact ⟨Says.yes hy.out, hk⟩
    have hltm : n < m.length := by have := hnm.out; omega
    obtain ⟨g, o, rfl, hg, hat⟩ := ha.get hlt
    obtain ⟨g2, o2, rfl, hg2, hat2⟩ := hb.get hltm
    have hr1 := ElsAt.range (hat.kept hk (by simp)) hlt
    have hr2 := ElsAt.range (hat2.kept hk (by simp)) hltm
    have hx : l[n]? = some l[n] := List.getElem?_eq_getElem hlt
    have hy : m[n]? = some m[n] := List.getElem?_eq_getElem hltm
    generalize l[n] = x at *
    generalize m[n] = y at *
    have hneq : Hid (∀ W, (binOp .neq 50 (wkV x) (wkV y)).run Tryz.prog W = .ok (.bool (!decide (x = y))) W) := fun W => neq_of_eql 50 (wkA x) (wkA y) _ (run_eql_wk x y W)
    have hyes := fun e => take_same he.out hx hy e
    have hno := fun e => differ_at hx hy e
    replace hx := Lib.hid hx
    replace hy := Lib.hid hy
    clear hat hat2 ha hb
    by_cases hxy : x = y
    · rw [decide_eq_true hxy] at hneq
      have hnx := Lib.hid (hyes hxy)
      clear hyes hno
      replace hxy := Lib.hid hxy
      go_wp2_with fail
      refine wp_region_held_drew (S := fun w' => w'.rangeAt g (o + n * 8) (wkE x) ∧ w'.rangeAt g2 (o2 + n * 8) (wkE y)) (by kernel_rfl) ⟨hr1, hr2⟩ (fun hHeld => ?_)
      refine held_take 0 (.slice (some ⟨g, o, none⟩) l.length c) rfl (by kernel_rfl) (by kernel_rfl) (by kernel_rfl) (fun _ _ _ h => h) hHeld (Or.inl ⟨by rfl, fun w' hSw => by (try dsimp only at hSw); (try subst hSw); go_simp⟩) ?_
      simp only [Act.put, List.setIfInBounds_toArray, List.set_cons_zero, List.set_cons_succ]
      refine held_take 1 (.int .i64 n) rfl (by kernel_rfl) (by kernel_rfl) (by kernel_rfl) (fun _ _ _ h => h) hHeld (Or.inl ⟨by rfl, fun w' hSw => by (try dsimp only at hSw); (try subst hSw); go_simp⟩) ?_
      simp only [Act.put, List.setIfInBounds_toArray, List.set_cons_zero, List.set_cons_succ]
      refine held_take 2 (.pointer (some ⟨g, o + n * 8, none⟩)) rfl (by kernel_rfl) (by kernel_rfl) (by kernel_rfl) (fun _ _ _ h => h) hHeld (Or.inl ⟨by rfl, fun w' hSw => by (try dsimp only at hSw); (try subst hSw); go_simp⟩) ?_
      simp only [Act.put, List.setIfInBounds_toArray, List.set_cons_zero, List.set_cons_succ]
      refine held_take 3 (wkV x) rfl (by kernel_rfl) (by kernel_rfl) (by kernel_rfl) (fun _ _ _ h => h) hHeld (Or.inl ⟨by rfl, fun w' hSw => ev_load 50 _ rfl g (o + n * 8) rfl (wkE x) _ hSw.1 Tryz.underlying50 rfl size_wk⟩) ?_
      simp only [Act.put, List.setIfInBounds_toArray, List.set_cons_zero, List.set_cons_succ]
      refine held_take 4 (.slice (some ⟨g2, o2, none⟩) l.length d) rfl (by kernel_rfl) (by kernel_rfl) (by kernel_rfl) (fun _ _ _ h => h) hHeld (Or.inl ⟨by rfl, fun w' hSw => by (try dsimp only at hSw); (try subst hSw); go_simp⟩) ?_
      simp only [Act.put, List.setIfInBounds_toArray, List.set_cons_zero, List.set_cons_succ]
      refine held_take 5 (.int .i64 n) rfl (by kernel_rfl) (by kernel_rfl) (by kernel_rfl) (fun _ _ _ h => h) hHeld (Or.inl ⟨by rfl, fun w' hSw => by (try dsimp only at hSw); (try subst hSw); go_simp⟩) ?_
      simp only [Act.put, List.setIfInBounds_toArray, List.set_cons_zero, List.set_cons_succ]
      refine held_take 6 (.pointer (some ⟨g2, o2 + n * 8, none⟩)) rfl (by kernel_rfl) (by kernel_rfl) (by kernel_rfl) (fun _ _ _ h => h) hHeld (Or.inl ⟨by rfl, fun w' hSw => by (try dsimp only at hSw); (try subst hSw); go_simp⟩) ?_
      simp only [Act.put, List.setIfInBounds_toArray, List.set_cons_zero, List.set_cons_succ]
      refine held_take 7 (wkV y) rfl (by kernel_rfl) (by kernel_rfl) (by kernel_rfl) (fun _ _ _ h => h) hHeld (Or.inl ⟨by rfl, fun w' hSw => ev_load 50 _ rfl g2 (o2 + n * 8) rfl (wkE y) _ hSw.2 Tryz.underlying50 rfl size_wk⟩) ?_
      simp only [Act.put, List.setIfInBounds_toArray, List.set_cons_zero, List.set_cons_succ]
      refine held_take 8 (.bool false) rfl (by kernel_rfl) (by kernel_rfl) (by kernel_rfl) (fun _ _ _ h => h) hHeld (Or.inl ⟨by rfl, fun w' hSw => ev_neq 50 _ _ _ rfl (wkA x) (wkA y) rfl rfl _ (run_eqGuard_agg (P := Tryz.prog) w' .neq 50 _ _ (wkA x) (wkA y) (by kernel_rfl)) (hneq.out w')⟩) ?_
      simp only [Act.put, List.setIfInBounds_toArray, List.set_cons_zero, List.set_cons_succ]
      refine wpAnyH_done (by kernel_rfl) ?_ _
      clear hHeld
      go_wp2
      go_roundw
      case rel => exact ⟨n + 1, by omega, by go_num, hnx, hk.drew⟩
      case measure => simp [intOf]; omega
    · rw [decide_eq_false hxy] at hneq
      have hnx := Lib.hid (hno hxy)
      clear hyes hno
      replace hxy := Lib.hid hxy
      go_wp2_with fail
      refine wp_region_held_drew (S := fun w' => w'.rangeAt g (o + n * 8) (wkE x) ∧ w'.rangeAt g2 (o2 + n * 8) (wkE y)) (by kernel_rfl) ⟨hr1, hr2⟩ (fun hHeld => ?_)
      refine held_take 0 (.slice (some ⟨g, o, none⟩) l.length c) rfl (by kernel_rfl) (by kernel_rfl) (by kernel_rfl) (fun _ _ _ h => h) hHeld (Or.inl ⟨by rfl, fun w' hSw => by (try dsimp only at hSw); (try subst hSw); go_simp⟩) ?_
      simp only [Act.put, List.setIfInBounds_toArray, List.set_cons_zero, List.set_cons_succ]
      refine held_take 1 (.int .i64 n) rfl (by kernel_rfl) (by kernel_rfl) (by kernel_rfl) (fun _ _ _ h => h) hHeld (Or.inl ⟨by rfl, fun w' hSw => by (try dsimp only at hSw); (try subst hSw); go_simp⟩) ?_
      simp only [Act.put, List.setIfInBounds_toArray, List.set_cons_zero, List.set_cons_succ]
      refine held_take 2 (.pointer (some ⟨g, o + n * 8, none⟩)) rfl (by kernel_rfl) (by kernel_rfl) (by kernel_rfl) (fun _ _ _ h => h) hHeld (Or.inl ⟨by rfl, fun w' hSw => by (try dsimp only at hSw); (try subst hSw); go_simp⟩) ?_
      simp only [Act.put, List.setIfInBounds_toArray, List.set_cons_zero, List.set_cons_succ]
      refine held_take 3 (wkV x) rfl (by kernel_rfl) (by kernel_rfl) (by kernel_rfl) (fun _ _ _ h => h) hHeld (Or.inl ⟨by rfl, fun w' hSw => ev_load 50 _ rfl g (o + n * 8) rfl (wkE x) _ hSw.1 Tryz.underlying50 rfl size_wk⟩) ?_
      simp only [Act.put, List.setIfInBounds_toArray, List.set_cons_zero, List.set_cons_succ]
      refine held_take 4 (.slice (some ⟨g2, o2, none⟩) l.length d) rfl (by kernel_rfl) (by kernel_rfl) (by kernel_rfl) (fun _ _ _ h => h) hHeld (Or.inl ⟨by rfl, fun w' hSw => by (try dsimp only at hSw); (try subst hSw); go_simp⟩) ?_
      simp only [Act.put, List.setIfInBounds_toArray, List.set_cons_zero, List.set_cons_succ]
      refine held_take 5 (.int .i64 n) rfl (by kernel_rfl) (by kernel_rfl) (by kernel_rfl) (fun _ _ _ h => h) hHeld (Or.inl ⟨by rfl, fun w' hSw => by (try dsimp only at hSw); (try subst hSw); go_simp⟩) ?_
      simp only [Act.put, List.setIfInBounds_toArray, List.set_cons_zero, List.set_cons_succ]
      refine held_take 6 (.pointer (some ⟨g2, o2 + n * 8, none⟩)) rfl (by kernel_rfl) (by kernel_rfl) (by kernel_rfl) (fun _ _ _ h => h) hHeld (Or.inl ⟨by rfl, fun w' hSw => by (try dsimp only at hSw); (try subst hSw); go_simp⟩) ?_
      simp only [Act.put, List.setIfInBounds_toArray, List.set_cons_zero, List.set_cons_succ]
      refine held_take 7 (wkV y) rfl (by kernel_rfl) (by kernel_rfl) (by kernel_rfl) (fun _ _ _ h => h) hHeld (Or.inl ⟨by rfl, fun w' hSw => ev_load 50 _ rfl g2 (o2 + n * 8) rfl (wkE y) _ hSw.2 Tryz.underlying50 rfl size_wk⟩) ?_
      simp only [Act.put, List.setIfInBounds_toArray, List.set_cons_zero, List.set_cons_succ]
      refine held_take 8 (.bool true) rfl (by kernel_rfl) (by kernel_rfl) (by kernel_rfl) (fun _ _ _ h => h) hHeld (Or.inl ⟨by rfl, fun w' hSw => ev_neq 50 _ _ _ rfl (wkA x) (wkA y) rfl rfl _ (run_eqGuard_agg (P := Tryz.prog) w' .neq 50 _ _ (wkA x) (wkA y) (by kernel_rfl)) (hneq.out w')⟩) ?_
      simp only [Act.put, List.setIfInBounds_toArray, List.set_cons_zero, List.set_cons_succ]
      refine wpAnyH_done (by kernel_rfl) ?_ _
      clear hHeld
      go_wp2
      go_ret
      exact ⟨Says.no hnx.out, hk.drew⟩

set_option maxRecDepth 100000 in
set_option maxHeartbeats 4000000 in
theorem equal_hol (w : World) (A B : Option Addr) (c d : Nat) (l m : List Hol) (ha : Els holE 2 w A l) (hb : Els holE 2 w B m) (hl : l.length ≤ 1048576) (hm : m.length ≤ 1048576) :
    Calls Tryz.prog 49 #[.slice A l.length c, .slice B m.length d] w fun e w' => Says (l = m) e ∧ Only [] w w' := by
  by_cases hne : l.length = m.length
  rotate_left
  · have hn : Hid (¬ l = m) := fun h => hne (by rw [h])
    have d0 : ((l.length : Int) != (m.length : Int)) = true := by simp; omega
    have d1 : ¬ (l.length : Int) = (m.length : Int) := by omega
    clear ha hb
    generalize l.length = nl at *
    generalize m.length = nm at *
    go_enter Tryz.func49, Tryz.ntmps49
    go_wp2
    go_ret
    exact ⟨Says.no hn.out, Only.refl _ _⟩
  have hnm : Hid (m.length = l.length) := hne.symm
  rw [hnm.out] at hm ⊢
  have hlI : (l.length : Int) ≤ 1048576 := by omega
  clear hne
  go_enter Tryz.func49, Tryz.ntmps49
  go_wp2_with fail
  go_loopw [13] (fun i wr => ∃ n : Nat, n ≤ l.length ∧ i = .int .i64 n ∧ Hid (l.take n = m.take n) ∧ Only [] w wr) (fun i _ => l.length - (intOf i).toNat)
  case atStart => exact ⟨0, Nat.zero_le _, rfl, rfl, Only.refl _ _⟩
  case round =>
    obtain ⟨n, hn, rfl, he, hk⟩ := hrel
    by_cases hlt : n < l.length
    rotate_left
    · have hy : Hid (l = m) := by
        have := he.out
        rwa [List.take_of_length_le (by omega), List.take_of_length_le (by have := hnm.out; omega)] at this
      go_wp2
      go_ret
      exact ⟨Says.yes hy.out, hk⟩
    have hltm : n < m.length := by have := hnm.out; omega
    obtain ⟨g, o, rfl, hg, hat⟩ := ha.get hlt
    obtain ⟨g2, o2, rfl, hg2, hat2⟩ := hb.get hltm
    have hr1 := ElsAt.range (hat.kept hk (by simp)) hlt
    have hr2 := ElsAt.range (hat2.kept hk (by simp)) hltm
    have hx : l[n]? = some l[n] := List.getElem?_eq_getElem hlt
    have hy : m[n]? = some m[n] := List.getElem?_eq_getElem hltm
    generalize l[n] = x at *
    generalize m[n] = y at *
    have hneq : Hid (∀ W, (binOp .neq 91 (holV x) (holV y)).run Tryz.prog W = .ok (.bool (!decide (x = y))) W) := fun W => neq_of_eql 91 (holA x) (holA y) _ (run_eql_hol x y W)
    have hyes := fun e => take_same he.out hx hy e
    have hno := fun e => differ_at hx hy e
    replace hx := Lib.hid hx
    replace hy := Lib.hid hy
    clear hat hat2 ha hb
    by_cases hxy : x = y
    · rw [decide_eq_true hxy] at hneq
      have hnx := Lib.hid (hyes hxy)
      clear hyes hno
      replace hxy := Lib.hid hxy
      go_wp2_with fail
      refine wp_region_held_drew (S := fun w' => w'.rangeAt g (o + n * 2) (holE x) ∧ w'.rangeAt g2 (o2 + n * 2) (holE y)) (by kernel_rfl) ⟨hr1, hr2⟩ (fun hHeld => ?_)
      refine held_take 0 (.slice (some ⟨g, o, none⟩) l.length c) rfl (by kernel_rfl) (by kernel_rfl) (by kernel_rfl) (fun _ _ _ h => h) hHeld (Or.inl ⟨by rfl, fun w' hSw => by (try dsimp only at hSw); (try subst hSw); go_simp⟩) ?_
      simp only [Act.put, List.setIfInBounds_toArray, List.set_cons_zero, List.set_cons_succ]
      refine held_take 1 (.int .i64 n) rfl (by kernel_rfl) (by kernel_rfl) (by kernel_rfl) (fun _ _ _ h => h) hHeld (Or.inl ⟨by rfl, fun w' hSw => by (try dsimp only at hSw); (try subst hSw); go_simp⟩) ?_
      simp only [Act.put, List.setIfInBounds_toArray, List.set_cons_zero, List.set_cons_succ]
      refine held_take 2 (.pointer (some ⟨g, o + n * 2, none⟩)) rfl (by kernel_rfl) (by kernel_rfl) (by kernel_rfl) (fun _ _ _ h => h) hHeld (Or.inl ⟨by rfl, fun w' hSw => by (try dsimp only at hSw); (try subst hSw); go_simp⟩) ?_
      simp only [Act.put, List.setIfInBounds_toArray, List.set_cons_zero, List.set_cons_succ]
      refine held_take 3 (holV x) rfl (by kernel_rfl) (by kernel_rfl) (by kernel_rfl) (fun _ _ _ h => h) hHeld (Or.inl ⟨by rfl, fun w' hSw => ev_load 91 _ rfl g (o + n * 2) rfl (holE x) _ hSw.1 Tryz.underlying91 rfl size_hol⟩) ?_
      simp only [Act.put, List.setIfInBounds_toArray, List.set_cons_zero, List.set_cons_succ]
      refine held_take 4 (.slice (some ⟨g2, o2, none⟩) l.length d) rfl (by kernel_rfl) (by kernel_rfl) (by kernel_rfl) (fun _ _ _ h => h) hHeld (Or.inl ⟨by rfl, fun w' hSw => by (try dsimp only at hSw); (try subst hSw); go_simp⟩) ?_
      simp only [Act.put, List.setIfInBounds_toArray, List.set_cons_zero, List.set_cons_succ]
      refine held_take 5 (.int .i64 n) rfl (by kernel_rfl) (by kernel_rfl) (by kernel_rfl) (fun _ _ _ h => h) hHeld (Or.inl ⟨by rfl, fun w' hSw => by (try dsimp only at hSw); (try subst hSw); go_simp⟩) ?_
      simp only [Act.put, List.setIfInBounds_toArray, List.set_cons_zero, List.set_cons_succ]
      refine held_take 6 (.pointer (some ⟨g2, o2 + n * 2, none⟩)) rfl (by kernel_rfl) (by kernel_rfl) (by kernel_rfl) (fun _ _ _ h => h) hHeld (Or.inl ⟨by rfl, fun w' hSw => by (try dsimp only at hSw); (try subst hSw); go_simp⟩) ?_
      simp only [Act.put, List.setIfInBounds_toArray, List.set_cons_zero, List.set_cons_succ]
      refine held_take 7 (holV y) rfl (by kernel_rfl) (by kernel_rfl) (by kernel_rfl) (fun _ _ _ h => h) hHeld (Or.inl ⟨by rfl, fun w' hSw => ev_load 91 _ rfl g2 (o2 + n * 2) rfl (holE y) _ hSw.2 Tryz.underlying91 rfl size_hol⟩) ?_
      simp only [Act.put, List.setIfInBounds_toArray, List.set_cons_zero, List.set_cons_succ]
      refine held_take 8 (.bool false) rfl (by kernel_rfl) (by kernel_rfl) (by kernel_rfl) (fun _ _ _ h => h) hHeld (Or.inl ⟨by rfl, fun w' hSw => ev_neq 91 _ _ _ rfl (holA x) (holA y) rfl rfl _ (run_eqGuard_agg (P := Tryz.prog) w' .neq 91 _ _ (holA x) (holA y) (by kernel_rfl)) (hneq.out w')⟩) ?_
      simp only [Act.put, List.setIfInBounds_toArray, List.set_cons_zero, List.set_cons_succ]
      refine wpAnyH_done (by kernel_rfl) ?_ _
      clear hHeld
      go_wp2
      go_roundw
      case rel => exact ⟨n + 1, by omega, by go_num, hnx, hk.drew⟩
      case measure => simp [intOf]; omega
    · rw [decide_eq_false hxy] at hneq
      have hnx := Lib.hid (hno hxy)
      clear hyes hno
      replace hxy := Lib.hid hxy
      go_wp2_with fail
      refine wp_region_held_drew (S := fun w' => w'.rangeAt g (o + n * 2) (holE x) ∧ w'.rangeAt g2 (o2 + n * 2) (holE y)) (by kernel_rfl) ⟨hr1, hr2⟩ (fun hHeld => ?_)
      refine held_take 0 (.slice (some ⟨g, o, none⟩) l.length c) rfl (by kernel_rfl) (by kernel_rfl) (by kernel_rfl) (fun _ _ _ h => h) hHeld (Or.inl ⟨by rfl, fun w' hSw => by (try dsimp only at hSw); (try subst hSw); go_simp⟩) ?_
      simp only [Act.put, List.setIfInBounds_toArray, List.set_cons_zero, List.set_cons_succ]
      refine held_take 1 (.int .i64 n) rfl (by kernel_rfl) (by kernel_rfl) (by kernel_rfl) (fun _ _ _ h => h) hHeld (Or.inl ⟨by rfl, fun w' hSw => by (try dsimp only at hSw); (try subst hSw); go_simp⟩) ?_
      simp only [Act.put, List.setIfInBounds_toArray, List.set_cons_zero, List.set_cons_succ]
      refine held_take 2 (.pointer (some ⟨g, o + n * 2, none⟩)) rfl (by kernel_rfl) (by kernel_rfl) (by kernel_rfl) (fun _ _ _ h => h) hHeld (Or.inl ⟨by rfl, fun w' hSw => by (try dsimp only at hSw); (try subst hSw); go_simp⟩) ?_
      simp only [Act.put, List.setIfInBounds_toArray, List.set_cons_zero, List.set_cons_succ]
      refine held_take 3 (holV x) rfl (by kernel_rfl) (by kernel_rfl) (by kernel_rfl) (fun _ _ _ h => h) hHeld (Or.inl ⟨by rfl, fun w' hSw => ev_load 91 _ rfl g (o + n * 2) rfl (holE x) _ hSw.1 Tryz.underlying91 rfl size_hol⟩) ?_
      simp only [Act.put, List.setIfInBounds_toArray, List.set_cons_zero, List.set_cons_succ]
      refine held_take 4 (.slice (some ⟨g2, o2, none⟩) l.length d) rfl (by kernel_rfl) (by kernel_rfl) (by kernel_rfl) (fun _ _ _ h => h) hHeld (Or.inl ⟨by rfl, fun w' hSw => by (try dsimp only at hSw); (try subst hSw); go_simp⟩) ?_
      simp only [Act.put, List.setIfInBounds_toArray, List.set_cons_zero, List.set_cons_succ]
      refine held_take 5 (.int .i64 n) rfl (by kernel_rfl) (by kernel_rfl) (by kernel_rfl) (fun _ _ _ h => h) hHeld (Or.inl ⟨by rfl, fun w' hSw => by (try dsimp only at hSw); (try subst hSw); go_simp⟩) ?_
      simp only [Act.put, List.setIfInBounds_toArray, List.set_cons_zero, List.set_cons_succ]
      refine held_take 6 (.pointer (some ⟨g2, o2 + n * 2, none⟩)) rfl (by kernel_rfl) (by kernel_rfl) (by kernel_rfl) (fun _ _ _ h => h) hHeld (Or.inl ⟨by rfl, fun w' hSw => by (try dsimp only at hSw); (try subst hSw); go_simp⟩) ?_
      simp only [Act.put, List.setIfInBounds_toArray, List.set_cons_zero, List.set_cons_succ]
      refine held_take 7 (holV y) rfl (by kernel_rfl) (by kernel_rfl) (by kernel_rfl) (fun _ _ _ h => h) hHeld (Or.inl ⟨by rfl, fun w' hSw => ev_load 91 _ rfl g2 (o2 + n * 2) rfl (holE y) _ hSw.2 Tryz.underlying91 rfl size_hol⟩) ?_
      simp only [Act.put, List.setIfInBounds_toArray, List.set_cons_zero, List.set_cons_succ]
      refine held_take 8 (.bool true) rfl (by kernel_rfl) (by kernel_rfl) (by kernel_rfl) (fun _ _ _ h => h) hHeld (Or.inl ⟨by rfl, fun w' hSw => ev_neq 91 _ _ _ rfl (holA x) (holA y) rfl rfl _ (run_eqGuard_agg (P := Tryz.prog) w' .neq 91 _ _ (holA x) (holA y) (by kernel_rfl)) (hneq.out w')⟩) ?_
      simp only [Act.put, List.setIfInBounds_toArray, List.set_cons_zero, List.set_cons_succ]
      refine wpAnyH_done (by kernel_rfl) ?_ _
      clear hHeld
      go_wp2
      go_ret
      exact ⟨Says.no hnx.out, hk.drew⟩

set_option maxRecDepth 100000 in
set_option maxHeartbeats 4000000 in
theorem equal_nd (w : World) (A B : Option Addr) (c d : Nat) (l m : List Nd) (ha : Els ndE 5 w A l) (hb : Els ndE 5 w B m) (hl : l.length ≤ 1048576) (hm : m.length ≤ 1048576) :
    Calls Tryz.prog 23 #[.slice A l.length c, .slice B m.length d] w fun e w' => Says (l = m) e ∧ Only [] w w' := by
  by_cases hne : l.length = m.length
  rotate_left
  · have hn : Hid (¬ l = m) := fun h => hne (by rw [h])
    have d0 : ((l.length : Int) != (m.length : Int)) = true := by simp; omega
    have d1 : ¬ (l.length : Int) = (m.length : Int) := by omega
    clear ha hb
    generalize l.length = nl at *
    generalize m.length = nm at *
    go_enter Tryz.func23, Tryz.ntmps23
    go_wp2
    go_ret
    exact ⟨Says.no hn.out, Only.refl _ _⟩
  have hnm : Hid (m.length = l.length) := hne.symm
  rw [hnm.out] at hm ⊢
  have hlI : (l.length : Int) ≤ 1048576 := by omega
  clear hne
  go_enter Tryz.func23, Tryz.ntmps23
  go_wp2_with fail
  go_loopw [13] (fun i wr => ∃ n : Nat, n ≤ l.length ∧ i = .int .i64 n ∧ Hid (l.take n = m.take n) ∧ Only [] w wr) (fun i _ => l.length - (intOf i).toNat)
  case atStart => exact ⟨0, Nat.zero_le _, rfl, rfl, Only.refl _ _⟩
  case round =>
    obtain ⟨n, hn, rfl, he, hk⟩ := hrel
    by_cases hlt : n < l.length
    rotate_left
    · have hy : Hid (l = m) := by
        have := he.out
        rwa [List.take_of_length_le (by omega), List.take_of_length_le (by have := hnm.out; omega)] at this
      go_wp2
      go_ret
      exact ⟨Says.yes hy.out, hk⟩
    have hltm : n < m.length := by have := hnm.out; omega
    obtain ⟨g, o, rfl, hg, hat⟩ := ha.get hlt
    obtain ⟨g2, o2, rfl, hg2, hat2⟩ := hb.get hltm
    have hr1 := ElsAt.range (hat.kept hk (by simp)) hlt
    have hr2 := ElsAt.range (hat2.kept hk (by simp)) hltm
    have hx : l[n]? = some l[n] := List.getElem?_eq_getElem hlt
    have hy : m[n]? = some m[n] := List.getElem?_eq_getElem hltm
    generalize l[n] = x at *
    generalize m[n] = y at *
    have hneq : Hid (∀ W, (binOp .neq 42 (ndV x) (ndV y)).run Tryz.prog W = .ok (.bool (!decide (x = y))) W) := fun W => neq_of_eql 42 (ndA x) (ndA y) _ (run_eql_nd x y W)
    have hyes := fun e => take_same he.out hx hy e
    have hno := fun e => differ_at hx hy e
    replace hx := Lib.hid hx
    replace hy := Lib.hid hy
    clear hat hat2 ha hb
    by_cases hxy : x = y
    · rw [decide_eq_true hxy] at hneq
      have hnx := Lib.hid (hyes hxy)
      clear hyes hno
      replace hxy := Lib.hid hxy
      go_wp2_with fail
      refine wp_region_held_drew (S := fun w' => w'.rangeAt g (o + n * 5) (ndE x) ∧ w'.rangeAt g2 (o2 + n * 5) (ndE y)) (by kernel_rfl) ⟨hr1, hr2⟩ (fun hHeld => ?_)
      refine held_take 0 (.slice (some ⟨g, o, none⟩) l.length c) rfl (by kernel_rfl) (by kernel_rfl) (by kernel_rfl) (fun _ _ _ h => h) hHeld (Or.inl ⟨by rfl, fun w' hSw => by (try dsimp only at hSw); (try subst hSw); go_simp⟩) ?_
      simp only [Act.put, List.setIfInBounds_toArray, List.set_cons_zero, List.set_cons_succ]
      refine held_take 1 (.int .i64 n) rfl (by kernel_rfl) (by kernel_rfl) (by kernel_rfl) (fun _ _ _ h => h) hHeld (Or.inl ⟨by rfl, fun w' hSw => by (try dsimp only at hSw); (try subst hSw); go_simp⟩) ?_
      simp only [Act.put, List.setIfInBounds_toArray, List.set_cons_zero, List.set_cons_succ]
      refine held_take 2 (.pointer (some ⟨g, o + n * 5, none⟩)) rfl (by kernel_rfl) (by kernel_rfl) (by kernel_rfl) (fun _ _ _ h => h) hHeld (Or.inl ⟨by rfl, fun w' hSw => by (try dsimp only at hSw); (try subst hSw); go_simp⟩) ?_
      simp only [Act.put, List.setIfInBounds_toArray, List.set_cons_zero, List.set_cons_succ]
      refine held_take 3 (ndV x) rfl (by kernel_rfl) (by kernel_rfl) (by kernel_rfl) (fun _ _ _ h => h) hHeld (Or.inl ⟨by rfl, fun w' hSw => ev_load 42 _ rfl g (o + n * 5) rfl (ndE x) _ hSw.1 Tryz.underlying42 rfl size_nd⟩) ?_
      simp only [Act.put, List.setIfInBounds_toArray, List.set_cons_zero, List.set_cons_succ]
      refine held_take 4 (.slice (some ⟨g2, o2, none⟩) l.length d) rfl (by kernel_rfl) (by kernel_rfl) (by kernel_rfl) (fun _ _ _ h => h) hHeld (Or.inl ⟨by rfl, fun w' hSw => by (try dsimp only at hSw); (try subst hSw); go_simp⟩) ?_
      simp only [Act.put, List.setIfInBounds_toArray, List.set_cons_zero, List.set_cons_succ]
      refine held_take 5 (.int .i64 n) rfl (by kernel_rfl) (by kernel_rfl) (by kernel_rfl) (fun _ _ _ h => h) hHeld (Or.inl ⟨by rfl, fun w' hSw => by (try dsimp only at hSw); (try subst hSw); go_simp⟩) ?_
      simp only [Act.put, List.setIfInBounds_toArray, List.set_cons_zero, List.set_cons_succ]
      refine held_take 6 (.pointer (some ⟨g2, o2 + n * 5, none⟩)) rfl (by kernel_rfl) (by kernel_rfl) (by kernel_rfl) (fun _ _ _ h => h) hHeld (Or.inl ⟨by rfl, fun w' hSw => by (try dsimp only at hSw); (try subst hSw); go_simp⟩) ?_
      simp only [Act.put, List.setIfInBounds_toArray, List.set_cons_zero, List.set_cons_succ]
      refine held_take 7 (ndV y) rfl (by kernel_rfl) (by kernel_rfl) (by kernel_rfl) (fun _ _ _ h => h) hHeld (Or.inl ⟨by rfl, fun w' hSw => ev_load 42 _ rfl g2 (o2 + n * 5) rfl (ndE y) _ hSw.2 Tryz.underlying42 rfl size_nd⟩) ?_
      simp only [Act.put, List.setIfInBounds_toArray, List.set_cons_zero, List.set_cons_succ]
      refine held_take 8 (.bool false) rfl (by kernel_rfl) (by kernel_rfl) (by kernel_rfl) (fun _ _ _ h => h) hHeld (Or.inl ⟨by rfl, fun w' hSw => ev_neq 42 _ _ _ rfl (ndA x) (ndA y) rfl rfl _ (run_eqGuard_agg (P := Tryz.prog) w' .neq 42 _ _ (ndA x) (ndA y) (by kernel_rfl)) (hneq.out w')⟩) ?_
      simp only [Act.put, List.setIfInBounds_toArray, List.set_cons_zero, List.set_cons_succ]
      refine wpAnyH_done (by kernel_rfl) ?_ _
      clear hHeld
      go_wp2
      go_roundw
      case rel => exact ⟨n + 1, by omega, by go_num, hnx, hk.drew⟩
      case measure => simp [intOf]; omega
    · rw [decide_eq_false hxy] at hneq
      have hnx := Lib.hid (hno hxy)
      clear hyes hno
      replace hxy := Lib.hid hxy
      go_wp2_with fail
      refine wp_region_held_drew (S := fun w' => w'.rangeAt g (o + n * 5) (ndE x) ∧ w'.rangeAt g2 (o2 + n * 5) (ndE y)) (by kernel_rfl) ⟨hr1, hr2⟩ (fun hHeld => ?_)
      refine held_take 0 (.slice (some ⟨g, o, none⟩) l.length c) rfl (by kernel_rfl) (by kernel_rfl) (by kernel_rfl) (fun _ _ _ h => h) hHeld (Or.inl ⟨by rfl, fun w' hSw => by (try dsimp only at hSw); (try subst hSw); go_simp⟩) ?_
      simp only [Act.put, List.setIfInBounds_toArray, List.set_cons_zero, List.set_cons_succ]
      refine held_take 1 (.int .i64 n) rfl (by kernel_rfl) (by kernel_rfl) (by kernel_rfl) (fun _ _ _ h => h) hHeld (Or.inl ⟨by rfl, fun w' hSw => by (try dsimp only at hSw); (try subst hSw); go_simp⟩) ?_
      simp only [Act.put, List.setIfInBounds_toArray, List.set_cons_zero, List.set_cons_succ]
      refine held_take 2 (.pointer (some ⟨g, o + n * 5, none⟩)) rfl (by kernel_rfl) (by kernel_rfl) (by kernel_rfl) (fun _ _ _ h => h) hHeld (Or.inl ⟨by rfl, fun w' hSw => by (try dsimp only at hSw); (try subst hSw); go_simp⟩) ?_
      simp only [Act.put, List.setIfInBounds_toArray, List.set_cons_zero, List.set_cons_succ]
      refine held_take 3 (ndV x) rfl (by kernel_rfl) (by kernel_rfl) (by kernel_rfl) (fun _ _ _ h => h) hHeld (Or.inl ⟨by rfl, fun w' hSw => ev_load 42 _ rfl g (o + n * 5) rfl (ndE x) _ hSw.1 Tryz.underlying42 rfl size_nd⟩) ?_
      simp only [Act.put, List.setIfInBounds_toArray, List.set_cons_zero, List.set_cons_succ]
      refine held_take 4 (.slice (some ⟨g2, o2, none⟩) l.length d) rfl (by kernel_rfl) (by kernel_rfl) (by kernel_rfl) (fun _ _ _ h => h) hHeld (Or.inl ⟨by rfl, fun w' hSw => by (try dsimp only at hSw); (try subst hSw); go_simp⟩) ?_
      simp only [Act.put, List.setIfInBounds_toArray, List.set_cons_zero, List.set_cons_succ]
      refine held_take 5 (.int .i64 n) rfl (by kernel_rfl) (by kernel_rfl) (by kernel_rfl) (fun _ _ _ h => h) hHeld (Or.inl ⟨by rfl, fun w' hSw => by (try dsimp only at hSw); (try subst hSw); go_simp⟩) ?_
      simp only [Act.put, List.setIfInBounds_toArray, List.set_cons_zero, List.set_cons_succ]
      refine held_take 6 (.pointer (some ⟨g2, o2 + n * 5, none⟩)) rfl (by kernel_rfl) (by kernel_rfl) (by kernel_rfl) (fun _ _ _ h => h) hHeld (Or.inl ⟨by rfl, fun w' hSw => by (try dsimp only at hSw); (try subst hSw); go_simp⟩) ?_
      simp only [Act.put, List.setIfInBounds_toArray, List.set_cons_zero, List.set_cons_succ]
      refine held_take 7 (ndV y) rfl (by kernel_rfl) (by kernel_rfl) (by kernel_rfl) (fun _ _ _ h => h) hHeld (Or.inl ⟨by rfl, fun w' hSw => ev_load 42 _ rfl g2 (o2 + n * 5) rfl (ndE y) _ hSw.2 Tryz.underlying42 rfl size_nd⟩) ?_
      simp only [Act.put, List.setIfInBounds_toArray, List.set_cons_zero, List.set_cons_succ]
      refine held_take 8 (.bool true) rfl (by kernel_rfl) (by kernel_rfl) (by kernel_rfl) (fun _ _ _ h => h) hHeld (Or.inl ⟨by rfl, fun w' hSw => ev_neq 42 _ _ _ rfl (ndA x) (ndA y) rfl rfl _ (run_eqGuard_agg (P := Tryz.prog) w' .neq 42 _ _ (ndA x) (ndA y) (by kernel_rfl)) (hneq.out w')⟩) ?_
      simp only [Act.put, List.setIfInBounds_toArray, List.set_cons_zero, List.set_cons_succ]
      refine wpAnyH_done (by kernel_rfl) ?_ _
      clear hHeld
      go_wp2
      go_ret
      exact ⟨Says.no hnx.out, hk.drew⟩

set_option maxRecDepth 100000 in
set_option maxHeartbeats 4000000 in
theorem equal_op (w : World) (A B : Option Addr) (c d : Nat) (l m : List Opn) (ha : Els opE 5 w A l) (hb : Els opE 5 w B m) (hl : l.length ≤ 1048576) (hm : m.length ≤ 1048576) :
    Calls Tryz.prog 24 #[.slice A l.length c, .slice B m.length d] w fun e w' => Says (l = m) e ∧ Only [] w w' := by
  by_cases hne : l.length = m.length
  rotate_left
  · have hn : Hid (¬ l = m) := fun h => hne (by rw [h])
    have d0 : ((l.length : Int) != (m.length : Int)) = true := by simp; omega
    have d1 : ¬ (l.length : Int) = (m.length : Int) := by omega
    clear ha hb
    generalize l.length = nl at *
    generalize m.length = nm at *
    go_enter Tryz.func24, Tryz.ntmps24
    go_wp2
    go_ret
    exact ⟨Says.no hn.out, Only.refl _ _⟩
  have hnm : Hid (m.length = l.length) := hne.symm
  rw [hnm.out] at hm ⊢
  have hlI : (l.length : Int) ≤ 1048576 := by omega
  clear hne
  go_enter Tryz.func24, Tryz.ntmps24
  go_wp2_with fail
  go_loopw [13] (fun i wr => ∃ n : Nat, n ≤ l.length ∧ i = .int .i64 n ∧ Hid (l.take n = m.take n) ∧ Only [] w wr) (fun i _ => l.length - (intOf i).toNat)
  case atStart => exact ⟨0, Nat.zero_le _, rfl, rfl, Only.refl _ _⟩
  case round =>
    obtain ⟨n, hn, rfl, he, hk⟩ := hrel
    by_cases hlt : n < l.length
    rotate_left
    · have hy : Hid (l = m) := by
        have := he.out
        rwa [List.take_of_length_le (by omega), List.take_of_length_le (by have := hnm.out; omega)] at this
      go_wp2
      go_ret
      exact ⟨Says.yes hy.out, hk⟩
    have hltm : n < m.length := by have := hnm.out; omega
    obtain ⟨g, o, rfl, hg, hat⟩ := ha.get hlt
    obtain ⟨g2, o2, rfl, hg2, hat2⟩ := hb.get hltm
    have hr1 := ElsAt.range (hat.kept hk (by simp)) hlt
    have hr2 := ElsAt.range (hat2.kept hk (by simp)) hltm
    have hx : l[n]? = some l[n] := List.getElem?_eq_getElem hlt
    have hy : m[n]? = some m[n] := List.getElem?_eq_getElem hltm
    generalize l[n] = x at *
    generalize m[n] = y at *
    have hneq : Hid (∀ W, (binOp .neq 61 (opV x) (opV y)).run Tryz.prog W = .ok (.bool (!decide (x = y))) W) := fun W => neq_of_eql 61 (opA x) (opA y) _ (run_eql_op x y W)
    have hyes := fun e => take_same he.out hx hy e
    have hno := fun e => differ_at hx hy e
    replace hx := Lib.hid hx
    replace hy := Lib.hid hy
    clear hat hat2 ha hb
    by_cases hxy : x = y
    · rw [decide_eq_true hxy] at hneq
      have hnx := Lib.hid (hyes hxy)
      clear hyes hno
      replace hxy := Lib.hid hxy
      go_wp2_with fail
      refine wp_region_held_drew (S := fun w' => w'.rangeAt g (o + n * 5) (opE x) ∧ w'.rangeAt g2 (o2 + n * 5) (opE y)) (by kernel_rfl) ⟨hr1, hr2⟩ (fun hHeld => ?_)
      refine held_take 0 (.slice (some ⟨g, o, none⟩) l.length c) rfl (by kernel_rfl) (by kernel_rfl) (by kernel_rfl) (fun _ _ _ h => h) hHeld (Or.inl ⟨by rfl, fun w' hSw => by (try dsimp only at hSw); (try subst hSw); go_simp⟩) ?_
      simp only [Act.put, List.setIfInBounds_toArray, List.set_cons_zero, List.set_cons_succ]
      refine held_take 1 (.int .i64 n) rfl (by kernel_rfl) (by kernel_rfl) (by kernel_rfl) (fun _ _ _ h => h) hHeld (Or.inl ⟨by rfl, fun w' hSw => by (try dsimp only at hSw); (try subst hSw); go_simp⟩) ?_
      simp only [Act.put, List.setIfInBounds_toArray, List.set_cons_zero, List.set_cons_succ]
      refine held_take 2 (.pointer (some ⟨g, o + n * 5, none⟩)) rfl (by kernel_rfl) (by kernel_rfl) (by kernel_rfl) (fun _ _ _ h => h) hHeld (Or.inl ⟨by rfl, fun w' hSw => by (try dsimp only at hSw); (try subst hSw); go_simp⟩) ?_
      simp only [Act.put, List.setIfInBounds_toArray, List.set_cons_zero, List.set_cons_succ]
      refine held_take 3 (opV x) rfl (by kernel_rfl) (by kernel_rfl) (by kernel_rfl) (fun _ _ _ h => h) hHeld (Or.inl ⟨by rfl, fun w' hSw => ev_load 61 _ rfl g (o + n * 5) rfl (opE x) _ hSw.1 Tryz.underlying61 rfl size_op⟩) ?_
      simp only [Act.put, List.setIfInBounds_toArray, List.set_cons_zero, List.set_cons_succ]
      refine held_take 4 (.slice (some ⟨g2, o2, none⟩) l.length d) rfl (by kernel_rfl) (by kernel_rfl) (by kernel_rfl) (fun _ _ _ h => h) hHeld (Or.inl ⟨by rfl, fun w' hSw => by (try dsimp only at hSw); (try subst hSw); go_simp⟩) ?_
      simp only [Act.put, List.setIfInBounds_toArray, List.set_cons_zero, List.set_cons_succ]
      refine held_take 5 (.int .i64 n) rfl (by kernel_rfl) (by kernel_rfl) (by kernel_rfl) (fun _ _ _ h => h) hHeld (Or.inl ⟨by rfl, fun w' hSw => by (try dsimp only at hSw); (try subst hSw); go_simp⟩) ?_
      simp only [Act.put, List.setIfInBounds_toArray, List.set_cons_zero, List.set_cons_succ]
      refine held_take 6 (.pointer (some ⟨g2, o2 + n * 5, none⟩)) rfl (by kernel_rfl) (by kernel_rfl) (by kernel_rfl) (fun _ _ _ h => h) hHeld (Or.inl ⟨by rfl, fun w' hSw => by (try dsimp only at hSw); (try subst hSw); go_simp⟩) ?_
      simp only [Act.put, List.setIfInBounds_toArray, List.set_cons_zero, List.set_cons_succ]
      refine held_take 7 (opV y) rfl (by kernel_rfl) (by kernel_rfl) (by kernel_rfl) (fun _ _ _ h => h) hHeld (Or.inl ⟨by rfl, fun w' hSw => ev_load 61 _ rfl g2 (o2 + n * 5) rfl (opE y) _ hSw.2 Tryz.underlying61 rfl size_op⟩) ?_
      simp only [Act.put, List.setIfInBounds_toArray, List.set_cons_zero, List.set_cons_succ]
      refine held_take 8 (.bool false) rfl (by kernel_rfl) (by kernel_rfl) (by kernel_rfl) (fun _ _ _ h => h) hHeld (Or.inl ⟨by rfl, fun w' hSw => ev_neq 61 _ _ _ rfl (opA x) (opA y) rfl rfl _ (run_eqGuard_agg (P := Tryz.prog) w' .neq 61 _ _ (opA x) (opA y) (by kernel_rfl)) (hneq.out w')⟩) ?_
      simp only [Act.put, List.setIfInBounds_toArray, List.set_cons_zero, List.set_cons_succ]
      refine wpAnyH_done (by kernel_rfl) ?_ _
      clear hHeld
      go_wp2
      go_roundw
      case rel => exact ⟨n + 1, by omega, by go_num, hnx, hk.drew⟩
      case measure => simp [intOf]; omega
    · rw [decide_eq_false hxy] at hneq
      have hnx := Lib.hid (hno hxy)
      clear hyes hno
      replace hxy := Lib.hid hxy
      go_wp2_with fail
      refine wp_region_held_drew (S := fun w' => w'.rangeAt g (o + n * 5) (opE x) ∧ w'.rangeAt g2 (o2 + n * 5) (opE y)) (by kernel_rfl) ⟨hr1, hr2⟩ (fun hHeld => ?_)
      refine held_take 0 (.slice (some ⟨g, o, none⟩) l.length c) rfl (by kernel_rfl) (by kernel_rfl) (by kernel_rfl) (fun _ _ _ h => h) hHeld (Or.inl ⟨by rfl, fun w' hSw => by (try dsimp only at hSw); (try subst hSw); go_simp⟩) ?_
      simp only [Act.put, List.setIfInBounds_toArray, List.set_cons_zero, List.set_cons_succ]
      refine held_take 1 (.int .i64 n) rfl (by kernel_rfl) (by kernel_rfl) (by kernel_rfl) (fun _ _ _ h => h) hHeld (Or.inl ⟨by rfl, fun w' hSw => by (try dsimp only at hSw); (try subst hSw); go_simp⟩) ?_
      simp only [Act.put, List.setIfInBounds_toArray, List.set_cons_zero, List.set_cons_succ]
      refine held_take 2 (.pointer (some ⟨g, o + n * 5, none⟩)) rfl (by kernel_rfl) (by kernel_rfl) (by kernel_rfl) (fun _ _ _ h => h) hHeld (Or.inl ⟨by rfl, fun w' hSw => by (try dsimp only at hSw); (try subst hSw); go_simp⟩) ?_
      simp only [Act.put, List.setIfInBounds_toArray, List.set_cons_zero, List.set_cons_succ]
      refine held_take 3 (opV x) rfl (by kernel_rfl) (by kernel_rfl) (by kernel_rfl) (fun _ _ _ h => h) hHeld (Or.inl ⟨by rfl, fun w' hSw => ev_load 61 _ rfl g (o + n * 5) rfl (opE x) _ hSw.1 Tryz.underlying61 rfl size_op⟩) ?_
      simp only [Act.put, List.setIfInBounds_toArray, List.set_cons_zero, List.set_cons_succ]
      refine held_take 4 (.slice (some ⟨g2, o2, none⟩) l.length d) rfl (by kernel_rfl) (by kernel_rfl) (by kernel_rfl) (fun _ _ _ h => h) hHeld (Or.inl ⟨by rfl, fun w' hSw => by (try dsimp only at hSw); (try subst hSw); go_simp⟩) ?_
      simp only [Act.put, List.setIfInBounds_toArray, List.set_cons_zero, List.set_cons_succ]
      refine held_take 5 (.int .i64 n) rfl (by kernel_rfl) (by kernel_rfl) (by kernel_rfl) (fun _ _ _ h => h) hHeld (Or.inl ⟨by rfl, fun w' hSw => by (try dsimp only at hSw); (try subst hSw); go_simp⟩) ?_
      simp only [Act.put, List.setIfInBounds_toArray, List.set_cons_zero, List.set_cons_succ]
      refine held_take 6 (.pointer (some ⟨g2, o2 + n * 5, none⟩)) rfl (by kernel_rfl) (by kernel_rfl) (by kernel_rfl) (fun _ _ _ h => h) hHeld (Or.inl ⟨by rfl, fun w' hSw => by (try dsimp only at hSw); (try subst hSw); go_simp⟩) ?_
      simp only [Act.put, List.setIfInBounds_toArray, List.set_cons_zero, List.set_cons_succ]
      refine held_take 7 (opV y) rfl (by kernel_rfl) (by kernel_rfl) (by kernel_rfl) (fun _ _ _ h => h) hHeld (Or.inl ⟨by rfl, fun w' hSw => ev_load 61 _ rfl g2 (o2 + n * 5) rfl (opE y) _ hSw.2 Tryz.underlying61 rfl size_op⟩) ?_
      simp only [Act.put, List.setIfInBounds_toArray, List.set_cons_zero, List.set_cons_succ]
      refine held_take 8 (.bool true) rfl (by kernel_rfl) (by kernel_rfl) (by kernel_rfl) (fun _ _ _ h => h) hHeld (Or.inl ⟨by rfl, fun w' hSw => ev_neq 61 _ _ _ rfl (opA x) (opA y) rfl rfl _ (run_eqGuard_agg (P := Tryz.prog) w' .neq 61 _ _ (opA x) (opA y) (by kernel_rfl)) (hneq.out w')⟩) ?_
      simp only [Act.put, List.setIfInBounds_toArray, List.set_cons_zero, List.set_cons_succ]
      refine wpAnyH_done (by kernel_rfl) ?_ _
      clear hHeld
      go_wp2
      go_ret
      exact ⟨Says.no hnx.out, hk.drew⟩

set_option maxRecDepth 100000 in
set_option maxHeartbeats 4000000 in
theorem equal_sea (w : World) (A B : Option Addr) (c d : Nat) (l m : List Sea) (ha : Els seaE 21 w A l) (hb : Els seaE 21 w B m) (hl : l.length ≤ 1048576) (hm : m.length ≤ 1048576) :
    Calls Tryz.prog 28 #[.slice A l.length c, .slice B m.length d] w fun e w' => Says (l = m) e ∧ Only [] w w' := by
  by_cases hne : l.length = m.length
  rotate_left
  · have hn : Hid (¬ l = m) := fun h => hne (by rw [h])
    have d0 : ((l.length : Int) != (m.length : Int)) = true := by simp; omega
    have d1 : ¬ (l.length : Int) = (m.length : Int) := by omega
    clear ha hb
    generalize l.length = nl at *
    generalize m.length = nm at *
    go_enter Tryz.func28, Tryz.ntmps28
    go_wp2
    go_ret
    exact ⟨Says.no hn.out, Only.refl _ _⟩
  have hnm : Hid (m.length = l.length) := hne.symm
  rw [hnm.out] at hm ⊢
  have hlI : (l.length : Int) ≤ 1048576 := by omega
  clear hne
  go_enter Tryz.func28, Tryz.ntmps28
  go_wp2_with fail
  go_loopw [13] (fun i wr => ∃ n : Nat, n ≤ l.length ∧ i = .int .i64 n ∧ Hid (l.take n = m.take n) ∧ Only [] w wr) (fun i _ => l.length - (intOf i).toNat)
  case atStart => exact ⟨0, Nat.zero_le _, rfl, rfl, Only.refl _ _⟩
  case round =>
    obtain ⟨n, hn, rfl, he, hk⟩ := hrel
    by_cases hlt : n < l.length
    rotate_left
    · have hy : Hid (l = m) := by
        have := he.out
        rwa [List.take_of_length_le (by omega), List.take_of_length_le (by have := hnm.out; omega)] at this
      go_wp2
      go_ret
      exact ⟨Says.yes hy.out, hk⟩
    have hltm : n < m.length := by have := hnm.out; omega
    obtain ⟨g, o, rfl, hg, hat⟩ := ha.get hlt
    obtain ⟨g2, o2, rfl, hg2, hat2⟩ := hb.get hltm
    have hr1 := ElsAt.range (hat.kept hk (by simp)) hlt
    have hr2 := ElsAt.range (hat2.kept hk (by simp)) hltm
    have hx : l[n]? = some l[n] := List.getElem?_eq_getElem hlt
    have hy : m[n]? = some m[n] := List.getElem?_eq_getElem hltm
    generalize l[n] = x at *
    generalize m[n] = y at *
    have hneq : Hid (∀ W, (binOp .neq 56 (seaV x) (seaV y)).run Tryz.prog W = .ok (.bool (!decide (x = y))) W) := fun W => neq_of_eql 56 (seaA x) (seaA y) _ (run_eql_sea x y W)
    have hyes := fun e => take_same he.out hx hy e
    have hno := fun e => differ_at hx hy e
    replace hx := Lib.hid hx
    replace hy := Lib.hid hy
    clear hat hat2 ha hb
    by_cases hxy : x = y
    · rw [decide_eq_true hxy] at hneq
      have hnx := Lib.hid (hyes hxy)
      clear hyes hno
      replace hxy := Lib.hid hxy
      go_wp2_with fail
      refine wp_region_held_drew (S := fun w' => w'.rangeAt g (o + n * 21) (seaE x) ∧ w'.rangeAt g2 (o2 + n * 21) (seaE y)) (by kernel_rfl) ⟨hr1, hr2⟩ (fun hHeld => ?_)
      refine held_take 0 (.slice (some ⟨g, o, none⟩) l.length c) rfl (by kernel_rfl) (by kernel_rfl) (by kernel_rfl) (fun _ _ _ h => h) hHeld (Or.inl ⟨by rfl, fun w' hSw => by (try dsimp only at hSw); (try subst hSw); go_simp⟩) ?_
      simp only [Act.put, List.setIfInBounds_toArray, List.set_cons_zero, List.set_cons_succ]
      refine held_take 1 (.int .i64 n) rfl (by kernel_rfl) (by kernel_rfl) (by kernel_rfl) (fun _ _ _ h => h) hHeld (Or.inl ⟨by rfl, fun w' hSw => by (try dsimp only at hSw); (try subst hSw); go_simp⟩) ?_
      simp only [Act.put, List.setIfInBounds_toArray, List.set_cons_zero, List.set_cons_succ]
      refine held_take 2 (.pointer (some ⟨g, o + n * 21, none⟩)) rfl (by kernel_rfl) (by kernel_rfl) (by kernel_rfl) (fun _ _ _ h => h) hHeld (Or.inl ⟨by rfl, fun w' hSw => by (try dsimp only at hSw); (try subst hSw); go_simp⟩) ?_
      simp only [Act.put, List.setIfInBounds_toArray, List.set_cons_zero, List.set_cons_succ]
      refine held_take 3 (seaV x) rfl (by kernel_rfl) (by kernel_rfl) (by kernel_rfl) (fun _ _ _ h => h) hHeld (Or.inl ⟨by rfl, fun w' hSw => ev_load 56 _ rfl g (o + n * 21) rfl (seaE x) _ hSw.1 Tryz.underlying56 rfl size_sea⟩) ?_
      simp only [Act.put, List.setIfInBounds_toArray, List.set_cons_zero, List.set_cons_succ]
      refine held_take 4 (.slice (some ⟨g2, o2, none⟩) l.length d) rfl (by kernel_rfl) (by kernel_rfl) (by kernel_rfl) (fun _ _ _ h => h) hHeld (Or.inl ⟨by rfl, fun w' hSw => by (try dsimp only at hSw); (try subst hSw); go_simp⟩) ?_
      simp only [Act.put, List.setIfInBounds_toArray, List.set_cons_zero, List.set_cons_succ]
      refine held_take 5 (.int .i64 n) rfl (by kernel_rfl) (by kernel_rfl) (by kernel_rfl) (fun _ _ _ h => h) hHeld (Or.inl ⟨by rfl, fun w' hSw => by (try dsimp only at hSw); (try subst hSw); go_simp⟩) ?_
      simp only [Act.put, List.setIfInBounds_toArray, List.set_cons_zero, List.set_cons_succ]
      refine held_take 6 (.pointer (some ⟨g2, o2 + n * 21, none⟩)) rfl (by kernel_rfl) (by kernel_rfl) (by kernel_rfl) (fun _ _ _ h => h) hHeld (Or.inl ⟨by rfl, fun w' hSw => by (try dsimp only at hSw); (try subst hSw); go_simp⟩) ?_
      simp only [Act.put, List.setIfInBounds_toArray, List.set_cons_zero, List.set_cons_succ]
      refine held_take 7 (seaV y) rfl (by kernel_rfl) (by kernel_rfl) (by kernel_rfl) (fun _ _ _ h => h) hHeld (Or.inl ⟨by rfl, fun w' hSw => ev_load 56 _ rfl g2 (o2 + n * 21) rfl (seaE y) _ hSw.2 Tryz.underlying56 rfl size_sea⟩) ?_
      simp only [Act.put, List.setIfInBounds_toArray, List.set_cons_zero, List.set_cons_succ]
      refine held_take 8 (.bool false) rfl (by kernel_rfl) (by kernel_rfl) (by kernel_rfl) (fun _ _ _ h => h) hHeld (Or.inl ⟨by rfl, fun w' hSw => ev_neq 56 _ _ _ rfl (seaA x) (seaA y) rfl rfl _ (run_eqGuard_agg (P := Tryz.prog) w' .neq 56 _ _ (seaA x) (seaA y) (by kernel_rfl)) (hneq.out w')⟩) ?_
      simp only [Act.put, List.setIfInBounds_toArray, List.set_cons_zero, List.set_cons_succ]
      refine wpAnyH_done (by kernel_rfl) ?_ _
      clear hHeld
      go_wp2
      go_roundw
      case rel => exact ⟨n + 1, by omega, by go_num, hnx, hk.drew⟩
      case measure => simp [intOf]; omega
    · rw [decide_eq_false hxy] at hneq
      have hnx := Lib.hid (hno hxy)
      clear hyes hno
      replace hxy := Lib.hid hxy
      go_wp2_with fail
      refine wp_region_held_drew (S := fun w' => w'.rangeAt g (o + n * 21) (seaE x) ∧ w'.rangeAt g2 (o2 + n * 21) (seaE y)) (by kernel_rfl) ⟨hr1, hr2⟩ (fun hHeld => ?_)
      refine held_take 0 (.slice (some ⟨g, o, none⟩) l.length c) rfl (by kernel_rfl) (by kernel_rfl) (by kernel_rfl) (fun _ _ _ h => h) hHeld (Or.inl ⟨by rfl, fun w' hSw => by (try dsimp only at hSw); (try subst hSw); go_simp⟩) ?_
      simp only [Act.put, List.setIfInBounds_toArray, List.set_cons_zero, List.set_cons_succ]
      refine held_take 1 (.int .i64 n) rfl (by kernel_rfl) (by kernel_rfl) (by kernel_rfl) (fun _ _ _ h => h) hHeld (Or.inl ⟨by rfl, fun w' hSw => by (try dsimp only at hSw); (try subst hSw); go_simp⟩) ?_
      simp only [Act.put, List.setIfInBounds_toArray, List.set_cons_zero, List.set_cons_succ]
      refine held_take 2 (.pointer (some ⟨g, o + n * 21, none⟩)) rfl (by kernel_rfl) (by kernel_rfl) (by kernel_rfl) (fun _ _ _ h => h) hHeld (Or.inl ⟨by rfl, fun w' hSw => by (try dsimp only at hSw); (try subst hSw); go_simp⟩) ?_
      simp only [Act.put, List.setIfInBounds_toArray, List.set_cons_zero, List.set_cons_succ]
      refine held_take 3 (seaV x) rfl (by kernel_rfl) (by kernel_rfl) (by kernel_rfl) (fun _ _ _ h => h) hHeld (Or.inl ⟨by rfl, fun w' hSw => ev_load 56 _ rfl g (o + n * 21) rfl (seaE x) _ hSw.1 Tryz.underlying56 rfl size_sea⟩) ?_
      simp only [Act.put, List.setIfInBounds_toArray, List.set_cons_zero, List.set_cons_succ]
      refine held_take 4 (.slice (some ⟨g2, o2, none⟩) l.length d) rfl (by kernel_rfl) (by kernel_rfl) (by kernel_rfl) (fun _ _ _ h => h) hHeld (Or.inl ⟨by rfl, fun w' hSw => by (try dsimp only at hSw); (try subst hSw); go_simp⟩) ?_
      simp only [Act.put, List.setIfInBounds_toArray, List.set_cons_zero, List.set_cons_succ]
      refine held_take 5 (.int .i64 n) rfl (by kernel_rfl) (by kernel_rfl) (by kernel_rfl) (fun _ _ _ h => h) hHeld (Or.inl ⟨by rfl, fun w' hSw => by (try dsimp only at hSw); (try subst hSw); go_simp⟩) ?_
      simp only [Act.put, List.setIfInBounds_toArray, List.set_cons_zero, List.set_cons_succ]
      refine held_take 6 (.pointer (some ⟨g2, o2 + n * 21, none⟩)) rfl (by kernel_rfl) (by kernel_rfl) (by kernel_rfl) (fun _ _ _ h => h) hHeld (Or.inl ⟨by rfl, fun w' hSw => by (try dsimp only at hSw); (try subst hSw); go_simp⟩) ?_
      simp only [Act.put, List.setIfInBounds_toArray, List.set_cons_zero, List.set_cons_succ]
      refine held_take 7 (seaV y) rfl (by kernel_rfl) (by kernel_rfl) (by kernel_rfl) (fun _ _ _ h => h) hHeld (Or.inl ⟨by rfl, fun w' hSw => ev_load 56 _ rfl g2 (o2 + n * 21) rfl (seaE y) _ hSw.2 Tryz.underlying56 rfl size_sea⟩) ?_
      simp only [Act.put, List.setIfInBounds_toArray, List.set_cons_zero, List.set_cons_succ]
      refine held_take 8 (.bool true) rfl (by kernel_rfl) (by kernel_rfl) (by kernel_rfl) (fun _ _ _ h => h) hHeld (Or.inl ⟨by rfl, fun w' hSw => ev_neq 56 _ _ _ rfl (seaA x) (seaA y) rfl rfl _ (run_eqGuard_agg (P := Tryz.prog) w' .neq 56 _ _ (seaA x) (seaA y) (by kernel_rfl)) (hneq.out w')⟩) ?_
      simp only [Act.put, List.setIfInBounds_toArray, List.set_cons_zero, List.set_cons_succ]
      refine wpAnyH_done (by kernel_rfl) ?_ _
      clear hHeld
      go_wp2
      go_ret
      exact ⟨Says.no hnx.out, hk.drew⟩

end Go.Proofs.YtalkhhjfplahkaaGreat
