/- The law's comparison of rows. -/
import Derived.Test.YtalkhhjfplahkaaGreatKLeq14
namespace Go.Proofs.YtalkhhjfplahkaaGreat
open Go.RowKit
set_option linter.unusedVariables false

set_option maxRecDepth 100000 in
set_option maxHeartbeats 8000000 in
theorem lsame_any (w : World) (A B : Option Addr) (c d : Nat) (l m : List Ch) (ha : Els chE 3 w A l) (hb : Els chE 3 w B m) (hl : l.length ≤ 1048576) (hm : m.length ≤ 1048576) :
    Calls Tryz.prog 9 #[.slice A l.length c, .slice B m.length d] w fun e w' => Says (l = m) e ∧ Only [] w w' := by
  by_cases hne : l.length = m.length
  rotate_left
  · have hn : Hid (¬ l = m) := fun h => hne (by rw [h])
    have d0 : ((l.length : Int) != (m.length : Int)) = true := by simp; omega
    have d1 : ¬ (l.length : Int) = (m.length : Int) := by omega
    clear ha hb
    generalize l.length = nl at *
    generalize m.length = nm at *
    go_enter Tryz.func9, Tryz.ntmps9
    go_wp2
    go_ret
    exact ⟨Says.no hn.out, Only.refl _ _⟩
  have hnm : Hid (m.length = l.length) := hne.symm
  rw [hnm.out] at hm ⊢
  have hlI : (l.length : Int) ≤ 1048576 := by omega
  clear hne
  go_enter Tryz.func9, Tryz.ntmps9
  go_wp2_with fail
  go_loopw [5] (fun i wr => ∃ n : Nat, n ≤ l.length ∧ i = .int .i64 n ∧ Hid (l.take n = m.take n) ∧ Only [] w wr) (fun i _ => l.length - (intOf i).toNat)
  case atStart => exact ⟨0, Nat.zero_le _, rfl, rfl, Only.refl _ _⟩
  case round =>
    obtain ⟨n, hn, rfl, he, hk⟩ := hrel
    by_cases hlt : n < l.length
    rotate_left
    · have hy : Hid (l = m) := by
        have := he.out
        rwa [List.take_of_length_le (by omega), List.take_of_length_le (by have := hnm.out; omega)] at this
      go_wp2
      go_ret
      exact ⟨Says.yes hy.out, hk⟩
    have hltm : n < m.length := by have := hnm.out; omega
    obtain ⟨g, o, rfl, hg, hat⟩ := ha.get hlt
    obtain ⟨g2, o2, rfl, hg2, hat2⟩ := hb.get hltm
    have hr1 := ElsAt.range (hat.kept hk (by simp)) hlt
    have hr2 := ElsAt.range (hat2.kept hk (by simp)) hltm
    have hx : l[n]? = some l[n] := List.getElem?_eq_getElem hlt
    have hy : m[n]? = some m[n] := List.getElem?_eq_getElem hltm
    generalize l[n] = x at *
    generalize m[n] = y at *
    have hneq : Hid (∀ W, (binOp .neq 48 (chV x) (chV y)).run Tryz.prog W = .ok (.bool (!decide (x = y))) W) := fun W => neq_of_eql 48 (chA x) (chA y) _ (run_eql_ch x y W)
    have hyes := fun e => take_same he.out hx hy e
    have hno := fun e => differ_at hx hy e
    replace hx := Lib.hid hx
    replace hy := Lib.hid hy
    clear hat hat2 ha hb
    by_cases hxy : x = y
    · rw [decide_eq_true hxy] at hneq
      have hnx := Lib.hid (hyes hxy)
      clear hyes hno
      replace hxy := Lib.hid hxy
      go_wp2_with fail
      refine wp_region_held_drew (S := fun w' => w'.rangeAt g (o + n * 3) (chE x) ∧ w'.rangeAt g2 (o2 + n * 3) (chE y)) (by kernel_rfl) ⟨hr1, hr2⟩ (fun hHeld => ?_)
      refine held_take 0 (.slice (some ⟨g, o, none⟩) l.length c) rfl (by kernel_rfl) (by kernel_rfl) (by kernel_rfl) (fun _ _ _ h => h) hHeld (Or.inl ⟨by rfl, fun w' hSw => by (try dsimp only at hSw); (try subst hSw); go_simp⟩) ?_
      simp only [Act.put, List.setIfInBounds_toArray, List.set_cons_zero, List.set_cons_succ]
      refine held_take 1 (.int .i64 n) rfl (by kernel_rfl) (by kernel_rfl) (by kernel_rfl) (fun _ _ _ h => h) hHeld (Or.inl ⟨by rfl, fun w' hSw => by (try dsimp only at hSw); (try subst hSw); go_simp⟩) ?_
      simp only [Act.put, List.setIfInBounds_toArray, List.set_cons_zero, List.set_cons_succ]
      refine held_take 2 (.pointer (some ⟨g, o + n * 3, none⟩)) rfl (by kernel_rfl) (by kernel_rfl) (by kernel_rfl) (fun _ _ _ h => h) hHeld (Or.inl ⟨by rfl, fun w' hSw => by (try dsimp only at hSw); (try subst hSw); go_simp⟩) ?_
      simp only [Act.put, List.setIfInBounds_toArray, List.set_cons_zero, List.set_cons_succ]
      refine held_take 3 (chV x) rfl (by kernel_rfl) (by kernel_rfl) (by kernel_rfl) (fun _ _ _ h => h) hHeld (Or.inl ⟨by rfl, fun w' hSw => ev_load 48 _ rfl g (o + n * 3) rfl (chE x) _ hSw.1 Tryz.underlying48 rfl size_ch⟩) ?_
      simp only [Act.put, List.setIfInBounds_toArray, List.set_cons_zero, List.set_cons_succ]
      refine held_take 4 (.slice (some ⟨g2, o2, none⟩) l.length d) rfl (by kernel_rfl) (by kernel_rfl) (by kernel_rfl) (fun _ _ _ h => h) hHeld (Or.inl ⟨by rfl, fun w' hSw => by (try dsimp only at hSw); (try subst hSw); go_simp⟩) ?_
      simp only [Act.put, List.setIfInBounds_toArray, List.set_cons_zero, List.set_cons_succ]
      refine held_take 5 (.int .i64 n) rfl (by kernel_rfl) (by kernel_rfl) (by kernel_rfl) (fun _ _ _ h => h) hHeld (Or.inl ⟨by rfl, fun w' hSw => by (try dsimp only at hSw); (try subst hSw); go_simp⟩) ?_
      simp only [Act.put, List.setIfInBounds_toArray, List.set_cons_zero, List.set_cons_succ]
      refine held_take 6 (.pointer (some ⟨g2, o2 + n * 3, none⟩)) rfl (by kernel_rfl) (by kernel_rfl) (by kernel_rfl) (fun _ _ _ h => h) hHeld (Or.inl ⟨by rfl, fun w' hSw => by (try dsimp only at hSw); (try subst hSw); go_simp⟩) ?_
      simp only [Act.put, List.setIfInBounds_toArray, List.set_cons_zero, List.set_cons_succ]
      refine held_take 7 (chV y) rfl (by kernel_rfl) (by kernel_rfl) (by kernel_rfl) (fun _ _ _ h => h) hHeld (Or.inl ⟨by rfl, fun w' hSw => ev_load 48 _ rfl g2 (o2 + n * 3) rfl (chE y) _ hSw.2 Tryz.underlying48 rfl size_ch⟩) ?_
      simp only [Act.put, List.setIfInBounds_toArray, List.set_cons_zero, List.set_cons_succ]
      refine held_take 8 (.bool false) rfl (by kernel_rfl) (by kernel_rfl) (by kernel_rfl) (fun _ _ _ h => h) hHeld (Or.inl ⟨by rfl, fun w' hSw => ev_neq 48 _ _ _ rfl (chA x) (chA y) rfl rfl _ (run_eqGuard_agg (P := Tryz.prog) w' .neq 48 _ _ (chA x) (chA y) (by kernel_rfl)) (hneq.out w')⟩) ?_
      simp only [Act.put, List.setIfInBounds_toArray, List.set_cons_zero, List.set_cons_succ]
      refine wpAnyH_done (by kernel_rfl) ?_ _
      clear hHeld
      go_wp2
      go_roundw
      case rel => exact ⟨n + 1, by omega, by go_num, hnx, hk.drew⟩
      case measure => simp [intOf]; omega
    · rw [decide_eq_false hxy] at hneq
      have hnx := Lib.hid (hno hxy)
      clear hyes hno
      replace hxy := Lib.hid hxy
      go_wp2_with fail
      refine wp_region_held_drew (S := fun w' => w'.rangeAt g (o + n * 3) (chE x) ∧ w'.rangeAt g2 (o2 + n * 3) (chE y)) (by kernel_rfl) ⟨hr1, hr2⟩ (fun hHeld => ?_)
      refine held_take 0 (.slice (some ⟨g, o, none⟩) l.length c) rfl (by kernel_rfl) (by kernel_rfl) (by kernel_rfl) (fun _ _ _ h => h) hHeld (Or.inl ⟨by rfl, fun w' hSw => by (try dsimp only at hSw); (try subst hSw); go_simp⟩) ?_
      simp only [Act.put, List.setIfInBounds_toArray, List.set_cons_zero, List.set_cons_succ]
      refine held_take 1 (.int .i64 n) rfl (by kernel_rfl) (by kernel_rfl) (by kernel_rfl) (fun _ _ _ h => h) hHeld (Or.inl ⟨by rfl, fun w' hSw => by (try dsimp only at hSw); (try subst hSw); go_simp⟩) ?_
      simp only [Act.put, List.setIfInBounds_toArray, List.set_cons_zero, List.set_cons_succ]
      refine held_take 2 (.pointer (some ⟨g, o + n * 3, none⟩)) rfl (by kernel_rfl) (by kernel_rfl) (by kernel_rfl) (fun _ _ _ h => h) hHeld (Or.inl ⟨by rfl, fun w' hSw => by (try dsimp only at hSw); (try subst hSw); go_simp⟩) ?_
      simp only [Act.put, List.setIfInBounds_toArray, List.set_cons_zero, List.set_cons_succ]
      refine held_take 3 (chV x) rfl (by kernel_rfl) (by kernel_rfl) (by kernel_rfl) (fun _ _ _ h => h) hHeld (Or.inl ⟨by rfl, fun w' hSw => ev_load 48 _ rfl g (o + n * 3) rfl (chE x) _ hSw.1 Tryz.underlying48 rfl size_ch⟩) ?_
      simp only [Act.put, List.setIfInBounds_toArray, List.set_cons_zero, List.set_cons_succ]
      refine held_take 4 (.slice (some ⟨g2, o2, none⟩) l.length d) rfl (by kernel_rfl) (by kernel_rfl) (by kernel_rfl) (fun _ _ _ h => h) hHeld (Or.inl ⟨by rfl, fun w' hSw => by (try dsimp only at hSw); (try subst hSw); go_simp⟩) ?_
      simp only [Act.put, List.setIfInBounds_toArray, List.set_cons_zero, List.set_cons_succ]
      refine held_take 5 (.int .i64 n) rfl (by kernel_rfl) (by kernel_rfl) (by kernel_rfl) (fun _ _ _ h => h) hHeld (Or.inl ⟨by rfl, fun w' hSw => by (try dsimp only at hSw); (try subst hSw); go_simp⟩) ?_
      simp only [Act.put, List.setIfInBounds_toArray, List.set_cons_zero, List.set_cons_succ]
      refine held_take 6 (.pointer (some ⟨g2, o2 + n * 3, none⟩)) rfl (by kernel_rfl) (by kernel_rfl) (by kernel_rfl) (fun _ _ _ h => h) hHeld (Or.inl ⟨by rfl, fun w' hSw => by (try dsimp only at hSw); (try subst hSw); go_simp⟩) ?_
      simp only [Act.put, List.setIfInBounds_toArray, List.set_cons_zero, List.set_cons_succ]
      refine held_take 7 (chV y) rfl (by kernel_rfl) (by kernel_rfl) (by kernel_rfl) (fun _ _ _ h => h) hHeld (Or.inl ⟨by rfl, fun w' hSw => ev_load 48 _ rfl g2 (o2 + n * 3) rfl (chE y) _ hSw.2 Tryz.underlying48 rfl size_ch⟩) ?_
      simp only [Act.put, List.setIfInBounds_toArray, List.set_cons_zero, List.set_cons_succ]
      refine held_take 8 (.bool true) rfl (by kernel_rfl) (by kernel_rfl) (by kernel_rfl) (fun _ _ _ h => h) hHeld (Or.inl ⟨by rfl, fun w' hSw => ev_neq 48 _ _ _ rfl (chA x) (chA y) rfl rfl _ (run_eqGuard_agg (P := Tryz.prog) w' .neq 48 _ _ (chA x) (chA y) (by kernel_rfl)) (hneq.out w')⟩) ?_
      simp only [Act.put, List.setIfInBounds_toArray, List.set_cons_zero, List.set_cons_succ]
      refine wpAnyH_done (by kernel_rfl) ?_ _
      clear hHeld
      go_wp2
      go_ret
      exact ⟨Says.no hnx.out, hk.drew⟩

end Go.Proofs.YtalkhhjfplahkaaGreat
