/- Acts on both: a commit; what only reads. -/
import Derived.Test.YthpjkhmkjhgbkaaGreatDoorDu8
namespace Go.Proofs.YthpjkhmkjhgbkaaGreatDoor
open Go.RowKit Go.Maps

set_option maxRecDepth 100000 in
set_option maxHeartbeats 4000000 in
theorem duoCom_any (w w1 : World) (bp p m N k : Nat) (kind num : Int) (keep : Nat) (raw : List UInt8) (A : Option Addr) (c : Nat) (l : List Ch) (h : Duo5 w w1 bp p m N k) (hk : k ≤ 900) (hb : Els chE 3 w A l) (hok : okayC l) (hl : l.length ≤ 9223372036854775807) (hc : l.length ≤ c) (hkind : kind.tmod 6 = 0) :
    Calls Tryz.prog 14 #[.pointer (some ⟨bp, 0, none⟩), .agg #[.int .i64 kind, .int .i64 num, .int .u64 (keep : Int), .string (strOf raw), .slice A l.length c]] w1 fun e w' => e = .returned (.bool true) ∧ Duo5 w w' bp p m N (k + 1) := by
  generalize strOf raw = rs at *
  cases h with
  | none F G s t h0 like len late =>
    have ka : Only [] w1 (w1.alloc (.cells #[.int .i64 kind, .int .i64 num, .int .u64 (keep : Int), .string rs, .slice A l.length c] 39)) := (Only.refl [] w1).alloc _
    have ba : Blk (w1.alloc (.cells #[.int .i64 kind, .int .i64 num, .int .u64 (keep : Int), .string rs, .slice A l.length c] 39)) w1.heap.size 39 #[.int .i64 kind, .int .i64 num, .int .u64 (keep : Int), .string rs, .slice A l.length c] := Blk.new _ _ _
    have h2 := h0.keep ka
    obtain ⟨q, hq⟩ : ∃ q, q = w1.heap.size := ⟨_, rfl⟩
    rw [← hq] at ba
    replace like := Lib.hid like
    replace late := Lib.hid late
    replace len := Lib.hid len
    obtain ⟨c0, c1, c2, c3, c4⟩ := h2.cells
    have d0 := ba.cell 0
    have d1 := ba.cell 1
    have d2 := ba.cell 2
    have d3 := ba.cell 3
    have d4 := ba.cell 4
    simp only [List.getElem?_toArray, List.getElem?_cons_zero, List.getElem?_cons_succ] at d0 d1 d2 d3 d4
    go_enter Tryz.func14, Tryz.ntmps14
    go_wp2_with fail
    simp only [← hq]
    generalize w1.alloc (.cells #[.int .i64 kind, .int .i64 num, .int .u64 (keep : Int), .string rs, .slice A l.length c] 39) = W at *
    clear h0 ka hq

    clear d0 d1 d2 d3 c0 c1 c2 c4
    have hfin := Duo5.none (k := k + 1) F G s t h2 like.out len.out (by have := late.out; omega)
    replace hfin := Lib.hid hfin
    go_wp2
    go_ret
    exact ⟨rfl, hfin.out⟩
  | some F G s t lp xp rp mb n f M v4 h0 rest like len late few big good =>
    have ka : Only [] w1 (w1.alloc (.cells #[.int .i64 kind, .int .i64 num, .int .u64 (keep : Int), .string rs, .slice A l.length c] 39)) := (Only.refl [] w1).alloc _
    have ba : Blk (w1.alloc (.cells #[.int .i64 kind, .int .i64 num, .int .u64 (keep : Int), .string rs, .slice A l.length c] 39)) w1.heap.size 39 #[.int .i64 kind, .int .i64 num, .int .u64 (keep : Int), .string rs, .slice A l.length c] := Blk.new _ _ _
    have h2 := h0.keep ka
    obtain ⟨q, hq⟩ : ∃ q, q = w1.heap.size := ⟨_, rfl⟩
    rw [← hq] at ba
    replace like := Lib.hid like
    replace late := Lib.hid late
    replace len := Lib.hid len
    obtain ⟨c0, c1, c2, c3, c4⟩ := h2.cells
    have d0 := ba.cell 0
    have d1 := ba.cell 1
    have d2 := ba.cell 2
    have d3 := ba.cell 3
    have d4 := ba.cell 4
    simp only [List.getElem?_toArray, List.getElem?_cons_zero, List.getElem?_cons_succ] at d0 d1 d2 d3 d4
    have rest2 := rest.keep ka
    have hcm := duoCommit_any w _ bp p m N (k + 1) F G s t lp xp rp mb n f M v4 A c l h2 rest2 like.out len.out (by have := late.out; omega) few big good (by omega) hb hok hl hc
    replace hcm := Lib.hid hcm
    replace hok := Lib.hid hok
    clear rest rest2 hb hl hc good
    go_enter Tryz.func14, Tryz.ntmps14

    go_wp2_with fail
    simp only [← hq]
    refine hcm.out.mono ?_
    rintro e w3 ⟨rfl, hd⟩
    replace hd := Lib.hid hd
    clear hcm h2 h0 ka ba c0 c1 c2 c3 c4 d0 d1 d2 d3 d4
    go_wp2
    go_ret
    exact ⟨rfl, hd.out⟩

set_option maxRecDepth 100000 in
set_option maxHeartbeats 4000000 in
theorem duoGet_any (w w1 : World) (bp p m N k : Nat) (kind num : Int) (keep : Nat) (raw : List UInt8) (A : Option Addr) (c : Nat) (l : List Ch) (h : Duo5 w w1 bp p m N k) (hraw : raw.length ≤ 1048576) (hkind : kind.tmod 6 = 3) :
    Calls Tryz.prog 14 #[.pointer (some ⟨bp, 0, none⟩), .agg #[.int .i64 kind, .int .i64 num, .int .u64 (keep : Int), .string (strOf raw), .slice A l.length c]] w1 fun e w' => e = .returned (.bool true) ∧ Duo5 w w' bp p m N (k + 1) := by
  cases h with
  | none F G s t h0 like len late =>
    have hfind := fun W => rfind_any W none 0 [] raw (.inl rfl) (by simp)
    simp only [List.length_nil] at hfind
    generalize strOf raw = rs at *
    replace hfind := Lib.hid hfind
    have ka : Only [] w1 (w1.alloc (.cells #[.int .i64 kind, .int .i64 num, .int .u64 (keep : Int), .string rs, .slice A l.length c] 39)) := (Only.refl [] w1).alloc _
    have ba : Blk (w1.alloc (.cells #[.int .i64 kind, .int .i64 num, .int .u64 (keep : Int), .string rs, .slice A l.length c] 39)) w1.heap.size 39 #[.int .i64 kind, .int .i64 num, .int .u64 (keep : Int), .string rs, .slice A l.length c] := Blk.new _ _ _
    have h2 := h0.keep ka
    obtain ⟨q, hq⟩ : ∃ q, q = w1.heap.size := ⟨_, rfl⟩
    rw [← hq] at ba
    replace like := Lib.hid like
    replace late := Lib.hid late
    replace len := Lib.hid len
    obtain ⟨c0, c1, c2, c3, c4⟩ := h2.cells
    have d0 := ba.cell 0
    have d1 := ba.cell 1
    have d2 := ba.cell 2
    have d3 := ba.cell 3
    have d4 := ba.cell 4
    simp only [List.getElem?_toArray, List.getElem?_cons_zero, List.getElem?_cons_succ] at d0 d1 d2 d3 d4
    go_enter Tryz.func14, Tryz.ntmps14
    go_wp2_with fail
    simp only [← hq]
    generalize w1.alloc (.cells #[.int .i64 kind, .int .i64 num, .int .u64 (keep : Int), .string rs, .slice A l.length c] 39) = W at *
    clear h0 ka hq

    clear d0 d1 d2 d4 c0 c1 c3
    have kd : Only [] W W.drew := (Only.refl [] W).drew
    refine wp_region_held_drew (S := fun w' => w'.cell? ⟨bp, 2, none⟩ = some (.pointer none) ∧ w'.cell? ⟨q, 3, none⟩ = some (.string rs)) (by kernel_rfl) ⟨c2, d3⟩ (fun hHeld => ?_)
    refine held_take 0 (.pointer (some ⟨bp, 0, none⟩)) rfl (by kernel_rfl) (by kernel_rfl) (by kernel_rfl) (fun _ _ _ h => h) hHeld (Or.inl ⟨by rfl, fun w' hSw => by (try dsimp only at hSw); (try subst hSw); go_simp⟩) ?_
    simp only [Act.put, List.setIfInBounds_toArray, List.set_cons_zero, List.set_cons_succ]
    refine held_take 1 (.pointer (some ⟨bp, 0, none⟩)) rfl (by kernel_rfl) (by kernel_rfl) (by kernel_rfl) (fun _ _ _ h => h) hHeld (Or.inl ⟨by rfl, fun w' hSw => by (try dsimp only at hSw); (try subst hSw); go_simp⟩) ?_
    simp only [Act.put, List.setIfInBounds_toArray, List.set_cons_zero, List.set_cons_succ]
    refine held_take 2 (.pointer (some ⟨bp, 2, none⟩)) rfl (by kernel_rfl) (by kernel_rfl) (by kernel_rfl) (fun _ _ _ h => h) hHeld (Or.inl ⟨by rfl, fun w' hSw => by (try dsimp only at hSw); (try subst hSw); go_simp⟩) ?_
    simp only [Act.put, List.setIfInBounds_toArray, List.set_cons_zero, List.set_cons_succ]
    refine held_take 3 (.pointer none) rfl (by kernel_rfl) (by kernel_rfl) (by kernel_rfl) (fun _ _ _ h => h) hHeld (Or.inl ⟨by rfl, fun w' hSw => by (try dsimp only at hSw); (try subst hSw); go_simp⟩) ?_
    simp only [Act.put, List.setIfInBounds_toArray, List.set_cons_zero, List.set_cons_succ]
    refine held_take 4 (.pointer (some ⟨q, 3, none⟩)) rfl (by kernel_rfl) (by kernel_rfl) (by kernel_rfl) (fun _ _ _ h => h) hHeld (Or.inl ⟨by rfl, fun w' hSw => by (try dsimp only at hSw); (try subst hSw); go_simp⟩) ?_
    simp only [Act.put, List.setIfInBounds_toArray, List.set_cons_zero, List.set_cons_succ]
    refine held_take 5 (.string rs) rfl (by kernel_rfl) (by kernel_rfl) (by kernel_rfl) (fun _ _ _ h => h) hHeld (Or.inl ⟨by rfl, fun w' hSw => by (try dsimp only at hSw); (try subst hSw); go_simp⟩) ?_
    simp only [Act.put, List.setIfInBounds_toArray, List.set_cons_zero, List.set_cons_succ]
    refine held_step 6 rfl (by kernel_rfl) (fun K hK => ?_)
    go_simp

    go_at_call 24
    refine (get_nil _ rs).mono ?_
    rintro e w3 ⟨rfl, rfl⟩
    go_wp2_with fail
    refine hK.out _ _ ⟨c2, d3⟩ (fun hHeld => ?_)
    clear hK K
    refine held_take 7 (.tuple #[.string ⟨#[]⟩, .bool false]) rfl (by kernel_rfl) (by kernel_rfl) (by kernel_rfl) (fun _ _ _ h => h) hHeld (Or.inl ⟨by rfl, fun w' hSw => by (try dsimp only at hSw); (try subst hSw); go_simp⟩) ?_
    simp only [Act.put, List.setIfInBounds_toArray, List.set_cons_zero, List.set_cons_succ]
    refine held_take 8 (.string ⟨#[]⟩) rfl (by kernel_rfl) (by kernel_rfl) (by kernel_rfl) (fun _ _ _ h => h) hHeld (Or.inl ⟨by rfl, fun w' hSw => by (try dsimp only at hSw); (try subst hSw); go_simp⟩) ?_
    simp only [Act.put, List.setIfInBounds_toArray, List.set_cons_zero, List.set_cons_succ]
    refine held_take 9 (.bool false) rfl (by kernel_rfl) (by kernel_rfl) (by kernel_rfl) (fun _ _ _ h => h) hHeld (Or.inl ⟨by rfl, fun w' hSw => by (try dsimp only at hSw); (try subst hSw); go_simp⟩) ?_
    simp only [Act.put, List.setIfInBounds_toArray, List.set_cons_zero, List.set_cons_succ]
    refine held_take 10 (.string ⟨#[]⟩) rfl (by kernel_rfl) (by kernel_rfl) (by kernel_rfl) (fun _ _ _ h => h) hHeld (Or.inl ⟨by rfl, fun w' hSw => by (try dsimp only at hSw); (try subst hSw); go_simp⟩) ?_
    simp only [Act.put, List.setIfInBounds_toArray, List.set_cons_zero, List.set_cons_succ]
    refine held_take 11 (.bool false) rfl (by kernel_rfl) (by kernel_rfl) (by kernel_rfl) (fun _ _ _ h => h) hHeld (Or.inl ⟨by rfl, fun w' hSw => by (try dsimp only at hSw); (try subst hSw); go_simp⟩) ?_
    simp only [Act.put, List.setIfInBounds_toArray, List.set_cons_zero, List.set_cons_succ]
    refine wpAnyH_done (by kernel_rfl) ?_ _
    clear hHeld
    have e4 := kd.cell c4 (by simp)
    have e3 := kd.cell d3 (by simp)
    have h3 := h2.keep kd
    clear c2 c4 d3 h2 kd
    generalize W.drew = W2 at *
    have kd2 : Only [] W2 W2.drew := (Only.refl [] W2).drew
    go_wp2_with fail
    refine wp_region_held_drew (S := fun w' => w'.cell? ⟨bp, 4, none⟩ = some (.slice none 0 0) ∧ w'.cell? ⟨q, 3, none⟩ = some (.string rs)) (by kernel_rfl) ⟨e4, e3⟩ (fun hHeld => ?_)
    refine held_take 0 (.pointer (some ⟨bp, 0, none⟩)) rfl (by kernel_rfl) (by kernel_rfl) (by kernel_rfl) (fun _ _ _ h => h) hHeld (Or.inl ⟨by rfl, fun w' hSw => by (try dsimp only at hSw); (try subst hSw); go_simp⟩) ?_
    simp only [Act.put, List.setIfInBounds_toArray, List.set_cons_zero, List.set_cons_succ]
    refine held_take 1 (.pointer (some ⟨bp, 0, none⟩)) rfl (by kernel_rfl) (by kernel_rfl) (by kernel_rfl) (fun _ _ _ h => h) hHeld (Or.inl ⟨by rfl, fun w' hSw => by (try dsimp only at hSw); (try subst hSw); go_simp⟩) ?_
    simp only [Act.put, List.setIfInBounds_toArray, List.set_cons_zero, List.set_cons_succ]
    refine held_take 2 (.pointer (some ⟨bp, 4, none⟩)) rfl (by kernel_rfl) (by kernel_rfl) (by kernel_rfl) (fun _ _ _ h => h) hHeld (Or.inl ⟨by rfl, fun w' hSw => by (try dsimp only at hSw); (try subst hSw); go_simp⟩) ?_
    simp only [Act.put, List.setIfInBounds_toArray, List.set_cons_zero, List.set_cons_succ]
    refine held_take 3 (.slice none 0 0) rfl (by kernel_rfl) (by kernel_rfl) (by kernel_rfl) (fun _ _ _ h => h) hHeld (Or.inl ⟨by rfl, fun w' hSw => by (try dsimp only at hSw); (try subst hSw); go_simp⟩) ?_
    simp only [Act.put, List.setIfInBounds_toArray, List.set_cons_zero, List.set_cons_succ]
    refine held_take 4 (.pointer (some ⟨q, 3, none⟩)) rfl (by kernel_rfl) (by kernel_rfl) (by kernel_rfl) (fun _ _ _ h => h) hHeld (Or.inl ⟨by rfl, fun w' hSw => by (try dsimp only at hSw); (try subst hSw); go_simp⟩) ?_
    simp only [Act.put, List.setIfInBounds_toArray, List.set_cons_zero, List.set_cons_succ]
    refine held_take 5 (.string rs) rfl (by kernel_rfl) (by kernel_rfl) (by kernel_rfl) (fun _ _ _ h => h) hHeld (Or.inl ⟨by rfl, fun w' hSw => by (try dsimp only at hSw); (try subst hSw); go_simp⟩) ?_
    simp only [Act.put, List.setIfInBounds_toArray, List.set_cons_zero, List.set_cons_succ]
    refine held_step 6 rfl (by kernel_rfl) (fun K hK => ?_)
    go_simp
    go_at_call 33
    refine (hfind.out _).mono ?_
    rintro e w4 ⟨hfi, k4⟩
    obtain rfl := finds_none hfi rfl
    have h4 := (h3.keep kd2).keep k4
    have hS4 := And.intro (k4.cell (kd2.cell e4 (by simp)) (by simp)) (k4.cell (kd2.cell e3 (by simp)) (by simp))
    clear hfi h3 k4 kd2
    go_wp2_with fail
    refine hK.out _ _ hS4 (fun hHeld => ?_)
    clear hK K
    refine held_take 7 (.int .i64 (-1)) rfl (by kernel_rfl) (by kernel_rfl) (by kernel_rfl) (fun _ _ _ h => h) hHeld (Or.inl ⟨by rfl, fun w' hSw => by (try dsimp only at hSw); (try subst hSw); go_simp⟩) ?_
    simp only [Act.put, List.setIfInBounds_toArray, List.set_cons_zero, List.set_cons_succ]
    refine wpAnyH_done (by kernel_rfl) ?_ _
    clear hHeld
    have hfin := Duo5.none (k := k + 1) F G s t h4 like.out len.out (by have := late.out; omega)
    replace hfin := Lib.hid hfin
    clear h4 e3 e4 hS4 ba
    go_wp2
    go_ret
    exact ⟨rfl, hfin.out⟩
  | some F G s t lp xp rp mb n f M v4 h0 rest like len late few big good =>
    have hMl := good.length
    have hfew := h0.dev.fine.few
    have hMb : M.length ≤ 1048576 := by omega
    have hget := fun W (r : RowsB W rp mb lp M) => get_any W rp mb lp M raw hraw r
    obtain ⟨A4, c4', hv4, hel0, _, _, _⟩ := rest.doc.shape rwE_length
    subst hv4
    have hfind := fun W (he : Els rwE 3 W A4 M) => rfind_any W A4 c4' M raw he hMb
    have hval := fun (r : Rw) (h : findR M raw = some r) => valL_some h
    have hvn := fun (h : findR M raw = none) => valL_none h
    have hff := fun (r : Rw) (i : Nat) (hi : M[i]? = some r) (hk : r.key = raw) => (findR_iff good.sorted).2 ⟨List.mem_of_getElem? hi, hk⟩
    generalize strOf raw = rs at *
    replace hget := Lib.hid hget
    replace hfind := Lib.hid hfind
    replace hval := Lib.hid hval
    replace hvn := Lib.hid hvn
    replace hff := Lib.hid hff
    have ka : Only [] w1 (w1.alloc (.cells #[.int .i64 kind, .int .i64 num, .int .u64 (keep : Int), .string rs, .slice A l.length c] 39)) := (Only.refl [] w1).alloc _
    have ba : Blk (w1.alloc (.cells #[.int .i64 kind, .int .i64 num, .int .u64 (keep : Int), .string rs, .slice A l.length c] 39)) w1.heap.size 39 #[.int .i64 kind, .int .i64 num, .int .u64 (keep : Int), .string rs, .slice A l.length c] := Blk.new _ _ _
    have h2 := h0.keep ka
    obtain ⟨q, hq⟩ : ∃ q, q = w1.heap.size := ⟨_, rfl⟩
    rw [← hq] at ba
    replace like := Lib.hid like
    replace late := Lib.hid late
    replace len := Lib.hid len
    obtain ⟨c0, c1, c2, c3, c4⟩ := h2.cells
    have d0 := ba.cell 0
    have d1 := ba.cell 1
    have d2 := ba.cell 2
    have d3 := ba.cell 3
    have d4 := ba.cell 4
    simp only [List.getElem?_toArray, List.getElem?_cons_zero, List.getElem?_cons_succ] at d0 d1 d2 d3 d4
    have rest2 := rest.keep ka
    have hel2 := hel0.kept ka (by simp)
    replace good := Lib.hid good
    clear rest hel0
    go_enter Tryz.func14, Tryz.ntmps14
    go_wp2_with fail
    simp only [← hq]
    generalize w1.alloc (.cells #[.int .i64 kind, .int .i64 num, .int .u64 (keep : Int), .string rs, .slice A l.length c] 39) = W at *
    clear h0 ka hq

    clear d0 d1 d2 d4 c0 c1 c3
    have kd : Only [] W W.drew := (Only.refl [] W).drew
    obtain ⟨gv, hgv⟩ : ∃ gv, strOf (valL M raw) = gv := ⟨_, rfl⟩
    obtain ⟨gb, hgb⟩ : ∃ gb, (findR M raw).isSome = gb := ⟨_, rfl⟩
    have hgt := hget.out W.drew ((rest2.keep kd).rows)
    rw [hgv, hgb] at hgt
    replace hgv := Lib.hid hgv
    replace hgb := Lib.hid hgb
    refine wp_region_held_drew (S := fun w' => w'.cell? ⟨bp, 2, none⟩ = some (.pointer (some ⟨rp, 0, none⟩)) ∧ w'.cell? ⟨q, 3, none⟩ = some (.string rs)) (by kernel_rfl) ⟨c2, d3⟩ (fun hHeld => ?_)
    refine held_take 0 (.pointer (some ⟨bp, 0, none⟩)) rfl (by kernel_rfl) (by kernel_rfl) (by kernel_rfl) (fun _ _ _ h => h) hHeld (Or.inl ⟨by rfl, fun w' hSw => by (try dsimp only at hSw); (try subst hSw); go_simp⟩) ?_
    simp only [Act.put, List.setIfInBounds_toArray, List.set_cons_zero, List.set_cons_succ]
    refine held_take 1 (.pointer (some ⟨bp, 0, none⟩)) rfl (by kernel_rfl) (by kernel_rfl) (by kernel_rfl) (fun _ _ _ h => h) hHeld (Or.inl ⟨by rfl, fun w' hSw => by (try dsimp only at hSw); (try subst hSw); go_simp⟩) ?_
    simp only [Act.put, List.setIfInBounds_toArray, List.set_cons_zero, List.set_cons_succ]
    refine held_take 2 (.pointer (some ⟨bp, 2, none⟩)) rfl (by kernel_rfl) (by kernel_rfl) (by kernel_rfl) (fun _ _ _ h => h) hHeld (Or.inl ⟨by rfl, fun w' hSw => by (try dsimp only at hSw); (try subst hSw); go_simp⟩) ?_
    simp only [Act.put, List.setIfInBounds_toArray, List.set_cons_zero, List.set_cons_succ]
    refine held_take 3 (.pointer (some ⟨rp, 0, none⟩)) rfl (by kernel_rfl) (by kernel_rfl) (by kernel_rfl) (fun _ _ _ h => h) hHeld (Or.inl ⟨by rfl, fun w' hSw => by (try dsimp only at hSw); (try subst hSw); go_simp⟩) ?_
    simp only [Act.put, List.setIfInBounds_toArray, List.set_cons_zero, List.set_cons_succ]
    refine held_take 4 (.pointer (some ⟨q, 3, none⟩)) rfl (by kernel_rfl) (by kernel_rfl) (by kernel_rfl) (fun _ _ _ h => h) hHeld (Or.inl ⟨by rfl, fun w' hSw => by (try dsimp only at hSw); (try subst hSw); go_simp⟩) ?_
    simp only [Act.put, List.setIfInBounds_toArray, List.set_cons_zero, List.set_cons_succ]
    refine held_take 5 (.string rs) rfl (by kernel_rfl) (by kernel_rfl) (by kernel_rfl) (fun _ _ _ h => h) hHeld (Or.inl ⟨by rfl, fun w' hSw => by (try dsimp only at hSw); (try subst hSw); go_simp⟩) ?_
    simp only [Act.put, List.setIfInBounds_toArray, List.set_cons_zero, List.set_cons_succ]
    refine held_step 6 rfl (by kernel_rfl) (fun K hK => ?_)
    go_simp

    go_at_call 24
    refine hgt.mono ?_
    rintro e w3 ⟨rfl, k3⟩
    have h3 := (h2.keep kd).keep k3
    have rest3 := (rest2.keep kd).keep k3
    have hel3 := (hel2.kept kd (by simp)).kept k3 (by simp)
    have e4 := k3.cell (kd.cell c4 (by simp)) (by simp)
    have e3 := k3.cell (kd.cell d3 (by simp)) (by simp)
    have e2 := k3.cell (kd.cell c2 (by simp)) (by simp)
    clear c2 c4 d3 h2 rest2 hel2 kd k3 hgt
    go_wp2_with fail
    refine hK.out _ _ ⟨e2, e3⟩ (fun hHeld => ?_)
    clear hK K
    refine held_take 7 (.tuple #[.string gv, .bool gb]) rfl (by kernel_rfl) (by kernel_rfl) (by kernel_rfl) (fun _ _ _ h => h) hHeld (Or.inl ⟨by rfl, fun w' hSw => by (try dsimp only at hSw); (try subst hSw); go_simp⟩) ?_
    simp only [Act.put, List.setIfInBounds_toArray, List.set_cons_zero, List.set_cons_succ]
    refine held_take 8 (.string gv) rfl (by kernel_rfl) (by kernel_rfl) (by kernel_rfl) (fun _ _ _ h => h) hHeld (Or.inl ⟨by rfl, fun w' hSw => by (try dsimp only at hSw); (try subst hSw); go_simp⟩) ?_
    simp only [Act.put, List.setIfInBounds_toArray, List.set_cons_zero, List.set_cons_succ]
    refine held_take 9 (.bool gb) rfl (by kernel_rfl) (by kernel_rfl) (by kernel_rfl) (fun _ _ _ h => h) hHeld (Or.inl ⟨by rfl, fun w' hSw => by (try dsimp only at hSw); (try subst hSw); go_simp⟩) ?_
    simp only [Act.put, List.setIfInBounds_toArray, List.set_cons_zero, List.set_cons_succ]
    refine held_take 10 (.string gv) rfl (by kernel_rfl) (by kernel_rfl) (by kernel_rfl) (fun _ _ _ h => h) hHeld (Or.inl ⟨by rfl, fun w' hSw => by (try dsimp only at hSw); (try subst hSw); go_simp⟩) ?_
    simp only [Act.put, List.setIfInBounds_toArray, List.set_cons_zero, List.set_cons_succ]
    refine held_take 11 (.bool gb) rfl (by kernel_rfl) (by kernel_rfl) (by kernel_rfl) (fun _ _ _ h => h) hHeld (Or.inl ⟨by rfl, fun w' hSw => by (try dsimp only at hSw); (try subst hSw); go_simp⟩) ?_
    simp only [Act.put, List.setIfInBounds_toArray, List.set_cons_zero, List.set_cons_succ]
    refine wpAnyH_done (by kernel_rfl) ?_ _
    clear hHeld
    clear e2
    have kd2 : Only [] w3 w3.drew := (Only.refl [] w3).drew
    have hfd := hfind.out w3.drew (hel3.kept kd2 (by simp))
    go_wp2_with fail
    refine wp_region_held_drew (S := fun w' => w'.cell? ⟨bp, 4, none⟩ = some (.slice A4 M.length c4') ∧ w'.cell? ⟨q, 3, none⟩ = some (.string rs)) (by kernel_rfl) ⟨e4, e3⟩ (fun hHeld => ?_)
    refine held_take 0 (.pointer (some ⟨bp, 0, none⟩)) rfl (by kernel_rfl) (by kernel_rfl) (by kernel_rfl) (fun _ _ _ h => h) hHeld (Or.inl ⟨by rfl, fun w' hSw => by (try dsimp only at hSw); (try subst hSw); go_simp⟩) ?_
    simp only [Act.put, List.setIfInBounds_toArray, List.set_cons_zero, List.set_cons_succ]
    refine held_take 1 (.pointer (some ⟨bp, 0, none⟩)) rfl (by kernel_rfl) (by kernel_rfl) (by kernel_rfl) (fun _ _ _ h => h) hHeld (Or.inl ⟨by rfl, fun w' hSw => by (try dsimp only at hSw); (try subst hSw); go_simp⟩) ?_
    simp only [Act.put, List.setIfInBounds_toArray, List.set_cons_zero, List.set_cons_succ]
    refine held_take 2 (.pointer (some ⟨bp, 4, none⟩)) rfl (by kernel_rfl) (by kernel_rfl) (by kernel_rfl) (fun _ _ _ h => h) hHeld (Or.inl ⟨by rfl, fun w' hSw => by (try dsimp only at hSw); (try subst hSw); go_simp⟩) ?_
    simp only [Act.put, List.setIfInBounds_toArray, List.set_cons_zero, List.set_cons_succ]
    refine held_take 3 (.slice A4 M.length c4') rfl (by kernel_rfl) (by kernel_rfl) (by kernel_rfl) (fun _ _ _ h => h) hHeld (Or.inl ⟨by rfl, fun w' hSw => by (try dsimp only at hSw); (try subst hSw); go_simp⟩) ?_
    simp only [Act.put, List.setIfInBounds_toArray, List.set_cons_zero, List.set_cons_succ]
    refine held_take 4 (.pointer (some ⟨q, 3, none⟩)) rfl (by kernel_rfl) (by kernel_rfl) (by kernel_rfl) (fun _ _ _ h => h) hHeld (Or.inl ⟨by rfl, fun w' hSw => by (try dsimp only at hSw); (try subst hSw); go_simp⟩) ?_
    simp only [Act.put, List.setIfInBounds_toArray, List.set_cons_zero, List.set_cons_succ]
    refine held_take 5 (.string rs) rfl (by kernel_rfl) (by kernel_rfl) (by kernel_rfl) (fun _ _ _ h => h) hHeld (Or.inl ⟨by rfl, fun w' hSw => by (try dsimp only at hSw); (try subst hSw); go_simp⟩) ?_
    simp only [Act.put, List.setIfInBounds_toArray, List.set_cons_zero, List.set_cons_succ]
    refine held_step 6 rfl (by kernel_rfl) (fun K hK => ?_)
    go_simp
    go_at_call 33
    refine hfd.mono ?_
    rintro e w4 ⟨hfi, k4⟩
    have h4 := (h3.keep kd2).keep k4
    have rest4 := (rest3.keep kd2).keep k4
    have hel4 := (hel3.kept kd2 (by simp)).kept k4 (by simp)
    have i4 := k4.cell (kd2.cell e4 (by simp)) (by simp)
    have hS4 := And.intro i4 (k4.cell (kd2.cell e3 (by simp)) (by simp))
    clear h3 rest3 hel3 k4 kd2 hfd e4 e3
    have hfin := Duo5.some (k := k + 1) F G s t lp xp rp mb n f M _ h4 rest4 like.out len.out (by have := late.out; omega) few big good.out
    replace hfin := Lib.hid hfin
    clear h4 rest4
    rcases hfi with ⟨i, r, hi, hrk, rfl⟩ | ⟨hno, rfl⟩
    · have hf := hff.out r i hi hrk
      have hvl := hval.out r hf
      obtain ⟨hil, hie⟩ := List.getElem?_eq_some_iff.1 hi
      obtain ⟨g3, o3, rfl, hg3, hat3⟩ := hel4.get hil
      obtain ⟨_, z1, _⟩ := rws_at hat3 hil
      rw [hie] at z1
      have hgv' := hgv.out
      rw [hvl] at hgv'
      have hgb' : gb = true := by rw [← hgb.out, hf]; rfl
      rw [hgv'] at z1
      subst hgb'
      have hiI : (i : Int) < (M.length : Int) := by omega
      have hi0 : 0 ≤ (i : Int) := by omega
      replace hi := Lib.hid hi
      replace hie := Lib.hid hie
      replace hrk := Lib.hid hrk
      replace hf := Lib.hid hf
      replace hvl := Lib.hid hvl
      replace hgv' := Lib.hid hgv'
      clear hat3 hel4
      go_wp2_with fail
      refine hK.out _ _ hS4 (fun hHeld => ?_)
      clear hK K
      refine held_take 7 (.int .i64 (i : Int)) rfl (by kernel_rfl) (by kernel_rfl) (by kernel_rfl) (fun _ _ _ h => h) hHeld (Or.inl ⟨by rfl, fun w' hSw => by (try dsimp only at hSw); (try subst hSw); go_simp⟩) ?_
      simp only [Act.put, List.setIfInBounds_toArray, List.set_cons_zero, List.set_cons_succ]
      refine wpAnyH_done (by kernel_rfl) ?_ _
      clear hHeld
      clear hS4
      go_wp2
      go_ret
      exact ⟨rfl, hfin.out⟩
    · have hf := findR_none.2 hno
      have hvl := hvn.out hf
      have hgv' := hgv.out
      rw [hvl] at hgv'
      have hgv2 : (⟨#[]⟩ : ByteArray) = gv := hgv'
      subst hgv2
      have hgb' : gb = false := by rw [← hgb.out, hf]; rfl
      subst hgb'
      replace hf := Lib.hid hf
      replace hvl := Lib.hid hvl
      replace hgv' := Lib.hid hgv'
      clear hno hel4
      go_wp2_with fail
      refine hK.out _ _ hS4 (fun hHeld => ?_)
      clear hK K
      refine held_take 7 (.int .i64 (-1)) rfl (by kernel_rfl) (by kernel_rfl) (by kernel_rfl) (fun _ _ _ h => h) hHeld (Or.inl ⟨by rfl, fun w' hSw => by (try dsimp only at hSw); (try subst hSw); go_simp⟩) ?_
      simp only [Act.put, List.setIfInBounds_toArray, List.set_cons_zero, List.set_cons_succ]
      refine wpAnyH_done (by kernel_rfl) ?_ _
      clear hHeld
      clear hS4
      go_wp2
      go_ret
      exact ⟨rfl, hfin.out⟩

set_option maxRecDepth 100000 in
set_option maxHeartbeats 4000000 in
theorem duoUnder_any (w w1 : World) (bp p m N k : Nat) (kind num : Int) (keep : Nat) (raw : List UInt8) (A : Option Addr) (c : Nat) (l : List Ch) (h : Duo5 w w1 bp p m N k) (hkind : kind.tmod 6 = 4) :
    Calls Tryz.prog 14 #[.pointer (some ⟨bp, 0, none⟩), .agg #[.int .i64 kind, .int .i64 num, .int .u64 (keep : Int), .string (strOf raw), .slice A l.length c]] w1 fun e w' => e = .returned (.bool true) ∧ Duo5 w w' bp p m N (k + 1) := by
  cases h with
  | none F G s t h0 like len late =>
    have hund := fun W => runder_any W none 0 [] raw (.inl rfl) (by simp)
    simp only [List.length_nil] at hund
    generalize strOf raw = rs at *
    replace hund := Lib.hid hund
    have ka : Only [] w1 (w1.alloc (.cells #[.int .i64 kind, .int .i64 num, .int .u64 (keep : Int), .string rs, .slice A l.length c] 39)) := (Only.refl [] w1).alloc _
    have ba : Blk (w1.alloc (.cells #[.int .i64 kind, .int .i64 num, .int .u64 (keep : Int), .string rs, .slice A l.length c] 39)) w1.heap.size 39 #[.int .i64 kind, .int .i64 num, .int .u64 (keep : Int), .string rs, .slice A l.length c] := Blk.new _ _ _
    have h2 := h0.keep ka
    obtain ⟨q, hq⟩ : ∃ q, q = w1.heap.size := ⟨_, rfl⟩
    rw [← hq] at ba
    replace like := Lib.hid like
    replace late := Lib.hid late
    replace len := Lib.hid len
    obtain ⟨c0, c1, c2, c3, c4⟩ := h2.cells
    have d0 := ba.cell 0
    have d1 := ba.cell 1
    have d2 := ba.cell 2
    have d3 := ba.cell 3
    have d4 := ba.cell 4
    simp only [List.getElem?_toArray, List.getElem?_cons_zero, List.getElem?_cons_succ] at d0 d1 d2 d3 d4
    go_enter Tryz.func14, Tryz.ntmps14
    go_wp2_with fail
    simp only [← hq]
    generalize w1.alloc (.cells #[.int .i64 kind, .int .i64 num, .int .u64 (keep : Int), .string rs, .slice A l.length c] 39) = W at *
    clear h0 ka hq

    clear d0 d1 d2 d4 c0 c1 c3
    have kd : Only [] W W.drew := (Only.refl [] W).drew
    refine wp_region_held_drew (S := fun w' => w'.cell? ⟨bp, 4, none⟩ = some (.slice none 0 0) ∧ w'.cell? ⟨bp, 2, none⟩ = some (.pointer none) ∧ w'.cell? ⟨q, 3, none⟩ = some (.string rs)) (by kernel_rfl) ⟨c4, c2, d3⟩ (fun hHeld => ?_)
    refine held_take 0 (.pointer (some ⟨bp, 0, none⟩)) rfl (by kernel_rfl) (by kernel_rfl) (by kernel_rfl) (fun _ _ _ h => h) hHeld (Or.inl ⟨by rfl, fun w' hSw => by (try dsimp only at hSw); (try subst hSw); go_simp⟩) ?_
    simp only [Act.put, List.setIfInBounds_toArray, List.set_cons_zero, List.set_cons_succ]
    refine held_take 1 (.pointer (some ⟨bp, 0, none⟩)) rfl (by kernel_rfl) (by kernel_rfl) (by kernel_rfl) (fun _ _ _ h => h) hHeld (Or.inl ⟨by rfl, fun w' hSw => by (try dsimp only at hSw); (try subst hSw); go_simp⟩) ?_
    simp only [Act.put, List.setIfInBounds_toArray, List.set_cons_zero, List.set_cons_succ]
    refine held_take 2 (.pointer (some ⟨bp, 4, none⟩)) rfl (by kernel_rfl) (by kernel_rfl) (by kernel_rfl) (fun _ _ _ h => h) hHeld (Or.inl ⟨by rfl, fun w' hSw => by (try dsimp only at hSw); (try subst hSw); go_simp⟩) ?_
    simp only [Act.put, List.setIfInBounds_toArray, List.set_cons_zero, List.set_cons_succ]
    refine held_take 3 (.slice none 0 0) rfl (by kernel_rfl) (by kernel_rfl) (by kernel_rfl) (fun _ _ _ h => h) hHeld (Or.inl ⟨by rfl, fun w' hSw => by (try dsimp only at hSw); (try subst hSw); go_simp⟩) ?_
    simp only [Act.put, List.setIfInBounds_toArray, List.set_cons_zero, List.set_cons_succ]
    refine held_take 4 (.pointer (some ⟨q, 3, none⟩)) rfl (by kernel_rfl) (by kernel_rfl) (by kernel_rfl) (fun _ _ _ h => h) hHeld (Or.inl ⟨by rfl, fun w' hSw => by (try dsimp only at hSw); (try subst hSw); go_simp⟩) ?_
    simp only [Act.put, List.setIfInBounds_toArray, List.set_cons_zero, List.set_cons_succ]
    refine held_take 5 (.string rs) rfl (by kernel_rfl) (by kernel_rfl) (by kernel_rfl) (fun _ _ _ h => h) hHeld (Or.inl ⟨by rfl, fun w' hSw => by (try dsimp only at hSw); (try subst hSw); go_simp⟩) ?_
    simp only [Act.put, List.setIfInBounds_toArray, List.set_cons_zero, List.set_cons_succ]
    refine held_take 7 (.pointer (some ⟨bp, 0, none⟩)) rfl (by kernel_rfl) (by kernel_rfl) (by kernel_rfl) (fun _ _ _ h => h) hHeld (Or.inl ⟨by rfl, fun w' hSw => by (try dsimp only at hSw); (try subst hSw); go_simp⟩) ?_
    simp only [Act.put, List.setIfInBounds_toArray, List.set_cons_zero, List.set_cons_succ]
    refine held_take 8 (.pointer (some ⟨bp, 0, none⟩)) rfl (by kernel_rfl) (by kernel_rfl) (by kernel_rfl) (fun _ _ _ h => h) hHeld (Or.inl ⟨by rfl, fun w' hSw => by (try dsimp only at hSw); (try subst hSw); go_simp⟩) ?_
    simp only [Act.put, List.setIfInBounds_toArray, List.set_cons_zero, List.set_cons_succ]
    refine held_take 9 (.pointer (some ⟨bp, 2, none⟩)) rfl (by kernel_rfl) (by kernel_rfl) (by kernel_rfl) (fun _ _ _ h => h) hHeld (Or.inl ⟨by rfl, fun w' hSw => by (try dsimp only at hSw); (try subst hSw); go_simp⟩) ?_
    simp only [Act.put, List.setIfInBounds_toArray, List.set_cons_zero, List.set_cons_succ]
    refine held_take 10 (.pointer none) rfl (by kernel_rfl) (by kernel_rfl) (by kernel_rfl) (fun _ _ _ h => h) hHeld (Or.inl ⟨by rfl, fun w' hSw => by (try dsimp only at hSw); (try subst hSw); go_simp⟩) ?_
    simp only [Act.put, List.setIfInBounds_toArray, List.set_cons_zero, List.set_cons_succ]
    refine held_take 11 (.pointer (some ⟨q, 3, none⟩)) rfl (by kernel_rfl) (by kernel_rfl) (by kernel_rfl) (fun _ _ _ h => h) hHeld (Or.inl ⟨by rfl, fun w' hSw => by (try dsimp only at hSw); (try subst hSw); go_simp⟩) ?_
    simp only [Act.put, List.setIfInBounds_toArray, List.set_cons_zero, List.set_cons_succ]
    refine held_take 12 (.string rs) rfl (by kernel_rfl) (by kernel_rfl) (by kernel_rfl) (fun _ _ _ h => h) hHeld (Or.inl ⟨by rfl, fun w' hSw => by (try dsimp only at hSw); (try subst hSw); go_simp⟩) ?_
    simp only [Act.put, List.setIfInBounds_toArray, List.set_cons_zero, List.set_cons_succ]
    refine held_step 6 rfl (by kernel_rfl) (fun K hK => ?_)
    go_simp

    go_at_call 34
    refine (hund.out _).mono ?_
    rintro e w3 ⟨v3, rfl, A3, c3', rfl, _, hel, k3, _⟩
    have h3 := (h2.keep kd).keep k3
    have hS3 := And.intro (k3.cell (kd.cell c4 (by simp)) (by simp)) (And.intro (k3.cell (kd.cell c2 (by simp)) (by simp)) (k3.cell (kd.cell d3 (by simp)) (by simp)))
    clear c2 c4 d3 h2 kd k3
    go_wp2_with fail
    refine hK.out _ _ hS3 (fun hHeld => ?_)
    clear hK K
    refine held_step 13 rfl (by kernel_rfl) (fun K hK => ?_)
    go_simp
    go_at_call 25
    refine (under_nil _ rs).mono ?_
    rintro e w4 ⟨rfl, rfl⟩
    go_wp2_with fail
    refine hK.out _ _ hS3 (fun hHeld => ?_)
    clear hK K
    refine held_step 14 rfl (by kernel_rfl) (fun K hK => ?_)
    go_simp
    go_at_call 15
    refine (rsame_any _ A3 none c3' 0 [] [] (.inl rfl) (.inl rfl) (by simp)).mono ?_
    rintro e w5 ⟨⟨b, rfl, hb⟩, k5⟩
    obtain rfl : b = true := hb.2 rfl
    have h5 := h3.keep k5
    have hS5 := And.intro (k5.cell hS3.1 (by simp)) (And.intro (k5.cell hS3.2.1 (by simp)) (k5.cell hS3.2.2 (by simp)))
    clear hS3 h3 k5 hel hb
    go_wp2_with fail
    refine hK.out _ _ hS5 (fun hHeld => ?_)
    clear hK K
    refine held_take 15 (.bool true) rfl (by kernel_rfl) (by kernel_rfl) (by kernel_rfl) (fun _ _ _ h => h) hHeld (Or.inl ⟨by rfl, fun w' hSw => by (try dsimp only at hSw); (try subst hSw); go_simp⟩) ?_
    simp only [Act.put, List.setIfInBounds_toArray, List.set_cons_zero, List.set_cons_succ]
    refine wpAnyH_done (by kernel_rfl) ?_ _
    clear hHeld
    have hfin := Duo5.none (k := k + 1) F G s t h5 like.out len.out (by have := late.out; omega)
    replace hfin := Lib.hid hfin
    clear h5 hS5 ba
    go_wp2
    go_ret
    exact ⟨rfl, hfin.out⟩
  | some F G s t lp xp rp mb n f M v4 h0 rest like len late few big good =>
    have hMl := good.length
    have hfew := h0.dev.fine.few
    have hMb : M.length ≤ 1000000 := by omega
    have hMb2 : M.length ≤ 1048576 := by omega
    obtain ⟨A4, c4', hv4, hel0, _, _, _⟩ := rest.doc.shape rwE_length
    subst hv4
    have hund := fun W (he : Els rwE 3 W A4 M) => runder_any W A4 c4' M raw he hMb
    have hpu := fun W (r : RowsB W rp mb lp M) => under_any W rp mb lp M raw r good.sorted hMb2
    have hLU : ((M.filter fun r => preK raw r.key).map chOf) = underL M raw := rfl
    have hLl : (M.filter fun r => preK raw r.key).length ≤ 1048576 := Nat.le_trans (List.length_filter_le _ _) hMb2
    generalize (M.filter fun r => preK raw r.key) = L at *
    generalize underL M raw = U at *
    have hsm := fun W A3 c3 B d (ha : Els rwE 3 W A3 L) (hb : Els chE 3 W B U) => rsame_any W A3 B c3 d L U ha hb hLl
    generalize strOf raw = rs at *
    replace hund := Lib.hid hund
    replace hpu := Lib.hid hpu
    replace hLU := Lib.hid hLU
    replace hsm := Lib.hid hsm
    have ka : Only [] w1 (w1.alloc (.cells #[.int .i64 kind, .int .i64 num, .int .u64 (keep : Int), .string rs, .slice A l.length c] 39)) := (Only.refl [] w1).alloc _
    have ba : Blk (w1.alloc (.cells #[.int .i64 kind, .int .i64 num, .int .u64 (keep : Int), .string rs, .slice A l.length c] 39)) w1.heap.size 39 #[.int .i64 kind, .int .i64 num, .int .u64 (keep : Int), .string rs, .slice A l.length c] := Blk.new _ _ _
    have h2 := h0.keep ka
    obtain ⟨q, hq⟩ : ∃ q, q = w1.heap.size := ⟨_, rfl⟩
    rw [← hq] at ba
    replace like := Lib.hid like
    replace late := Lib.hid late
    replace len := Lib.hid len
    obtain ⟨c0, c1, c2, c3, c4⟩ := h2.cells
    have d0 := ba.cell 0
    have d1 := ba.cell 1
    have d2 := ba.cell 2
    have d3 := ba.cell 3
    have d4 := ba.cell 4
    simp only [List.getElem?_toArray, List.getElem?_cons_zero, List.getElem?_cons_succ] at d0 d1 d2 d3 d4
    have rest2 := rest.keep ka
    have hel2 := hel0.kept ka (by simp)
    replace good := Lib.hid good
    clear rest hel0 hMb hMb2 hfew hLl
    go_enter Tryz.func14, Tryz.ntmps14
    go_wp2_with fail
    simp only [← hq]
    generalize w1.alloc (.cells #[.int .i64 kind, .int .i64 num, .int .u64 (keep : Int), .string rs, .slice A l.length c] 39) = W at *
    clear h0 ka hq

    clear d0 d1 d2 d4 c0 c1 c3
    have kd : Only [] W W.drew := (Only.refl [] W).drew
    have hu1 := hund.out W.drew (hel2.kept kd (by simp))
    refine wp_region_held_drew (S := fun w' => w'.cell? ⟨bp, 4, none⟩ = some (.slice A4 M.length c4') ∧ w'.cell? ⟨bp, 2, none⟩ = some (.pointer (some ⟨rp, 0, none⟩)) ∧ w'.cell? ⟨q, 3, none⟩ = some (.string rs)) (by kernel_rfl) ⟨c4, c2, d3⟩ (fun hHeld => ?_)
    refine held_take 0 (.pointer (some ⟨bp, 0, none⟩)) rfl (by kernel_rfl) (by kernel_rfl) (by kernel_rfl) (fun _ _ _ h => h) hHeld (Or.inl ⟨by rfl, fun w' hSw => by (try dsimp only at hSw); (try subst hSw); go_simp⟩) ?_
    simp only [Act.put, List.setIfInBounds_toArray, List.set_cons_zero, List.set_cons_succ]
    refine held_take 1 (.pointer (some ⟨bp, 0, none⟩)) rfl (by kernel_rfl) (by kernel_rfl) (by kernel_rfl) (fun _ _ _ h => h) hHeld (Or.inl ⟨by rfl, fun w' hSw => by (try dsimp only at hSw); (try subst hSw); go_simp⟩) ?_
    simp only [Act.put, List.setIfInBounds_toArray, List.set_cons_zero, List.set_cons_succ]
    refine held_take 2 (.pointer (some ⟨bp, 4, none⟩)) rfl (by kernel_rfl) (by kernel_rfl) (by kernel_rfl) (fun _ _ _ h => h) hHeld (Or.inl ⟨by rfl, fun w' hSw => by (try dsimp only at hSw); (try subst hSw); go_simp⟩) ?_
    simp only [Act.put, List.setIfInBounds_toArray, List.set_cons_zero, List.set_cons_succ]
    refine held_take 3 (.slice A4 M.length c4') rfl (by kernel_rfl) (by kernel_rfl) (by kernel_rfl) (fun _ _ _ h => h) hHeld (Or.inl ⟨by rfl, fun w' hSw => by (try dsimp only at hSw); (try subst hSw); go_simp⟩) ?_
    simp only [Act.put, List.setIfInBounds_toArray, List.set_cons_zero, List.set_cons_succ]
    refine held_take 4 (.pointer (some ⟨q, 3, none⟩)) rfl (by kernel_rfl) (by kernel_rfl) (by kernel_rfl) (fun _ _ _ h => h) hHeld (Or.inl ⟨by rfl, fun w' hSw => by (try dsimp only at hSw); (try subst hSw); go_simp⟩) ?_
    simp only [Act.put, List.setIfInBounds_toArray, List.set_cons_zero, List.set_cons_succ]
    refine held_take 5 (.string rs) rfl (by kernel_rfl) (by kernel_rfl) (by kernel_rfl) (fun _ _ _ h => h) hHeld (Or.inl ⟨by rfl, fun w' hSw => by (try dsimp only at hSw); (try subst hSw); go_simp⟩) ?_
    simp only [Act.put, List.setIfInBounds_toArray, List.set_cons_zero, List.set_cons_succ]
    refine held_take 7 (.pointer (some ⟨bp, 0, none⟩)) rfl (by kernel_rfl) (by kernel_rfl) (by kernel_rfl) (fun _ _ _ h => h) hHeld (Or.inl ⟨by rfl, fun w' hSw => by (try dsimp only at hSw); (try subst hSw); go_simp⟩) ?_
    simp only [Act.put, List.setIfInBounds_toArray, List.set_cons_zero, List.set_cons_succ]
    refine held_take 8 (.pointer (some ⟨bp, 0, none⟩)) rfl (by kernel_rfl) (by kernel_rfl) (by kernel_rfl) (fun _ _ _ h => h) hHeld (Or.inl ⟨by rfl, fun w' hSw => by (try dsimp only at hSw); (try subst hSw); go_simp⟩) ?_
    simp only [Act.put, List.setIfInBounds_toArray, List.set_cons_zero, List.set_cons_succ]
    refine held_take 9 (.pointer (some ⟨bp, 2, none⟩)) rfl (by kernel_rfl) (by kernel_rfl) (by kernel_rfl) (fun _ _ _ h => h) hHeld (Or.inl ⟨by rfl, fun w' hSw => by (try dsimp only at hSw); (try subst hSw); go_simp⟩) ?_
    simp only [Act.put, List.setIfInBounds_toArray, List.set_cons_zero, List.set_cons_succ]
    refine held_take 10 (.pointer (some ⟨rp, 0, none⟩)) rfl (by kernel_rfl) (by kernel_rfl) (by kernel_rfl) (fun _ _ _ h => h) hHeld (Or.inl ⟨by rfl, fun w' hSw => by (try dsimp only at hSw); (try subst hSw); go_simp⟩) ?_
    simp only [Act.put, List.setIfInBounds_toArray, List.set_cons_zero, List.set_cons_succ]
    refine held_take 11 (.pointer (some ⟨q, 3, none⟩)) rfl (by kernel_rfl) (by kernel_rfl) (by kernel_rfl) (fun _ _ _ h => h) hHeld (Or.inl ⟨by rfl, fun w' hSw => by (try dsimp only at hSw); (try subst hSw); go_simp⟩) ?_
    simp only [Act.put, List.setIfInBounds_toArray, List.set_cons_zero, List.set_cons_succ]
    refine held_take 12 (.string rs) rfl (by kernel_rfl) (by kernel_rfl) (by kernel_rfl) (fun _ _ _ h => h) hHeld (Or.inl ⟨by rfl, fun w' hSw => by (try dsimp only at hSw); (try subst hSw); go_simp⟩) ?_
    simp only [Act.put, List.setIfInBounds_toArray, List.set_cons_zero, List.set_cons_succ]
    refine held_step 6 rfl (by kernel_rfl) (fun K hK => ?_)
    go_simp

    go_at_call 34
    refine hu1.mono ?_
    rintro e w3 ⟨v3, rfl, A3, c3', rfl, _, hel, k3, _⟩
    have h3 := (h2.keep kd).keep k3
    have rest3 := (rest2.keep kd).keep k3
    have hS3 := And.intro (k3.cell (kd.cell c4 (by simp)) (by simp)) (And.intro (k3.cell (kd.cell c2 (by simp)) (by simp)) (k3.cell (kd.cell d3 (by simp)) (by simp)))
    have hu2 := hpu.out w3 rest3.rows
    clear c2 c4 d3 h2 kd k3 rest2 hel2 hu1
    go_wp2_with fail
    refine hK.out _ _ hS3 (fun hHeld => ?_)
    clear hK K
    refine held_step 13 rfl (by kernel_rfl) (fun K hK => ?_)
    go_simp
    go_at_call 25
    refine hu2.mono ?_
    rintro e w4 ⟨v5, rfl, ⟨A5, c5', rfl, _, hel5, k4, _⟩, _⟩
    have h4 := h3.keep k4
    have rest4 := rest3.keep k4
    have hS4 := And.intro (k4.cell hS3.1 (by simp)) (And.intro (k4.cell hS3.2.1 (by simp)) (k4.cell hS3.2.2 (by simp)))
    have hs2 := hsm.out w4 A3 c3' A5 c5' (hel.kept k4 (by simp)) hel5
    clear hS3 h3 rest3 k4 hu2 hel hel5
    go_wp2_with fail
    refine hK.out _ _ hS4 (fun hHeld => ?_)
    clear hK K
    refine held_step 14 rfl (by kernel_rfl) (fun K hK => ?_)
    go_simp
    go_at_call 15
    refine hs2.mono ?_
    rintro e w5 ⟨⟨b, rfl, hb⟩, k5⟩
    obtain rfl : b = true := hb.2 hLU.out
    have h5 := h4.keep k5
    have rest5 := rest4.keep k5
    have hS5 := And.intro (k5.cell hS4.1 (by simp)) (And.intro (k5.cell hS4.2.1 (by simp)) (k5.cell hS4.2.2 (by simp)))
    clear hS4 h4 rest4 k5 hb hs2
    go_wp2_with fail
    refine hK.out _ _ hS5 (fun hHeld => ?_)
    clear hK K
    refine held_take 15 (.bool true) rfl (by kernel_rfl) (by kernel_rfl) (by kernel_rfl) (fun _ _ _ h => h) hHeld (Or.inl ⟨by rfl, fun w' hSw => by (try dsimp only at hSw); (try subst hSw); go_simp⟩) ?_
    simp only [Act.put, List.setIfInBounds_toArray, List.set_cons_zero, List.set_cons_succ]
    refine wpAnyH_done (by kernel_rfl) ?_ _
    clear hHeld
    have hfin := Duo5.some (k := k + 1) F G s t lp xp rp mb n f M _ h5 rest5 like.out len.out (by have := late.out; omega) few big good.out
    replace hfin := Lib.hid hfin
    clear h5 rest5 hS5 ba
    go_wp2
    go_ret
    exact ⟨rfl, hfin.out⟩
end Go.Proofs.YthpjkhmkjhgbkaaGreatDoor
