/- Acts on both: a fuse, a crash, a raw block. -/
import Derived.Test.YthpjkhmkjhgbkaaGreatDoorDu7
namespace Go.Proofs.YthpjkhmkjhgbkaaGreatDoor
open Go.RowKit Go.Maps

set_option maxRecDepth 100000 in
set_option maxHeartbeats 4000000 in
theorem duoFuse_any (w w1 : World) (bp p m N k : Nat) (kind num : Int) (keep : Nat) (raw : List UInt8) (A : Option Addr) (c : Nat) (l : List Ch) (h : Duo5 w w1 bp p m N k) (hn : -9223372036854775808 ≤ num ∧ num ≤ 9223372036854775807) (hkind : kind.tmod 6 = 1) :
    Calls Tryz.prog 14 #[.pointer (some ⟨bp, 0, none⟩), .agg #[.int .i64 kind, .int .i64 num, .int .u64 (keep : Int), .string (strOf raw), .slice A l.length c]] w1 fun e w' => e = .returned (.bool true) ∧ Duo5 w w' bp p m N (k + 1) := by
  generalize strOf raw = rs at *
  obtain ⟨F, G, s, t, v2, v3, v4, h0, like, len, late, hback⟩ := h.parts
  have ka : Only [] w1 (w1.alloc (.cells #[.int .i64 kind, .int .i64 num, .int .u64 (keep : Int), .string rs, .slice A l.length c] 39)) := (Only.refl [] w1).alloc _
  have ba : Blk (w1.alloc (.cells #[.int .i64 kind, .int .i64 num, .int .u64 (keep : Int), .string rs, .slice A l.length c] 39)) w1.heap.size 39 #[.int .i64 kind, .int .i64 num, .int .u64 (keep : Int), .string rs, .slice A l.length c] := Blk.new _ _ _
  have h2 := h0.keep ka
  have hl2 := fun lp xp rp mb n1 f1 M1 n2 f2 M2 (x : Rest5 w w1 bp p m F G lp xp rp mb n1 f1 M1 n2 f2 M2 v4) => x.keep ka
  obtain ⟨q, hq⟩ : ∃ q, q = w1.heap.size := ⟨_, rfl⟩
  rw [← hq] at ba
  have hqF : q ∉ F := fun hm => by have := (h0.fnew _ hm).2; omega
  have hqG : q ∉ G := fun hm => by have := (h0.gnew _ hm).2; omega
  replace hback := Lib.hid hback
  replace hl2 := Lib.hid hl2
  replace like := Lib.hid like
  replace late := Lib.hid late
  replace len := Lib.hid len
  obtain ⟨c0, c1, c2, c3, _⟩ := h2.cells
  have d0 := ba.cell 0
  have d1 := ba.cell 1
  have d2 := ba.cell 2
  have d3 := ba.cell 3
  have d4 := ba.cell 4
  simp only [List.getElem?_toArray, List.getElem?_cons_zero, List.getElem?_cons_succ] at d0 d1 d2 d3 d4
  go_enter Tryz.func14, Tryz.ntmps14
  go_wp2_with fail
  simp only [← hq]
  generalize w1.alloc (.cells #[.int .i64 kind, .int .i64 num, .int .u64 (keep : Int), .string rs, .slice A l.length c] 39) = W at *
  clear h0 ka hq h
  clear d0 d3 d4
  have kd3 : Only [] W W.drew := (Only.refl [] W).drew
  refine wp_region_held_drew (S := fun w' => w'.cell? ⟨bp, 0, none⟩ = some (.pointer (some ⟨p, 0, none⟩)) ∧ w'.cell? ⟨q, 1, none⟩ = some (.int .i64 num)) (by kernel_rfl) ⟨c0, d1⟩ (fun hHeld => ?_)
  refine held_take 0 (.pointer (some ⟨bp, 0, none⟩)) rfl (by kernel_rfl) (by kernel_rfl) (by kernel_rfl) (fun _ _ _ h => h) hHeld (Or.inl ⟨by rfl, fun w' hSw => by (try dsimp only at hSw); (try subst hSw); go_simp⟩) ?_
  simp only [Act.put, List.setIfInBounds_toArray, List.set_cons_zero, List.set_cons_succ]
  refine held_take 1 (.pointer (some ⟨bp, 0, none⟩)) rfl (by kernel_rfl) (by kernel_rfl) (by kernel_rfl) (fun _ _ _ h => h) hHeld (Or.inl ⟨by rfl, fun w' hSw => by (try dsimp only at hSw); (try subst hSw); go_simp⟩) ?_
  simp only [Act.put, List.setIfInBounds_toArray, List.set_cons_zero, List.set_cons_succ]
  refine held_take 2 (.pointer (some ⟨bp, 0, none⟩)) rfl (by kernel_rfl) (by kernel_rfl) (by kernel_rfl) (fun _ _ _ h => h) hHeld (Or.inl ⟨by rfl, fun w' hSw => by (try dsimp only at hSw); (try subst hSw); go_simp⟩) ?_
  simp only [Act.put, List.setIfInBounds_toArray, List.set_cons_zero, List.set_cons_succ]
  refine held_take 3 (.pointer (some ⟨p, 0, none⟩)) rfl (by kernel_rfl) (by kernel_rfl) (by kernel_rfl) (fun _ _ _ h => h) hHeld (Or.inl ⟨by rfl, fun w' hSw => by (try dsimp only at hSw); (try subst hSw); go_simp⟩) ?_
  simp only [Act.put, List.setIfInBounds_toArray, List.set_cons_zero, List.set_cons_succ]
  refine held_take 4 (.pointer (some ⟨q, 1, none⟩)) rfl (by kernel_rfl) (by kernel_rfl) (by kernel_rfl) (fun _ _ _ h => h) hHeld (Or.inl ⟨by rfl, fun w' hSw => by (try dsimp only at hSw); (try subst hSw); go_simp⟩) ?_
  simp only [Act.put, List.setIfInBounds_toArray, List.set_cons_zero, List.set_cons_succ]
  refine held_take 5 (.int .i64 num) rfl (by kernel_rfl) (by kernel_rfl) (by kernel_rfl) (fun _ _ _ h => h) hHeld (Or.inl ⟨by rfl, fun w' hSw => by (try dsimp only at hSw); (try subst hSw); go_simp⟩) ?_
  simp only [Act.put, List.setIfInBounds_toArray, List.set_cons_zero, List.set_cons_succ]
  refine held_step 6 rfl (by kernel_rfl) (fun K hK => ?_)
  go_simp
  go_at_call 21
  refine (fuse_any _ p F s num hn.1 hn.2 (h2.dev.kept kd3 (by simp))).mono ?_
  rintro e w3 ⟨rfl, hs3⟩
  obtain ⟨h3, hl3⟩ := (h2.keep kd3).same hs3
  have k3 := (kd3.more (T := F) (by simp)).trans hs3.2
  have d13 := k3.cell d1 hqF
  have d23 := k3.cell d2 hqF
  obtain ⟨c03, c13, c23, c33, _⟩ := h3.cells
  replace hl3 := Lib.hid (fun lp xp rp mb n1 f1 M1 n2 f2 M2 x => hl3 lp xp rp mb n1 f1 M1 n2 f2 M2 ((hl2.out lp xp rp mb n1 f1 M1 n2 f2 M2 x).keep kd3))
  clear c0 c1 c2 c3 d1 d2 hs3 k3 h2 hl2
  go_wp2_with fail
  refine hK.out _ _ ⟨c03, d13⟩ (fun hHeld => ?_)
  clear hK K
  refine wpAnyH_done (by kernel_rfl) ?_ _
  clear hHeld
  have c0 := c03
  have c1 := c13
  have c2 := c23
  have c3 := c33
  have d1 := d13
  have d2 := d23
  clear c03 c13 c23 c33 d13 d23 kd3
  go_wp2_with fail
  have kd4 : Only [] w3 w3.drew := (Only.refl [] w3).drew
  refine wp_region_held_drew (S := fun w' => w'.cell? ⟨bp, 1, none⟩ = some (.pointer (some ⟨m, 0, none⟩)) ∧ w'.cell? ⟨q, 1, none⟩ = some (.int .i64 num)) (by kernel_rfl) ⟨c1, d1⟩ (fun hHeld => ?_)
  refine held_take 0 (.pointer (some ⟨bp, 0, none⟩)) rfl (by kernel_rfl) (by kernel_rfl) (by kernel_rfl) (fun _ _ _ h => h) hHeld (Or.inl ⟨by rfl, fun w' hSw => by (try dsimp only at hSw); (try subst hSw); go_simp⟩) ?_
  simp only [Act.put, List.setIfInBounds_toArray, List.set_cons_zero, List.set_cons_succ]
  refine held_take 1 (.pointer (some ⟨bp, 0, none⟩)) rfl (by kernel_rfl) (by kernel_rfl) (by kernel_rfl) (fun _ _ _ h => h) hHeld (Or.inl ⟨by rfl, fun w' hSw => by (try dsimp only at hSw); (try subst hSw); go_simp⟩) ?_
  simp only [Act.put, List.setIfInBounds_toArray, List.set_cons_zero, List.set_cons_succ]
  refine held_take 2 (.pointer (some ⟨bp, 1, none⟩)) rfl (by kernel_rfl) (by kernel_rfl) (by kernel_rfl) (fun _ _ _ h => h) hHeld (Or.inl ⟨by rfl, fun w' hSw => by (try dsimp only at hSw); (try subst hSw); go_simp⟩) ?_
  simp only [Act.put, List.setIfInBounds_toArray, List.set_cons_zero, List.set_cons_succ]
  refine held_take 3 (.pointer (some ⟨m, 0, none⟩)) rfl (by kernel_rfl) (by kernel_rfl) (by kernel_rfl) (fun _ _ _ h => h) hHeld (Or.inl ⟨by rfl, fun w' hSw => by (try dsimp only at hSw); (try subst hSw); go_simp⟩) ?_
  simp only [Act.put, List.setIfInBounds_toArray, List.set_cons_zero, List.set_cons_succ]
  refine held_take 4 (.pointer (some ⟨q, 1, none⟩)) rfl (by kernel_rfl) (by kernel_rfl) (by kernel_rfl) (fun _ _ _ h => h) hHeld (Or.inl ⟨by rfl, fun w' hSw => by (try dsimp only at hSw); (try subst hSw); go_simp⟩) ?_
  simp only [Act.put, List.setIfInBounds_toArray, List.set_cons_zero, List.set_cons_succ]
  refine held_take 5 (.int .i64 num) rfl (by kernel_rfl) (by kernel_rfl) (by kernel_rfl) (fun _ _ _ h => h) hHeld (Or.inl ⟨by rfl, fun w' hSw => by (try dsimp only at hSw); (try subst hSw); go_simp⟩) ?_
  simp only [Act.put, List.setIfInBounds_toArray, List.set_cons_zero, List.set_cons_succ]
  refine held_step 6 rfl (by kernel_rfl) (fun K hK => ?_)
  go_simp
  go_at_call 31
  refine (light_any _ m G t num hn.1 hn.2 (h3.ref.kept kd4 (by simp))).mono ?_
  rintro e w4 ⟨rfl, hs4⟩
  obtain ⟨h4, hl4⟩ := (h3.keep kd4).rsame hs4
  have k4 := (kd4.more (T := G) (by simp)).trans hs4.2
  have d14 := k4.cell d1 hqG
  have d24 := k4.cell d2 hqG
  obtain ⟨c04, c14, c24, c34, _⟩ := h4.cells
  replace hl4 := Lib.hid (fun lp xp rp mb n1 f1 M1 n2 f2 M2 x => hl4 lp xp rp mb n1 f1 M1 n2 f2 M2 ((hl3.out lp xp rp mb n1 f1 M1 n2 f2 M2 x).keep kd4))
  clear c0 c1 c2 c3 d1 d2 hs4 k4 h3 hl3
  go_wp2_with fail
  refine hK.out _ _ ⟨c14, d14⟩ (fun hHeld => ?_)
  clear hK K
  refine wpAnyH_done (by kernel_rfl) ?_ _
  clear hHeld
  have c0 := c04
  have c1 := c14
  have c2 := c24
  have c3 := c34
  have d1 := d14
  have d2 := d24
  clear c04 c14 c24 c34 d14 d24 kd4
  have hfin := hback.out w4 F G _ _ (k + 1) h4 hl4.out (like.out.lit num) len.out (by have := late.out; show s.late.length ≤ _; omega)
  replace hfin := Lib.hid hfin
  clear h4 hl4 hback
  go_wp2
  go_ret
  exact ⟨rfl, hfin.out⟩


set_option maxRecDepth 100000 in
set_option maxHeartbeats 4000000 in
theorem duoCrash_any (w w1 : World) (bp p m N k : Nat) (kind num : Int) (keep : Nat) (raw : List UInt8) (A : Option Addr) (c : Nat) (l : List Ch) (h : Duo5 w w1 bp p m N k) (hk : k ≤ 900) (hkp : keep < 18446744073709551616) (hkind : kind.tmod 6 = 2) :
    Calls Tryz.prog 14 #[.pointer (some ⟨bp, 0, none⟩), .agg #[.int .i64 kind, .int .i64 num, .int .u64 (keep : Int), .string (strOf raw), .slice A l.length c]] w1 fun e w' => e = .returned (.bool true) ∧ Duo5 w w' bp p m N (k + 1) := by
  generalize strOf raw = rs at *
  obtain ⟨F, G, s, t, v2, v3, v4, h0, like, len, late, hback⟩ := h.parts
  have ka : Only [] w1 (w1.alloc (.cells #[.int .i64 kind, .int .i64 num, .int .u64 (keep : Int), .string rs, .slice A l.length c] 39)) := (Only.refl [] w1).alloc _
  have ba : Blk (w1.alloc (.cells #[.int .i64 kind, .int .i64 num, .int .u64 (keep : Int), .string rs, .slice A l.length c] 39)) w1.heap.size 39 #[.int .i64 kind, .int .i64 num, .int .u64 (keep : Int), .string rs, .slice A l.length c] := Blk.new _ _ _
  have h2 := h0.keep ka
  have hl2 := fun lp xp rp mb n1 f1 M1 n2 f2 M2 (x : Rest5 w w1 bp p m F G lp xp rp mb n1 f1 M1 n2 f2 M2 v4) => x.keep ka
  obtain ⟨q, hq⟩ : ∃ q, q = w1.heap.size := ⟨_, rfl⟩
  rw [← hq] at ba
  have hqF : q ∉ F := fun hm => by have := (h0.fnew _ hm).2; omega
  have hqG : q ∉ G := fun hm => by have := (h0.gnew _ hm).2; omega
  replace hback := Lib.hid hback
  replace hl2 := Lib.hid hl2
  replace like := Lib.hid like
  replace late := Lib.hid late
  replace len := Lib.hid len
  obtain ⟨c0, c1, c2, c3, _⟩ := h2.cells
  have d0 := ba.cell 0
  have d1 := ba.cell 1
  have d2 := ba.cell 2
  have d3 := ba.cell 3
  have d4 := ba.cell 4
  simp only [List.getElem?_toArray, List.getElem?_cons_zero, List.getElem?_cons_succ] at d0 d1 d2 d3 d4
  go_enter Tryz.func14, Tryz.ntmps14
  go_wp2_with fail
  simp only [← hq]
  generalize w1.alloc (.cells #[.int .i64 kind, .int .i64 num, .int .u64 (keep : Int), .string rs, .slice A l.length c] 39) = W at *
  clear h0 ka hq h
  clear d0 d3 d4
  have kd3 : Only [] W W.drew := (Only.refl [] W).drew
  refine wp_region_held_drew (S := fun w' => w'.cell? ⟨bp, 0, none⟩ = some (.pointer (some ⟨p, 0, none⟩)) ∧ w'.cell? ⟨q, 2, none⟩ = some (.int .u64 (keep : Int))) (by kernel_rfl) ⟨c0, d2⟩ (fun hHeld => ?_)
  refine held_take 0 (.pointer (some ⟨bp, 0, none⟩)) rfl (by kernel_rfl) (by kernel_rfl) (by kernel_rfl) (fun _ _ _ h => h) hHeld (Or.inl ⟨by rfl, fun w' hSw => by (try dsimp only at hSw); (try subst hSw); go_simp⟩) ?_
  simp only [Act.put, List.setIfInBounds_toArray, List.set_cons_zero, List.set_cons_succ]
  refine held_take 1 (.pointer (some ⟨bp, 0, none⟩)) rfl (by kernel_rfl) (by kernel_rfl) (by kernel_rfl) (fun _ _ _ h => h) hHeld (Or.inl ⟨by rfl, fun w' hSw => by (try dsimp only at hSw); (try subst hSw); go_simp⟩) ?_
  simp only [Act.put, List.setIfInBounds_toArray, List.set_cons_zero, List.set_cons_succ]
  refine held_take 2 (.pointer (some ⟨bp, 0, none⟩)) rfl (by kernel_rfl) (by kernel_rfl) (by kernel_rfl) (fun _ _ _ h => h) hHeld (Or.inl ⟨by rfl, fun w' hSw => by (try dsimp only at hSw); (try subst hSw); go_simp⟩) ?_
  simp only [Act.put, List.setIfInBounds_toArray, List.set_cons_zero, List.set_cons_succ]
  refine held_take 3 (.pointer (some ⟨p, 0, none⟩)) rfl (by kernel_rfl) (by kernel_rfl) (by kernel_rfl) (fun _ _ _ h => h) hHeld (Or.inl ⟨by rfl, fun w' hSw => by (try dsimp only at hSw); (try subst hSw); go_simp⟩) ?_
  simp only [Act.put, List.setIfInBounds_toArray, List.set_cons_zero, List.set_cons_succ]
  refine held_take 4 (.pointer (some ⟨q, 2, none⟩)) rfl (by kernel_rfl) (by kernel_rfl) (by kernel_rfl) (fun _ _ _ h => h) hHeld (Or.inl ⟨by rfl, fun w' hSw => by (try dsimp only at hSw); (try subst hSw); go_simp⟩) ?_
  simp only [Act.put, List.setIfInBounds_toArray, List.set_cons_zero, List.set_cons_succ]
  refine held_take 5 (.int .u64 (keep : Int)) rfl (by kernel_rfl) (by kernel_rfl) (by kernel_rfl) (fun _ _ _ h => h) hHeld (Or.inl ⟨by rfl, fun w' hSw => by (try dsimp only at hSw); (try subst hSw); go_simp⟩) ?_
  simp only [Act.put, List.setIfInBounds_toArray, List.set_cons_zero, List.set_cons_succ]
  refine held_step 6 rfl (by kernel_rfl) (fun K hK => ?_)
  go_simp
  go_at_call 22
  refine (crash_any _ p F s keep hkp (h2.dev.kept kd3 (by simp))).mono ?_
  rintro e w3 ⟨rfl, hs3⟩
  obtain ⟨h3, hl3⟩ := (h2.keep kd3).same hs3
  have k3 := (kd3.more (T := F) (by simp)).trans hs3.2
  have d13 := k3.cell d1 hqF
  have d23 := k3.cell d2 hqF
  obtain ⟨c03, c13, c23, c33, _⟩ := h3.cells
  replace hl3 := Lib.hid (fun lp xp rp mb n1 f1 M1 n2 f2 M2 x => hl3 lp xp rp mb n1 f1 M1 n2 f2 M2 ((hl2.out lp xp rp mb n1 f1 M1 n2 f2 M2 x).keep kd3))
  clear c0 c1 c2 c3 d1 d2 hs3 k3 h2 hl2
  go_wp2_with fail
  refine hK.out _ _ ⟨c03, d23⟩ (fun hHeld => ?_)
  clear hK K
  refine wpAnyH_done (by kernel_rfl) ?_ _
  clear hHeld
  have c0 := c03
  have c1 := c13
  have c2 := c23
  have c3 := c33
  have d1 := d13
  have d2 := d23
  clear c03 c13 c23 c33 d13 d23 kd3
  go_wp2_with fail
  have kd4 : Only [] w3 w3.drew := (Only.refl [] w3).drew
  refine wp_region_held_drew (S := fun w' => w'.cell? ⟨bp, 1, none⟩ = some (.pointer (some ⟨m, 0, none⟩)) ∧ w'.cell? ⟨q, 2, none⟩ = some (.int .u64 (keep : Int))) (by kernel_rfl) ⟨c1, d2⟩ (fun hHeld => ?_)
  refine held_take 0 (.pointer (some ⟨bp, 0, none⟩)) rfl (by kernel_rfl) (by kernel_rfl) (by kernel_rfl) (fun _ _ _ h => h) hHeld (Or.inl ⟨by rfl, fun w' hSw => by (try dsimp only at hSw); (try subst hSw); go_simp⟩) ?_
  simp only [Act.put, List.setIfInBounds_toArray, List.set_cons_zero, List.set_cons_succ]
  refine held_take 1 (.pointer (some ⟨bp, 0, none⟩)) rfl (by kernel_rfl) (by kernel_rfl) (by kernel_rfl) (fun _ _ _ h => h) hHeld (Or.inl ⟨by rfl, fun w' hSw => by (try dsimp only at hSw); (try subst hSw); go_simp⟩) ?_
  simp only [Act.put, List.setIfInBounds_toArray, List.set_cons_zero, List.set_cons_succ]
  refine held_take 2 (.pointer (some ⟨bp, 1, none⟩)) rfl (by kernel_rfl) (by kernel_rfl) (by kernel_rfl) (fun _ _ _ h => h) hHeld (Or.inl ⟨by rfl, fun w' hSw => by (try dsimp only at hSw); (try subst hSw); go_simp⟩) ?_
  simp only [Act.put, List.setIfInBounds_toArray, List.set_cons_zero, List.set_cons_succ]
  refine held_take 3 (.pointer (some ⟨m, 0, none⟩)) rfl (by kernel_rfl) (by kernel_rfl) (by kernel_rfl) (fun _ _ _ h => h) hHeld (Or.inl ⟨by rfl, fun w' hSw => by (try dsimp only at hSw); (try subst hSw); go_simp⟩) ?_
  simp only [Act.put, List.setIfInBounds_toArray, List.set_cons_zero, List.set_cons_succ]
  refine held_take 4 (.pointer (some ⟨q, 2, none⟩)) rfl (by kernel_rfl) (by kernel_rfl) (by kernel_rfl) (fun _ _ _ h => h) hHeld (Or.inl ⟨by rfl, fun w' hSw => by (try dsimp only at hSw); (try subst hSw); go_simp⟩) ?_
  simp only [Act.put, List.setIfInBounds_toArray, List.set_cons_zero, List.set_cons_succ]
  refine held_take 5 (.int .u64 (keep : Int)) rfl (by kernel_rfl) (by kernel_rfl) (by kernel_rfl) (fun _ _ _ h => h) hHeld (Or.inl ⟨by rfl, fun w' hSw => by (try dsimp only at hSw); (try subst hSw); go_simp⟩) ?_
  simp only [Act.put, List.setIfInBounds_toArray, List.set_cons_zero, List.set_cons_succ]
  refine held_step 6 rfl (by kernel_rfl) (fun K hK => ?_)
  go_simp
  go_at_call 32
  refine (rcrash_any _ m G t keep (by rw [← like.out.2.1]; have := late.out; omega) (h3.ref.kept kd4 (by simp))).mono ?_
  rintro e w4 ⟨rfl, hs4⟩
  obtain ⟨h4, hl4⟩ := (h3.keep kd4).rsame hs4
  have k4 := (kd4.more (T := G) (by simp)).trans hs4.2
  have d14 := k4.cell d1 hqG
  have d24 := k4.cell d2 hqG
  obtain ⟨c04, c14, c24, c34, _⟩ := h4.cells
  replace hl4 := Lib.hid (fun lp xp rp mb n1 f1 M1 n2 f2 M2 x => hl4 lp xp rp mb n1 f1 M1 n2 f2 M2 ((hl3.out lp xp rp mb n1 f1 M1 n2 f2 M2 x).keep kd4))
  clear c0 c1 c2 c3 d1 d2 hs4 k4 h3 hl3
  go_wp2_with fail
  refine hK.out _ _ ⟨c14, d24⟩ (fun hHeld => ?_)
  clear hK K
  refine wpAnyH_done (by kernel_rfl) ?_ _
  clear hHeld
  have c0 := c04
  have c1 := c14
  have c2 := c24
  have c3 := c34
  have d1 := d14
  have d2 := d24
  clear c04 c14 c24 c34 d14 d24 kd4
  go_wp2_with fail
  have hlen4 : (crashed s keep).firm.length = N := by show (settle keep s.late s.firm).length = N; rw [settle_length]; exact len.out
  have hlate4 : (crashed s keep).late.length = 0 := rfl
  have hop := duoOpen_any w w4 bp p m N (k + 1) F G _ _ v2 v3 v4 h4 (like.out.crashed keep) hlen4 (by rw [hlate4]; omega) (by omega)
  refine hop.mono ?_
  rintro e w5 ⟨rfl, hfin⟩
  replace hfin := Lib.hid hfin
  clear h4 hl4 hback hop
  go_wp2
  go_ret
  exact ⟨rfl, hfin.out⟩

set_option maxRecDepth 100000 in
set_option maxHeartbeats 4000000 in
theorem duoRaw_any (w w1 : World) (bp p m N k : Nat) (kind num : Int) (keep : Nat) (raw : List UInt8) (A : Option Addr) (c : Nat) (l : List Ch) (h : Duo5 w w1 bp p m N k) (hk : k ≤ 900) (hn : -9223372036854775808 ≤ num ∧ num ≤ 9223372036854775807) (hraw : raw.length ≤ 1048576) (hkind : kind.tmod 6 = 5) :
    Calls Tryz.prog 14 #[.pointer (some ⟨bp, 0, none⟩), .agg #[.int .i64 kind, .int .i64 num, .int .u64 (keep : Int), .string (strOf raw), .slice A l.length c]] w1 fun e w' => e = .returned (.bool true) ∧ Duo5 w w' bp p m N (k + 1) := by
  have hwhole : ∀ W, Calls Tryz.prog 36 #[.string (strOf raw)] W fun e w' => e = .returned (.string (strOf ((fillL raw).take 256))) ∧ w' = W := fun W => whole_any W raw hraw
  generalize (fillL raw).take 256 = B at *
  generalize strOf raw = rs at *
  replace hwhole := Lib.hid hwhole
  obtain ⟨F, G, s, t, v2, v3, v4, h0, like, len, late, hback⟩ := h.parts
  have ka : Only [] w1 (w1.alloc (.cells #[.int .i64 kind, .int .i64 num, .int .u64 (keep : Int), .string rs, .slice A l.length c] 39)) := (Only.refl [] w1).alloc _
  have ba : Blk (w1.alloc (.cells #[.int .i64 kind, .int .i64 num, .int .u64 (keep : Int), .string rs, .slice A l.length c] 39)) w1.heap.size 39 #[.int .i64 kind, .int .i64 num, .int .u64 (keep : Int), .string rs, .slice A l.length c] := Blk.new _ _ _
  have h2 := h0.keep ka
  have hl2 := fun lp xp rp mb n1 f1 M1 n2 f2 M2 (x : Rest5 w w1 bp p m F G lp xp rp mb n1 f1 M1 n2 f2 M2 v4) => x.keep ka
  obtain ⟨q, hq⟩ : ∃ q, q = w1.heap.size := ⟨_, rfl⟩
  rw [← hq] at ba
  have hqF : q ∉ F := fun hm => by have := (h0.fnew _ hm).2; omega
  have hqG : q ∉ G := fun hm => by have := (h0.gnew _ hm).2; omega
  replace hback := Lib.hid hback
  replace hl2 := Lib.hid hl2
  replace like := Lib.hid like
  replace late := Lib.hid late
  replace len := Lib.hid len
  obtain ⟨c0, c1, c2, c3, _⟩ := h2.cells
  have d0 := ba.cell 0
  have d1 := ba.cell 1
  have d2 := ba.cell 2
  have d3 := ba.cell 3
  have d4 := ba.cell 4
  simp only [List.getElem?_toArray, List.getElem?_cons_zero, List.getElem?_cons_succ] at d0 d1 d2 d3 d4
  go_enter Tryz.func14, Tryz.ntmps14
  go_wp2_with fail
  simp only [← hq]
  generalize w1.alloc (.cells #[.int .i64 kind, .int .i64 num, .int .u64 (keep : Int), .string rs, .slice A l.length c] 39) = W at *
  clear h0 ka hq h
  clear d0 d2 d4
  have kd3 : Only [] W W.drew := (Only.refl [] W).drew
  refine wp_region_held_drew (S := fun w' => w'.cell? ⟨bp, 0, none⟩ = some (.pointer (some ⟨p, 0, none⟩)) ∧ w'.cell? ⟨q, 1, none⟩ = some (.int .i64 num) ∧ w'.cell? ⟨q, 3, none⟩ = some (.string rs)) (by kernel_rfl) ⟨c0, d1, d3⟩ (fun hHeld => ?_)
  refine held_take 0 (.pointer (some ⟨bp, 0, none⟩)) rfl (by kernel_rfl) (by kernel_rfl) (by kernel_rfl) (fun _ _ _ h => h) hHeld (Or.inl ⟨by rfl, fun w' hSw => by (try dsimp only at hSw); (try subst hSw); go_simp⟩) ?_
  simp only [Act.put, List.setIfInBounds_toArray, List.set_cons_zero, List.set_cons_succ]
  refine held_take 1 (.pointer (some ⟨bp, 0, none⟩)) rfl (by kernel_rfl) (by kernel_rfl) (by kernel_rfl) (fun _ _ _ h => h) hHeld (Or.inl ⟨by rfl, fun w' hSw => by (try dsimp only at hSw); (try subst hSw); go_simp⟩) ?_
  simp only [Act.put, List.setIfInBounds_toArray, List.set_cons_zero, List.set_cons_succ]
  refine held_take 2 (.pointer (some ⟨bp, 0, none⟩)) rfl (by kernel_rfl) (by kernel_rfl) (by kernel_rfl) (fun _ _ _ h => h) hHeld (Or.inl ⟨by rfl, fun w' hSw => by (try dsimp only at hSw); (try subst hSw); go_simp⟩) ?_
  simp only [Act.put, List.setIfInBounds_toArray, List.set_cons_zero, List.set_cons_succ]
  refine held_take 3 (.pointer (some ⟨p, 0, none⟩)) rfl (by kernel_rfl) (by kernel_rfl) (by kernel_rfl) (fun _ _ _ h => h) hHeld (Or.inl ⟨by rfl, fun w' hSw => by (try dsimp only at hSw); (try subst hSw); go_simp⟩) ?_
  simp only [Act.put, List.setIfInBounds_toArray, List.set_cons_zero, List.set_cons_succ]
  refine held_take 4 (.pointer (some ⟨q, 1, none⟩)) rfl (by kernel_rfl) (by kernel_rfl) (by kernel_rfl) (fun _ _ _ h => h) hHeld (Or.inl ⟨by rfl, fun w' hSw => by (try dsimp only at hSw); (try subst hSw); go_simp⟩) ?_
  simp only [Act.put, List.setIfInBounds_toArray, List.set_cons_zero, List.set_cons_succ]
  refine held_take 5 (.int .i64 num) rfl (by kernel_rfl) (by kernel_rfl) (by kernel_rfl) (fun _ _ _ h => h) hHeld (Or.inl ⟨by rfl, fun w' hSw => by (try dsimp only at hSw); (try subst hSw); go_simp⟩) ?_
  simp only [Act.put, List.setIfInBounds_toArray, List.set_cons_zero, List.set_cons_succ]
  refine held_take 6 (.pointer (some ⟨q, 3, none⟩)) rfl (by kernel_rfl) (by kernel_rfl) (by kernel_rfl) (fun _ _ _ h => h) hHeld (Or.inl ⟨by rfl, fun w' hSw => by (try dsimp only at hSw); (try subst hSw); go_simp⟩) ?_
  simp only [Act.put, List.setIfInBounds_toArray, List.set_cons_zero, List.set_cons_succ]
  refine held_take 7 (.string rs) rfl (by kernel_rfl) (by kernel_rfl) (by kernel_rfl) (fun _ _ _ h => h) hHeld (Or.inl ⟨by rfl, fun w' hSw => by (try dsimp only at hSw); (try subst hSw); go_simp⟩) ?_
  simp only [Act.put, List.setIfInBounds_toArray, List.set_cons_zero, List.set_cons_succ]
  refine held_step 8 rfl (by kernel_rfl) (fun K hK => ?_)
  go_simp
  go_at_call 36
  refine (hwhole.out _).mono ?_
  rintro e w30 ⟨rfl, rfl⟩
  go_wp2_with fail
  refine hK.out _ _ ⟨c0, d1, d3⟩ (fun hHeld => ?_)
  clear hK K
  refine held_step 9 rfl (by kernel_rfl) (fun K hK => ?_)
  go_simp
  go_at_call 35
  refine (write_any _ p F s num B hn.1 hn.2 (by have := late.out; omega) (h2.dev.kept kd3 (by simp))).mono ?_
  rintro e w3 ⟨rfl, hs3⟩
  have k3 := (kd3.more (T := F) (by simp)).trans hs3.only
  obtain ⟨F3, h3, hl3⟩ := (h2.keep kd3).did hs3
  have d13 := k3.cell d1 hqF
  have d33 := k3.cell d3 hqF
  obtain ⟨c03, c13, c23, c33, _⟩ := h3.cells
  replace hl3 := Lib.hid (fun lp xp rp mb n1 f1 M1 n2 f2 M2 x => hl3 lp xp rp mb n1 f1 M1 n2 f2 M2 ((hl2.out lp xp rp mb n1 f1 M1 n2 f2 M2 x).keep kd3))
  clear c0 c1 c2 c3 d1 d3 hs3 k3 h2 hl2
  obtain ⟨er, her⟩ : ∃ er, writeErr s num B = er := ⟨_, rfl⟩
  rw [her]
  go_wp2_with fail
  refine hK.out _ _ ⟨c03, d13, d33⟩ (fun hHeld => ?_)
  clear hK K
  refine held_take 10 (.int .i64 er) rfl (by kernel_rfl) (by kernel_rfl) (by kernel_rfl) (fun _ _ _ h => h) hHeld (Or.inl ⟨by rfl, fun w' hSw => by (try dsimp only at hSw); (try subst hSw); go_simp⟩) ?_
  simp only [Act.put, List.setIfInBounds_toArray, List.set_cons_zero, List.set_cons_succ]
  refine wpAnyH_done (by kernel_rfl) ?_ _
  clear hHeld
  have c0 := c03
  have c1 := c13
  have c2 := c23
  have c3 := c33
  have d1 := d13
  have d3 := d33
  have her2 : writeErr t num B = er := by rw [← her]; exact (like.out.writeErr num B).symm
  replace her := Lib.hid her
  clear c03 c13 c23 c33 d13 d33 kd3
  go_wp2_with fail
  have kd4 : Only [] w3 w3.drew := (Only.refl [] w3).drew
  refine wp_region_held_drew (S := fun w' => w'.cell? ⟨bp, 1, none⟩ = some (.pointer (some ⟨m, 0, none⟩)) ∧ w'.cell? ⟨q, 1, none⟩ = some (.int .i64 num) ∧ w'.cell? ⟨q, 3, none⟩ = some (.string rs)) (by kernel_rfl) ⟨c1, d1, d3⟩ (fun hHeld => ?_)
  refine held_take 0 (.int .i64 er) rfl (by kernel_rfl) (by kernel_rfl) (by kernel_rfl) (fun _ _ _ h => h) hHeld (Or.inl ⟨by rfl, fun w' hSw => by (try dsimp only at hSw); (try subst hSw); go_simp⟩) ?_
  simp only [Act.put, List.setIfInBounds_toArray, List.set_cons_zero, List.set_cons_succ]
  refine held_take 1 (.pointer (some ⟨bp, 0, none⟩)) rfl (by kernel_rfl) (by kernel_rfl) (by kernel_rfl) (fun _ _ _ h => h) hHeld (Or.inl ⟨by rfl, fun w' hSw => by (try dsimp only at hSw); (try subst hSw); go_simp⟩) ?_
  simp only [Act.put, List.setIfInBounds_toArray, List.set_cons_zero, List.set_cons_succ]
  refine held_take 2 (.pointer (some ⟨bp, 0, none⟩)) rfl (by kernel_rfl) (by kernel_rfl) (by kernel_rfl) (fun _ _ _ h => h) hHeld (Or.inl ⟨by rfl, fun w' hSw => by (try dsimp only at hSw); (try subst hSw); go_simp⟩) ?_
  simp only [Act.put, List.setIfInBounds_toArray, List.set_cons_zero, List.set_cons_succ]
  refine held_take 3 (.pointer (some ⟨bp, 1, none⟩)) rfl (by kernel_rfl) (by kernel_rfl) (by kernel_rfl) (fun _ _ _ h => h) hHeld (Or.inl ⟨by rfl, fun w' hSw => by (try dsimp only at hSw); (try subst hSw); go_simp⟩) ?_
  simp only [Act.put, List.setIfInBounds_toArray, List.set_cons_zero, List.set_cons_succ]
  refine held_take 4 (.pointer (some ⟨m, 0, none⟩)) rfl (by kernel_rfl) (by kernel_rfl) (by kernel_rfl) (fun _ _ _ h => h) hHeld (Or.inl ⟨by rfl, fun w' hSw => by (try dsimp only at hSw); (try subst hSw); go_simp⟩) ?_
  simp only [Act.put, List.setIfInBounds_toArray, List.set_cons_zero, List.set_cons_succ]
  refine held_take 5 (.pointer (some ⟨q, 1, none⟩)) rfl (by kernel_rfl) (by kernel_rfl) (by kernel_rfl) (fun _ _ _ h => h) hHeld (Or.inl ⟨by rfl, fun w' hSw => by (try dsimp only at hSw); (try subst hSw); go_simp⟩) ?_
  simp only [Act.put, List.setIfInBounds_toArray, List.set_cons_zero, List.set_cons_succ]
  refine held_take 6 (.int .i64 num) rfl (by kernel_rfl) (by kernel_rfl) (by kernel_rfl) (fun _ _ _ h => h) hHeld (Or.inl ⟨by rfl, fun w' hSw => by (try dsimp only at hSw); (try subst hSw); go_simp⟩) ?_
  simp only [Act.put, List.setIfInBounds_toArray, List.set_cons_zero, List.set_cons_succ]
  refine held_take 7 (.pointer (some ⟨q, 3, none⟩)) rfl (by kernel_rfl) (by kernel_rfl) (by kernel_rfl) (fun _ _ _ h => h) hHeld (Or.inl ⟨by rfl, fun w' hSw => by (try dsimp only at hSw); (try subst hSw); go_simp⟩) ?_
  simp only [Act.put, List.setIfInBounds_toArray, List.set_cons_zero, List.set_cons_succ]
  refine held_take 8 (.string rs) rfl (by kernel_rfl) (by kernel_rfl) (by kernel_rfl) (fun _ _ _ h => h) hHeld (Or.inl ⟨by rfl, fun w' hSw => by (try dsimp only at hSw); (try subst hSw); go_simp⟩) ?_
  simp only [Act.put, List.setIfInBounds_toArray, List.set_cons_zero, List.set_cons_succ]
  refine held_step 9 rfl (by kernel_rfl) (fun K hK => ?_)
  go_simp
  go_at_call 36
  refine (hwhole.out _).mono ?_
  rintro e w40 ⟨rfl, rfl⟩
  go_wp2_with fail
  refine hK.out _ _ ⟨c1, d1, d3⟩ (fun hHeld => ?_)
  clear hK K
  refine held_step 10 rfl (by kernel_rfl) (fun K hK => ?_)
  go_simp
  go_at_call 37
  refine (rwrite_any _ m G t num B hn.1 hn.2 (by rw [← like.out.2.1]; have := late.out; omega) (h3.ref.kept kd4 (by simp))).mono ?_
  rintro e w4 ⟨rfl, hs4⟩
  have k4 := (kd4.more (T := G) (by simp)).trans hs4.only
  obtain ⟨G4, h4, hl4⟩ := (h3.keep kd4).rdid hs4
  have d14 := k4.cell d1 hqG
  have d34 := k4.cell d3 hqG
  obtain ⟨c04, c14, c24, c34, _⟩ := h4.cells
  replace hl4 := Lib.hid (fun lp xp rp mb n1 f1 M1 n2 f2 M2 x => hl4 lp xp rp mb n1 f1 M1 n2 f2 M2 ((hl3.out lp xp rp mb n1 f1 M1 n2 f2 M2 x).keep kd4))
  clear c0 c1 c2 c3 d1 d3 hs4 k4 h3 hl3
  rw [her2]
  replace her2 := Lib.hid her2
  go_wp2_with fail
  refine hK.out _ _ ⟨c14, d14, d34⟩ (fun hHeld => ?_)
  clear hK K
  refine held_take 11 (.bool true) rfl (by kernel_rfl) (by kernel_rfl) (by kernel_rfl) (fun _ _ _ h => h) hHeld (Or.inl ⟨by rfl, fun w' hSw => by (try dsimp only at hSw); (try subst hSw); go_simp⟩) ?_
  simp only [Act.put, List.setIfInBounds_toArray, List.set_cons_zero, List.set_cons_succ]
  refine held_take 12 (.bool true) rfl (by kernel_rfl) (by kernel_rfl) (by kernel_rfl) (fun _ _ _ h => h) hHeld (Or.inl ⟨by rfl, fun w' hSw => by (try dsimp only at hSw); (try subst hSw); go_simp⟩) ?_
  simp only [Act.put, List.setIfInBounds_toArray, List.set_cons_zero, List.set_cons_succ]
  refine wpAnyH_done (by kernel_rfl) ?_ _
  clear hHeld
  have hlen4 : (written s num B).firm.length = N := by rw [written_firm]; exact len.out
  have hlate4 := written_late s num B
  have hfin := hback.out w4 F3 G4 _ _ (k + 1) h4 hl4.out (like.out.written num B) hlen4 (by have := late.out; omega)
  replace hfin := Lib.hid hfin
  clear h4 hl4 hback c04 c14 c24 c34 d14 d34 kd4 hlate4
  go_wp2
  go_ret
  exact ⟨rfl, hfin.out⟩


set_option maxRecDepth 100000 in
set_option maxHeartbeats 4000000 in
theorem duoElse_any (w w1 : World) (bp p m N k : Nat) (kind num : Int) (keep : Nat) (raw : List UInt8) (A : Option Addr) (c : Nat) (l : List Ch) (h : Duo5 w w1 bp p m N k) (hkind : ∀ i : Int, 0 ≤ i → i < 6 → kind.tmod 6 ≠ i) :
    Calls Tryz.prog 14 #[.pointer (some ⟨bp, 0, none⟩), .agg #[.int .i64 kind, .int .i64 num, .int .u64 (keep : Int), .string (strOf raw), .slice A l.length c]] w1 fun e w' => e = .returned (.bool true) ∧ Duo5 w w' bp p m N (k + 1) := by
  obtain ⟨r6, hr6⟩ : ∃ r6, kind.tmod 6 = r6 := ⟨_, rfl⟩
  rw [hr6] at hkind
  have n0 : r6 ≠ 0 := hkind 0 (by decide) (by decide)
  have n1 : r6 ≠ 1 := hkind 1 (by decide) (by decide)
  have n2 : r6 ≠ 2 := hkind 2 (by decide) (by decide)
  have n3 : r6 ≠ 3 := hkind 3 (by decide) (by decide)
  have n4 : r6 ≠ 4 := hkind 4 (by decide) (by decide)
  have n5 : r6 ≠ 5 := hkind 5 (by decide) (by decide)
  clear hkind
  generalize strOf raw = rs at *
  obtain ⟨F, G, s, t, v2, v3, v4, h0, like, len, late, hback⟩ := h.parts
  have ka : Only [] w1 (w1.alloc (.cells #[.int .i64 kind, .int .i64 num, .int .u64 (keep : Int), .string rs, .slice A l.length c] 39)) := (Only.refl [] w1).alloc _
  have ba : Blk (w1.alloc (.cells #[.int .i64 kind, .int .i64 num, .int .u64 (keep : Int), .string rs, .slice A l.length c] 39)) w1.heap.size 39 #[.int .i64 kind, .int .i64 num, .int .u64 (keep : Int), .string rs, .slice A l.length c] := Blk.new _ _ _
  have h2 := h0.keep ka
  have hl2 := fun lp xp rp mb n1 f1 M1 n2 f2 M2 (x : Rest5 w w1 bp p m F G lp xp rp mb n1 f1 M1 n2 f2 M2 v4) => x.keep ka
  obtain ⟨q, hq⟩ : ∃ q, q = w1.heap.size := ⟨_, rfl⟩
  rw [← hq] at ba
  have hqF : q ∉ F := fun hm => by have := (h0.fnew _ hm).2; omega
  have hqG : q ∉ G := fun hm => by have := (h0.gnew _ hm).2; omega
  replace hback := Lib.hid hback
  replace hl2 := Lib.hid hl2
  replace like := Lib.hid like
  replace late := Lib.hid late
  replace len := Lib.hid len
  obtain ⟨c0, c1, c2, c3, _⟩ := h2.cells
  have d0 := ba.cell 0
  have d1 := ba.cell 1
  have d2 := ba.cell 2
  have d3 := ba.cell 3
  have d4 := ba.cell 4
  simp only [List.getElem?_toArray, List.getElem?_cons_zero, List.getElem?_cons_succ] at d0 d1 d2 d3 d4
  go_enter Tryz.func14, Tryz.ntmps14
  go_wp2
  have hfin := hback.out _ F G s t (k + 1) h2 hl2.out like.out len.out (by have := late.out; omega)
  replace hfin := Lib.hid hfin
  go_ret
  exact ⟨rfl, hfin.out⟩

end Go.Proofs.YthpjkhmkjhgbkaaGreatDoor
