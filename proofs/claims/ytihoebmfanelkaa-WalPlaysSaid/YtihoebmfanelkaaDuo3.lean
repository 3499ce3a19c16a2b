/- An act on both. -/
import Derived.Test.YtihoebmfanelkaaDuo2
namespace Go.Proofs.Ytihoebmfanelkaa
open Go.RowKit

theorem Did.only {w w' : World} {p : Nat} {F : List Nat} {s : St} (h : Did w w' p F s) : Only F w w' := by
  obtain ⟨_, _, h, _⟩ := h
  exact h
theorem RefDid.only {w w' : World} {p : Nat} {F : List Nat} {s : St} (h : RefDid w w' p F s) : Only F w w' := by
  obtain ⟨_, _, h, _⟩ := h
  exact h
section
variable {w w1 w2 : World} {bp p m : Nat} {F G : List Nat} {s t s' t' : St} {v2 v3 : Value}
theorem Core.same (h : Core w w1 bp p m F G s t v2 v3) (k : Same w1 w2 p F s') : Core w w2 bp p m F G s' t v2 v3 ∧ ∀ lp xp n1 f1 n2 f2, Logs w w1 bp p m F G lp xp n1 f1 n2 f2 → Logs w w2 bp p m F G lp xp n1 f1 n2 f2 := by
  obtain ⟨h1, h2⟩ := k
  have hF : ∀ j ∈ F, (j ∈ F ∨ w1.heap.size ≤ j) ∧ j < w2.heap.size := fun j hj => ⟨.inl hj, Nat.lt_of_lt_of_le (h.fnew j hj).2 h2.size⟩
  exact ⟨h.turnF h1 h2 (fun i hi => ⟨(h.fnew i hi).1, h.apart i hi, fun e => h.bF (e ▸ hi)⟩) hF, fun lp xp n1 f1 n2 f2 hl => hl.turnF (Blk.kept hl.log h2 hl.lF) h2 hl.xF hF⟩
theorem Core.rsame (h : Core w w1 bp p m F G s t v2 v3) (k : RefSame w1 w2 m G t') : Core w w2 bp p m F G s t' v2 v3 ∧ ∀ lp xp n1 f1 n2 f2, Logs w w1 bp p m F G lp xp n1 f1 n2 f2 → Logs w w2 bp p m F G lp xp n1 f1 n2 f2 := by
  obtain ⟨h1, h2⟩ := k
  have hG : ∀ j ∈ G, (j ∈ G ∨ w1.heap.size ≤ j) ∧ j < w2.heap.size := fun j hj => ⟨.inl hj, Nat.lt_of_lt_of_le (h.gnew j hj).2 h2.size⟩
  exact ⟨h.turnG h1 h2 (fun i hi => ⟨(h.gnew i hi).1, fun hf => h.apart i hf hi, fun e => h.bG (e ▸ hi)⟩) hG, fun lp xp n1 f1 n2 f2 hl => hl.turnG (Blk.kept hl.rlog h2 hl.xG) h2 hl.lG hG⟩
end

theorem Duo.parts {w w1 : World} {bp p m N k : Nat} (h : Duo w w1 bp p m N k) : ∃ F G s t v2 v3, Core w w1 bp p m F G s t v2 v3 ∧ Like s t ∧ s.firm.length = N ∧ s.late.length ≤ 200 * k ∧
    (∀ w' F' G' s' t' k', Core w w' bp p m F' G' s' t' v2 v3 → (∀ lp xp n1 f1 n2 f2, Logs w w1 bp p m F G lp xp n1 f1 n2 f2 → Logs w w' bp p m F' G' lp xp n1 f1 n2 f2) → Like s' t' → s'.firm.length = N → s'.late.length ≤ 200 * k' → Duo w w' bp p m N k') := by
  cases h with
  | none F G s t core like len late => exact ⟨F, G, s, t, _, _, core, like, len, late, fun w' F' G' s' t' k' h1 _ h3 h4 h5 => .none F' G' s' t' h1 h3 h4 h5⟩
  | some F G s t lp xp n f core logs like len late few big => exact ⟨F, G, s, t, _, _, core, like, len, late, fun w' F' G' s' t' k' h1 h2 h3 h4 h5 => .some F' G' s' t' lp xp n f h1 (h2 _ _ _ _ _ _ logs) h3 h4 h5 few big⟩

set_option maxRecDepth 100000 in
set_option maxHeartbeats 4000000 in
theorem duoFuse_any (w w1 : World) (bp p m N k : Nat) (kind num : Int) (keep : Nat) (raw : List UInt8) (A : Option Addr) (c : Nat) (l : List Bk) (h : Duo w w1 bp p m N k) (hn : -9223372036854775808 ≤ num ∧ num ≤ 9223372036854775807) (hkind : kind.tmod 6 = 1) :
    Calls Try.prog 13 #[.pointer (some ⟨bp, 0, none⟩), .agg #[.int .i64 kind, .int .i64 num, .int .u64 (keep : Int), .string (strOf raw), .slice A l.length c]] w1 fun e w' => e = .returned (.bool true) ∧ Duo w w' bp p m N (k + 1) := by
  generalize strOf raw = rs at *
  obtain ⟨F, G, s, t, v2, v3, h0, like, len, late, hback⟩ := h.parts
  have ka : Only [] w1 (w1.alloc (.cells #[.int .i64 kind, .int .i64 num, .int .u64 (keep : Int), .string rs, .slice A l.length c] 39)) := (Only.refl [] w1).alloc _
  have ba : Blk (w1.alloc (.cells #[.int .i64 kind, .int .i64 num, .int .u64 (keep : Int), .string rs, .slice A l.length c] 39)) w1.heap.size 39 #[.int .i64 kind, .int .i64 num, .int .u64 (keep : Int), .string rs, .slice A l.length c] := Blk.new _ _ _
  have h2 := h0.keep ka
  have hl2 := fun lp xp n1 f1 n2 f2 (x : Logs w w1 bp p m F G lp xp n1 f1 n2 f2) => x.keep ka
  obtain ⟨q, hq⟩ : ∃ q, q = w1.heap.size := ⟨_, rfl⟩
  rw [← hq] at ba
  have hqF : q ∉ F := fun hm => by have := (h0.fnew _ hm).2; omega
  have hqG : q ∉ G := fun hm => by have := (h0.gnew _ hm).2; omega
  replace hback := Lib.hid hback
  replace hl2 := Lib.hid hl2
  replace like := Lib.hid like
  replace late := Lib.hid late
  replace len := Lib.hid len
  obtain ⟨c0, c1, c2, c3⟩ := h2.cells
  have d0 := ba.cell 0
  have d1 := ba.cell 1
  have d2 := ba.cell 2
  have d3 := ba.cell 3
  have d4 := ba.cell 4
  simp only [List.getElem?_toArray, List.getElem?_cons_zero, List.getElem?_cons_succ] at d0 d1 d2 d3 d4
  go_enter Try.func13, Try.ntmps13
  go_wp2_with fail
  simp only [← hq]
  generalize w1.alloc (.cells #[.int .i64 kind, .int .i64 num, .int .u64 (keep : Int), .string rs, .slice A l.length c] 39) = W at *
  clear h0 ka hq h
  clear d0 d3 d4
  have kd3 : Only [] W W.drew := (Only.refl [] W).drew
  refine wp_region_held_drew (S := fun w' => w'.cell? ⟨bp, 0, none⟩ = some (.pointer (some ⟨p, 0, none⟩)) ∧ w'.cell? ⟨q, 1, none⟩ = some (.int .i64 num)) (by kernel_rfl) ⟨c0, d1⟩ (fun hHeld => ?_)
  refine held_take 0 (.pointer (some ⟨bp, 0, none⟩)) rfl (by kernel_rfl) (by kernel_rfl) (by kernel_rfl) (fun _ _ _ h => h) hHeld (Or.inl ⟨by rfl, fun w' hSw => by (try dsimp only at hSw); (try subst hSw); go_simp⟩) ?_
  simp only [Act.put, List.setIfInBounds_toArray, List.set_cons_zero, List.set_cons_succ]
  refine held_take 1 (.pointer (some ⟨bp, 0, none⟩)) rfl (by kernel_rfl) (by kernel_rfl) (by kernel_rfl) (fun _ _ _ h => h) hHeld (Or.inl ⟨by rfl, fun w' hSw => by (try dsimp only at hSw); (try subst hSw); go_simp⟩) ?_
  simp only [Act.put, List.setIfInBounds_toArray, List.set_cons_zero, List.set_cons_succ]
  refine held_take 2 (.pointer (some ⟨bp, 0, none⟩)) rfl (by kernel_rfl) (by kernel_rfl) (by kernel_rfl) (fun _ _ _ h => h) hHeld (Or.inl ⟨by rfl, fun w' hSw => by (try dsimp only at hSw); (try subst hSw); go_simp⟩) ?_
  simp only [Act.put, List.setIfInBounds_toArray, List.set_cons_zero, List.set_cons_succ]
  refine held_take 3 (.pointer (some ⟨p, 0, none⟩)) rfl (by kernel_rfl) (by kernel_rfl) (by kernel_rfl) (fun _ _ _ h => h) hHeld (Or.inl ⟨by rfl, fun w' hSw => by (try dsimp only at hSw); (try subst hSw); go_simp⟩) ?_
  simp only [Act.put, List.setIfInBounds_toArray, List.set_cons_zero, List.set_cons_succ]
  refine held_take 4 (.pointer (some ⟨q, 1, none⟩)) rfl (by kernel_rfl) (by kernel_rfl) (by kernel_rfl) (fun _ _ _ h => h) hHeld (Or.inl ⟨by rfl, fun w' hSw => by (try dsimp only at hSw); (try subst hSw); go_simp⟩) ?_
  simp only [Act.put, List.setIfInBounds_toArray, List.set_cons_zero, List.set_cons_succ]
  refine held_take 5 (.int .i64 num) rfl (by kernel_rfl) (by kernel_rfl) (by kernel_rfl) (fun _ _ _ h => h) hHeld (Or.inl ⟨by rfl, fun w' hSw => by (try dsimp only at hSw); (try subst hSw); go_simp⟩) ?_
  simp only [Act.put, List.setIfInBounds_toArray, List.set_cons_zero, List.set_cons_succ]
  refine held_step 6 rfl (by kernel_rfl) (fun K hK => ?_)
  go_simp
  go_at_call 19
  refine (fuse_any _ p F s num hn.1 hn.2 (h2.dev.kept kd3 (by simp))).mono ?_
  rintro e w3 ⟨rfl, hs3⟩
  obtain ⟨h3, hl3⟩ := (h2.keep kd3).same hs3
  have k3 := (kd3.more (T := F) (by simp)).trans hs3.2
  have d13 := k3.cell d1 hqF
  have d23 := k3.cell d2 hqF
  obtain ⟨c03, c13, c23, c33⟩ := h3.cells
  replace hl3 := Lib.hid (fun lp xp n1 f1 n2 f2 x => hl3 lp xp n1 f1 n2 f2 ((hl2.out lp xp n1 f1 n2 f2 x).keep kd3))
  clear c0 c1 c2 c3 d1 d2 hs3 k3 h2 hl2
  go_wp2_with fail
  refine hK.out _ _ ⟨c03, d13⟩ (fun hHeld => ?_)
  clear hK K
  refine wpAnyH_done (by kernel_rfl) ?_ _
  clear hHeld
  have c0 := c03
  have c1 := c13
  have c2 := c23
  have c3 := c33
  have d1 := d13
  have d2 := d23
  clear c03 c13 c23 c33 d13 d23 kd3
  go_wp2_with fail
  have kd4 : Only [] w3 w3.drew := (Only.refl [] w3).drew
  refine wp_region_held_drew (S := fun w' => w'.cell? ⟨bp, 1, none⟩ = some (.pointer (some ⟨m, 0, none⟩)) ∧ w'.cell? ⟨q, 1, none⟩ = some (.int .i64 num)) (by kernel_rfl) ⟨c1, d1⟩ (fun hHeld => ?_)
  refine held_take 0 (.pointer (some ⟨bp, 0, none⟩)) rfl (by kernel_rfl) (by kernel_rfl) (by kernel_rfl) (fun _ _ _ h => h) hHeld (Or.inl ⟨by rfl, fun w' hSw => by (try dsimp only at hSw); (try subst hSw); go_simp⟩) ?_
  simp only [Act.put, List.setIfInBounds_toArray, List.set_cons_zero, List.set_cons_succ]
  refine held_take 1 (.pointer (some ⟨bp, 0, none⟩)) rfl (by kernel_rfl) (by kernel_rfl) (by kernel_rfl) (fun _ _ _ h => h) hHeld (Or.inl ⟨by rfl, fun w' hSw => by (try dsimp only at hSw); (try subst hSw); go_simp⟩) ?_
  simp only [Act.put, List.setIfInBounds_toArray, List.set_cons_zero, List.set_cons_succ]
  refine held_take 2 (.pointer (some ⟨bp, 1, none⟩)) rfl (by kernel_rfl) (by kernel_rfl) (by kernel_rfl) (fun _ _ _ h => h) hHeld (Or.inl ⟨by rfl, fun w' hSw => by (try dsimp only at hSw); (try subst hSw); go_simp⟩) ?_
  simp only [Act.put, List.setIfInBounds_toArray, List.set_cons_zero, List.set_cons_succ]
  refine held_take 3 (.pointer (some ⟨m, 0, none⟩)) rfl (by kernel_rfl) (by kernel_rfl) (by kernel_rfl) (fun _ _ _ h => h) hHeld (Or.inl ⟨by rfl, fun w' hSw => by (try dsimp only at hSw); (try subst hSw); go_simp⟩) ?_
  simp only [Act.put, List.setIfInBounds_toArray, List.set_cons_zero, List.set_cons_succ]
  refine held_take 4 (.pointer (some ⟨q, 1, none⟩)) rfl (by kernel_rfl) (by kernel_rfl) (by kernel_rfl) (fun _ _ _ h => h) hHeld (Or.inl ⟨by rfl, fun w' hSw => by (try dsimp only at hSw); (try subst hSw); go_simp⟩) ?_
  simp only [Act.put, List.setIfInBounds_toArray, List.set_cons_zero, List.set_cons_succ]
  refine held_take 5 (.int .i64 num) rfl (by kernel_rfl) (by kernel_rfl) (by kernel_rfl) (fun _ _ _ h => h) hHeld (Or.inl ⟨by rfl, fun w' hSw => by (try dsimp only at hSw); (try subst hSw); go_simp⟩) ?_
  simp only [Act.put, List.setIfInBounds_toArray, List.set_cons_zero, List.set_cons_succ]
  refine held_step 6 rfl (by kernel_rfl) (fun K hK => ?_)
  go_simp
  go_at_call 30
  refine (light_any _ m G t num hn.1 hn.2 (h3.ref.kept kd4 (by simp))).mono ?_
  rintro e w4 ⟨rfl, hs4⟩
  obtain ⟨h4, hl4⟩ := (h3.keep kd4).rsame hs4
  have k4 := (kd4.more (T := G) (by simp)).trans hs4.2
  have d14 := k4.cell d1 hqG
  have d24 := k4.cell d2 hqG
  obtain ⟨c04, c14, c24, c34⟩ := h4.cells
  replace hl4 := Lib.hid (fun lp xp n1 f1 n2 f2 x => hl4 lp xp n1 f1 n2 f2 ((hl3.out lp xp n1 f1 n2 f2 x).keep kd4))
  clear c0 c1 c2 c3 d1 d2 hs4 k4 h3 hl3
  go_wp2_with fail
  refine hK.out _ _ ⟨c14, d14⟩ (fun hHeld => ?_)
  clear hK K
  refine wpAnyH_done (by kernel_rfl) ?_ _
  clear hHeld
  have c0 := c04
  have c1 := c14
  have c2 := c24
  have c3 := c34
  have d1 := d14
  have d2 := d24
  clear c04 c14 c24 c34 d14 d24 kd4
  have hfin := hback.out w4 F G _ _ (k + 1) h4 hl4.out (like.out.lit num) len.out (by have := late.out; show s.late.length ≤ _; omega)
  replace hfin := Lib.hid hfin
  clear h4 hl4 hback
  go_wp2
  go_ret
  exact ⟨rfl, hfin.out⟩

set_option maxRecDepth 100000 in
set_option maxHeartbeats 4000000 in
theorem duoCrash_any (w w1 : World) (bp p m N k : Nat) (kind num : Int) (keep : Nat) (raw : List UInt8) (A : Option Addr) (c : Nat) (l : List Bk) (h : Duo w w1 bp p m N k) (hk : k ≤ 900) (hkp : keep < 18446744073709551616) (hkind : kind.tmod 6 = 2) :
    Calls Try.prog 13 #[.pointer (some ⟨bp, 0, none⟩), .agg #[.int .i64 kind, .int .i64 num, .int .u64 (keep : Int), .string (strOf raw), .slice A l.length c]] w1 fun e w' => e = .returned (.bool true) ∧ Duo w w' bp p m N (k + 1) := by
  generalize strOf raw = rs at *
  obtain ⟨F, G, s, t, v2, v3, h0, like, len, late, hback⟩ := h.parts
  have ka : Only [] w1 (w1.alloc (.cells #[.int .i64 kind, .int .i64 num, .int .u64 (keep : Int), .string rs, .slice A l.length c] 39)) := (Only.refl [] w1).alloc _
  have ba : Blk (w1.alloc (.cells #[.int .i64 kind, .int .i64 num, .int .u64 (keep : Int), .string rs, .slice A l.length c] 39)) w1.heap.size 39 #[.int .i64 kind, .int .i64 num, .int .u64 (keep : Int), .string rs, .slice A l.length c] := Blk.new _ _ _
  have h2 := h0.keep ka
  have hl2 := fun lp xp n1 f1 n2 f2 (x : Logs w w1 bp p m F G lp xp n1 f1 n2 f2) => x.keep ka
  obtain ⟨q, hq⟩ : ∃ q, q = w1.heap.size := ⟨_, rfl⟩
  rw [← hq] at ba
  have hqF : q ∉ F := fun hm => by have := (h0.fnew _ hm).2; omega
  have hqG : q ∉ G := fun hm => by have := (h0.gnew _ hm).2; omega
  replace hback := Lib.hid hback
  replace hl2 := Lib.hid hl2
  replace like := Lib.hid like
  replace late := Lib.hid late
  replace len := Lib.hid len
  obtain ⟨c0, c1, c2, c3⟩ := h2.cells
  have d0 := ba.cell 0
  have d1 := ba.cell 1
  have d2 := ba.cell 2
  have d3 := ba.cell 3
  have d4 := ba.cell 4
  simp only [List.getElem?_toArray, List.getElem?_cons_zero, List.getElem?_cons_succ] at d0 d1 d2 d3 d4
  go_enter Try.func13, Try.ntmps13
  go_wp2_with fail
  simp only [← hq]
  generalize w1.alloc (.cells #[.int .i64 kind, .int .i64 num, .int .u64 (keep : Int), .string rs, .slice A l.length c] 39) = W at *
  clear h0 ka hq h
  clear d0 d3 d4
  have kd3 : Only [] W W.drew := (Only.refl [] W).drew
  refine wp_region_held_drew (S := fun w' => w'.cell? ⟨bp, 0, none⟩ = some (.pointer (some ⟨p, 0, none⟩)) ∧ w'.cell? ⟨q, 2, none⟩ = some (.int .u64 (keep : Int))) (by kernel_rfl) ⟨c0, d2⟩ (fun hHeld => ?_)
  refine held_take 0 (.pointer (some ⟨bp, 0, none⟩)) rfl (by kernel_rfl) (by kernel_rfl) (by kernel_rfl) (fun _ _ _ h => h) hHeld (Or.inl ⟨by rfl, fun w' hSw => by (try dsimp only at hSw); (try subst hSw); go_simp⟩) ?_
  simp only [Act.put, List.setIfInBounds_toArray, List.set_cons_zero, List.set_cons_succ]
  refine held_take 1 (.pointer (some ⟨bp, 0, none⟩)) rfl (by kernel_rfl) (by kernel_rfl) (by kernel_rfl) (fun _ _ _ h => h) hHeld (Or.inl ⟨by rfl, fun w' hSw => by (try dsimp only at hSw); (try subst hSw); go_simp⟩) ?_
  simp only [Act.put, List.setIfInBounds_toArray, List.set_cons_zero, List.set_cons_succ]
  refine held_take 2 (.pointer (some ⟨bp, 0, none⟩)) rfl (by kernel_rfl) (by kernel_rfl) (by kernel_rfl) (fun _ _ _ h => h) hHeld (Or.inl ⟨by rfl, fun w' hSw => by (try dsimp only at hSw); (try subst hSw); go_simp⟩) ?_
  simp only [Act.put, List.setIfInBounds_toArray, List.set_cons_zero, List.set_cons_succ]
  refine held_take 3 (.pointer (some ⟨p, 0, none⟩)) rfl (by kernel_rfl) (by kernel_rfl) (by kernel_rfl) (fun _ _ _ h => h) hHeld (Or.inl ⟨by rfl, fun w' hSw => by (try dsimp only at hSw); (try subst hSw); go_simp⟩) ?_
  simp only [Act.put, List.setIfInBounds_toArray, List.set_cons_zero, List.set_cons_succ]
  refine held_take 4 (.pointer (some ⟨q, 2, none⟩)) rfl (by kernel_rfl) (by kernel_rfl) (by kernel_rfl) (fun _ _ _ h => h) hHeld (Or.inl ⟨by rfl, fun w' hSw => by (try dsimp only at hSw); (try subst hSw); go_simp⟩) ?_
  simp only [Act.put, List.setIfInBounds_toArray, List.set_cons_zero, List.set_cons_succ]
  refine held_take 5 (.int .u64 (keep : Int)) rfl (by kernel_rfl) (by kernel_rfl) (by kernel_rfl) (fun _ _ _ h => h) hHeld (Or.inl ⟨by rfl, fun w' hSw => by (try dsimp only at hSw); (try subst hSw); go_simp⟩) ?_
  simp only [Act.put, List.setIfInBounds_toArray, List.set_cons_zero, List.set_cons_succ]
  refine held_step 6 rfl (by kernel_rfl) (fun K hK => ?_)
  go_simp
  go_at_call 21
  refine (crash_any _ p F s keep hkp (h2.dev.kept kd3 (by simp))).mono ?_
  rintro e w3 ⟨rfl, hs3⟩
  obtain ⟨h3, hl3⟩ := (h2.keep kd3).same hs3
  have k3 := (kd3.more (T := F) (by simp)).trans hs3.2
  have d13 := k3.cell d1 hqF
  have d23 := k3.cell d2 hqF
  obtain ⟨c03, c13, c23, c33⟩ := h3.cells
  replace hl3 := Lib.hid (fun lp xp n1 f1 n2 f2 x => hl3 lp xp n1 f1 n2 f2 ((hl2.out lp xp n1 f1 n2 f2 x).keep kd3))
  clear c0 c1 c2 c3 d1 d2 hs3 k3 h2 hl2
  go_wp2_with fail
  refine hK.out _ _ ⟨c03, d23⟩ (fun hHeld => ?_)
  clear hK K
  refine wpAnyH_done (by kernel_rfl) ?_ _
  clear hHeld
  have c0 := c03
  have c1 := c13
  have c2 := c23
  have c3 := c33
  have d1 := d13
  have d2 := d23
  clear c03 c13 c23 c33 d13 d23 kd3
  go_wp2_with fail
  have kd4 : Only [] w3 w3.drew := (Only.refl [] w3).drew
  refine wp_region_held_drew (S := fun w' => w'.cell? ⟨bp, 1, none⟩ = some (.pointer (some ⟨m, 0, none⟩)) ∧ w'.cell? ⟨q, 2, none⟩ = some (.int .u64 (keep : Int))) (by kernel_rfl) ⟨c1, d2⟩ (fun hHeld => ?_)
  refine held_take 0 (.pointer (some ⟨bp, 0, none⟩)) rfl (by kernel_rfl) (by kernel_rfl) (by kernel_rfl) (fun _ _ _ h => h) hHeld (Or.inl ⟨by rfl, fun w' hSw => by (try dsimp only at hSw); (try subst hSw); go_simp⟩) ?_
  simp only [Act.put, List.setIfInBounds_toArray, List.set_cons_zero, List.set_cons_succ]
  refine held_take 1 (.pointer (some ⟨bp, 0, none⟩)) rfl (by kernel_rfl) (by kernel_rfl) (by kernel_rfl) (fun _ _ _ h => h) hHeld (Or.inl ⟨by rfl, fun w' hSw => by (try dsimp only at hSw); (try subst hSw); go_simp⟩) ?_
  simp only [Act.put, List.setIfInBounds_toArray, List.set_cons_zero, List.set_cons_succ]
  refine held_take 2 (.pointer (some ⟨bp, 1, none⟩)) rfl (by kernel_rfl) (by kernel_rfl) (by kernel_rfl) (fun _ _ _ h => h) hHeld (Or.inl ⟨by rfl, fun w' hSw => by (try dsimp only at hSw); (try subst hSw); go_simp⟩) ?_
  simp only [Act.put, List.setIfInBounds_toArray, List.set_cons_zero, List.set_cons_succ]
  refine held_take 3 (.pointer (some ⟨m, 0, none⟩)) rfl (by kernel_rfl) (by kernel_rfl) (by kernel_rfl) (fun _ _ _ h => h) hHeld (Or.inl ⟨by rfl, fun w' hSw => by (try dsimp only at hSw); (try subst hSw); go_simp⟩) ?_
  simp only [Act.put, List.setIfInBounds_toArray, List.set_cons_zero, List.set_cons_succ]
  refine held_take 4 (.pointer (some ⟨q, 2, none⟩)) rfl (by kernel_rfl) (by kernel_rfl) (by kernel_rfl) (fun _ _ _ h => h) hHeld (Or.inl ⟨by rfl, fun w' hSw => by (try dsimp only at hSw); (try subst hSw); go_simp⟩) ?_
  simp only [Act.put, List.setIfInBounds_toArray, List.set_cons_zero, List.set_cons_succ]
  refine held_take 5 (.int .u64 (keep : Int)) rfl (by kernel_rfl) (by kernel_rfl) (by kernel_rfl) (fun _ _ _ h => h) hHeld (Or.inl ⟨by rfl, fun w' hSw => by (try dsimp only at hSw); (try subst hSw); go_simp⟩) ?_
  simp only [Act.put, List.setIfInBounds_toArray, List.set_cons_zero, List.set_cons_succ]
  refine held_step 6 rfl (by kernel_rfl) (fun K hK => ?_)
  go_simp
  go_at_call 31
  refine (rcrash_any _ m G t keep (by rw [← like.out.2.1]; have := late.out; omega) (h3.ref.kept kd4 (by simp))).mono ?_
  rintro e w4 ⟨rfl, hs4⟩
  obtain ⟨h4, hl4⟩ := (h3.keep kd4).rsame hs4
  have k4 := (kd4.more (T := G) (by simp)).trans hs4.2
  have d14 := k4.cell d1 hqG
  have d24 := k4.cell d2 hqG
  obtain ⟨c04, c14, c24, c34⟩ := h4.cells
  replace hl4 := Lib.hid (fun lp xp n1 f1 n2 f2 x => hl4 lp xp n1 f1 n2 f2 ((hl3.out lp xp n1 f1 n2 f2 x).keep kd4))
  clear c0 c1 c2 c3 d1 d2 hs4 k4 h3 hl3
  go_wp2_with fail
  refine hK.out _ _ ⟨c14, d24⟩ (fun hHeld => ?_)
  clear hK K
  refine wpAnyH_done (by kernel_rfl) ?_ _
  clear hHeld
  have c0 := c04
  have c1 := c14
  have c2 := c24
  have c3 := c34
  have d1 := d14
  have d2 := d24
  clear c04 c14 c24 c34 d14 d24 kd4
  go_wp2_with fail
  have hlen4 : (crashed s keep).firm.length = N := by show (settle keep s.late s.firm).length = N; rw [settle_length]; exact len.out
  have hlate4 : (crashed s keep).late.length = 0 := rfl
  have hop := duoOpen_any w w4 bp p m N (k + 1) F G _ _ v2 v3 h4 (like.out.crashed keep) hlen4 (by rw [hlate4]; omega) (by omega)
  refine hop.mono ?_
  rintro e w5 ⟨rfl, hfin⟩
  replace hfin := Lib.hid hfin
  clear h4 hl4 hback hop
  go_wp2
  go_ret
  exact ⟨rfl, hfin.out⟩

end Go.Proofs.Ytihoebmfanelkaa
