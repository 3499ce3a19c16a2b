/- A commit, and a read, on both; any act. -/
import Derived.Test.YtihoebmfanelkaaDuo4
namespace Go.Proofs.Ytihoebmfanelkaa
open Go.RowKit

set_option maxRecDepth 100000 in
set_option maxHeartbeats 4000000 in
theorem duoCommit_any (w w1 : World) (bp p m N k : Nat) (kind num : Int) (keep : Nat) (raw : List UInt8) (A : Option Addr) (c : Nat) (l : List Bk) (h : Duo w w1 bp p m N k) (hk : k ≤ 900) (hb : Blks w A l) (hl : l.length ≤ 9223372036854775807) (hc : l.length ≤ c) (hkind : kind.tmod 6 = 0) :
    Calls Try.prog 13 #[.pointer (some ⟨bp, 0, none⟩), .agg #[.int .i64 kind, .int .i64 num, .int .u64 (keep : Int), .string (strOf raw), .slice A l.length c]] w1 fun e w' => e = .returned (.bool true) ∧ Duo w w' bp p m N (k + 1) := by
  generalize strOf raw = rs at *
  cases h with
  | none F G s t h0 like len late =>
    have ka : Only [] w1 (w1.alloc (.cells #[.int .i64 kind, .int .i64 num, .int .u64 (keep : Int), .string rs, .slice A l.length c] 39)) := (Only.refl [] w1).alloc _
    have ba : Blk (w1.alloc (.cells #[.int .i64 kind, .int .i64 num, .int .u64 (keep : Int), .string rs, .slice A l.length c] 39)) w1.heap.size 39 #[.int .i64 kind, .int .i64 num, .int .u64 (keep : Int), .string rs, .slice A l.length c] := Blk.new _ _ _
    have h2 := h0.keep ka
    have hl2 := fun lp xp n1 f1 n2 f2 (x : Logs w w1 bp p m F G lp xp n1 f1 n2 f2) => x.keep ka
    obtain ⟨q, hq⟩ : ∃ q, q = w1.heap.size := ⟨_, rfl⟩
    rw [← hq] at ba
    have hqF : q ∉ F := fun hm => by have := (h0.fnew _ hm).2; omega
    have hqG : q ∉ G := fun hm => by have := (h0.gnew _ hm).2; omega
    replace hl2 := Lib.hid hl2
    replace like := Lib.hid like
    replace late := Lib.hid late
    replace len := Lib.hid len
    obtain ⟨c0, c1, c2, c3⟩ := h2.cells
    have d0 := ba.cell 0
    have d1 := ba.cell 1
    have d2 := ba.cell 2
    have d3 := ba.cell 3
    have d4 := ba.cell 4
    simp only [List.getElem?_toArray, List.getElem?_cons_zero, List.getElem?_cons_succ] at d0 d1 d2 d3 d4
    go_enter Try.func13, Try.ntmps13
    go_wp2_with fail
    simp only [← hq]
    generalize w1.alloc (.cells #[.int .i64 kind, .int .i64 num, .int .u64 (keep : Int), .string rs, .slice A l.length c] 39) = W at *
    clear h0 ka hq
    clear hl2 d1 d2 d3 c0 c1 c2
    go_quiet (fail)
    have hfin := Duo.none (k := k + 1) F G s t (h2.keep ((Only.refl [] W).drewN nq)) like.out len.out (by have := late.out; omega)
    replace hfin := Lib.hid hfin
    go_wp2
    go_ret
    exact ⟨rfl, hfin.out⟩
  | some F G s t lp xp n f h0 logs like len late few big =>
    have ka : Only [] w1 (w1.alloc (.cells #[.int .i64 kind, .int .i64 num, .int .u64 (keep : Int), .string rs, .slice A l.length c] 39)) := (Only.refl [] w1).alloc _
    have ba : Blk (w1.alloc (.cells #[.int .i64 kind, .int .i64 num, .int .u64 (keep : Int), .string rs, .slice A l.length c] 39)) w1.heap.size 39 #[.int .i64 kind, .int .i64 num, .int .u64 (keep : Int), .string rs, .slice A l.length c] := Blk.new _ _ _
    have h2 := h0.keep ka
    have hl2 := fun lp xp n1 f1 n2 f2 (x : Logs w w1 bp p m F G lp xp n1 f1 n2 f2) => x.keep ka
    obtain ⟨q, hq⟩ : ∃ q, q = w1.heap.size := ⟨_, rfl⟩
    rw [← hq] at ba
    have hqF : q ∉ F := fun hm => by have := (h0.fnew _ hm).2; omega
    have hqG : q ∉ G := fun hm => by have := (h0.gnew _ hm).2; omega
    replace hl2 := Lib.hid hl2
    have hql : q ≠ lp := by
      have := Blk.lt logs.log
      omega
    have hqx : q ≠ xp := by
      have := Blk.lt logs.rlog
      omega
    replace like := Lib.hid like
    replace late := Lib.hid late
    replace len := Lib.hid len
    obtain ⟨c0, c1, c2, c3⟩ := h2.cells
    have d0 := ba.cell 0
    have d1 := ba.cell 1
    have d2 := ba.cell 2
    have d3 := ba.cell 3
    have d4 := ba.cell 4
    simp only [List.getElem?_toArray, List.getElem?_cons_zero, List.getElem?_cons_succ] at d0 d1 d2 d3 d4
    go_enter Try.func13, Try.ntmps13
    go_wp2_with fail
    simp only [← hq]
    generalize w1.alloc (.cells #[.int .i64 kind, .int .i64 num, .int .u64 (keep : Int), .string rs, .slice A l.length c] 39) = W at *
    clear h0 ka hq
    have hlg := hl2.out _ _ _ _ _ _ logs
    clear logs hl2 d0 d1 d2 d3 c0 c1
    have kd : Only [] W W.drew := (Only.refl [] W).drew
    refine wp_region_held_drew (S := fun w' => w'.cell? ⟨bp, 2, none⟩ = some (.pointer (some ⟨lp, 0, none⟩)) ∧ w'.cell? ⟨bp, 3, none⟩ = some (.pointer (some ⟨xp, 0, none⟩)) ∧ w'.cell? ⟨q, 4, none⟩ = some (.slice A l.length c)) (by kernel_rfl) ⟨c2, c3, d4⟩ (fun hHeld => ?_)
    refine held_take 0 (.pointer (some ⟨bp, 0, none⟩)) rfl (by kernel_rfl) (by kernel_rfl) (by kernel_rfl) (fun _ _ _ h => h) hHeld (Or.inl ⟨by rfl, fun w' hSw => by (try dsimp only at hSw); (try subst hSw); go_simp⟩) ?_
    simp only [Act.put, List.setIfInBounds_toArray, List.set_cons_zero, List.set_cons_succ]
    refine held_take 1 (.pointer (some ⟨bp, 0, none⟩)) rfl (by kernel_rfl) (by kernel_rfl) (by kernel_rfl) (fun _ _ _ h => h) hHeld (Or.inl ⟨by rfl, fun w' hSw => by (try dsimp only at hSw); (try subst hSw); go_simp⟩) ?_
    simp only [Act.put, List.setIfInBounds_toArray, List.set_cons_zero, List.set_cons_succ]
    refine held_take 2 (.pointer (some ⟨bp, 3, none⟩)) rfl (by kernel_rfl) (by kernel_rfl) (by kernel_rfl) (fun _ _ _ h => h) hHeld (Or.inl ⟨by rfl, fun w' hSw => by (try dsimp only at hSw); (try subst hSw); go_simp⟩) ?_
    simp only [Act.put, List.setIfInBounds_toArray, List.set_cons_zero, List.set_cons_succ]
    refine held_take 3 (.pointer (some ⟨xp, 0, none⟩)) rfl (by kernel_rfl) (by kernel_rfl) (by kernel_rfl) (fun _ _ _ h => h) hHeld (Or.inl ⟨by rfl, fun w' hSw => by (try dsimp only at hSw); (try subst hSw); go_simp⟩) ?_
    simp only [Act.put, List.setIfInBounds_toArray, List.set_cons_zero, List.set_cons_succ]
    refine held_take 4 (.bool false) rfl (by kernel_rfl) (by kernel_rfl) (by kernel_rfl) (fun _ _ _ h => h) hHeld (Or.inl ⟨by rfl, fun w' hSw => by (try dsimp only at hSw); (try subst hSw); go_simp⟩) ?_
    simp only [Act.put, List.setIfInBounds_toArray, List.set_cons_zero, List.set_cons_succ]
    refine held_take 5 (.bool false) rfl (by kernel_rfl) (by kernel_rfl) (by kernel_rfl) (fun _ _ _ h => h) hHeld (Or.inl ⟨by rfl, fun w' hSw => by (try dsimp only at hSw); (try subst hSw); go_simp⟩) ?_
    simp only [Act.put, List.setIfInBounds_toArray, List.set_cons_zero, List.set_cons_succ]
    refine held_take 6 (.pointer (some ⟨bp, 0, none⟩)) rfl (by kernel_rfl) (by kernel_rfl) (by kernel_rfl) (fun _ _ _ h => h) hHeld (Or.inl ⟨by rfl, fun w' hSw => by (try dsimp only at hSw); (try subst hSw); go_simp⟩) ?_
    simp only [Act.put, List.setIfInBounds_toArray, List.set_cons_zero, List.set_cons_succ]
    refine held_take 7 (.pointer (some ⟨bp, 0, none⟩)) rfl (by kernel_rfl) (by kernel_rfl) (by kernel_rfl) (fun _ _ _ h => h) hHeld (Or.inl ⟨by rfl, fun w' hSw => by (try dsimp only at hSw); (try subst hSw); go_simp⟩) ?_
    simp only [Act.put, List.setIfInBounds_toArray, List.set_cons_zero, List.set_cons_succ]
    refine held_take 8 (.pointer (some ⟨bp, 2, none⟩)) rfl (by kernel_rfl) (by kernel_rfl) (by kernel_rfl) (fun _ _ _ h => h) hHeld (Or.inl ⟨by rfl, fun w' hSw => by (try dsimp only at hSw); (try subst hSw); go_simp⟩) ?_
    simp only [Act.put, List.setIfInBounds_toArray, List.set_cons_zero, List.set_cons_succ]
    refine held_take 9 (.pointer (some ⟨lp, 0, none⟩)) rfl (by kernel_rfl) (by kernel_rfl) (by kernel_rfl) (fun _ _ _ h => h) hHeld (Or.inl ⟨by rfl, fun w' hSw => by (try dsimp only at hSw); (try subst hSw); go_simp⟩) ?_
    simp only [Act.put, List.setIfInBounds_toArray, List.set_cons_zero, List.set_cons_succ]
    refine held_take 10 (.pointer (some ⟨q, 4, none⟩)) rfl (by kernel_rfl) (by kernel_rfl) (by kernel_rfl) (fun _ _ _ h => h) hHeld (Or.inl ⟨by rfl, fun w' hSw => by (try dsimp only at hSw); (try subst hSw); go_simp⟩) ?_
    simp only [Act.put, List.setIfInBounds_toArray, List.set_cons_zero, List.set_cons_succ]
    refine held_take 11 (.slice A l.length c) rfl (by kernel_rfl) (by kernel_rfl) (by kernel_rfl) (fun _ _ _ h => h) hHeld (Or.inl ⟨by rfl, fun w' hSw => by (try dsimp only at hSw); (try subst hSw); go_simp⟩) ?_
    simp only [Act.put, List.setIfInBounds_toArray, List.set_cons_zero, List.set_cons_succ]
    refine held_take 13 (.pointer (some ⟨bp, 0, none⟩)) rfl (by kernel_rfl) (by kernel_rfl) (by kernel_rfl) (fun _ _ _ h => h) hHeld (Or.inl ⟨by rfl, fun w' hSw => by (try dsimp only at hSw); (try subst hSw); go_simp⟩) ?_
    simp only [Act.put, List.setIfInBounds_toArray, List.set_cons_zero, List.set_cons_succ]
    refine held_take 14 (.pointer (some ⟨bp, 0, none⟩)) rfl (by kernel_rfl) (by kernel_rfl) (by kernel_rfl) (fun _ _ _ h => h) hHeld (Or.inl ⟨by rfl, fun w' hSw => by (try dsimp only at hSw); (try subst hSw); go_simp⟩) ?_
    simp only [Act.put, List.setIfInBounds_toArray, List.set_cons_zero, List.set_cons_succ]
    refine held_take 15 (.pointer (some ⟨bp, 3, none⟩)) rfl (by kernel_rfl) (by kernel_rfl) (by kernel_rfl) (fun _ _ _ h => h) hHeld (Or.inl ⟨by rfl, fun w' hSw => by (try dsimp only at hSw); (try subst hSw); go_simp⟩) ?_
    simp only [Act.put, List.setIfInBounds_toArray, List.set_cons_zero, List.set_cons_succ]
    refine held_take 16 (.pointer (some ⟨xp, 0, none⟩)) rfl (by kernel_rfl) (by kernel_rfl) (by kernel_rfl) (fun _ _ _ h => h) hHeld (Or.inl ⟨by rfl, fun w' hSw => by (try dsimp only at hSw); (try subst hSw); go_simp⟩) ?_
    simp only [Act.put, List.setIfInBounds_toArray, List.set_cons_zero, List.set_cons_succ]
    refine held_take 17 (.pointer (some ⟨q, 4, none⟩)) rfl (by kernel_rfl) (by kernel_rfl) (by kernel_rfl) (fun _ _ _ h => h) hHeld (Or.inl ⟨by rfl, fun w' hSw => by (try dsimp only at hSw); (try subst hSw); go_simp⟩) ?_
    simp only [Act.put, List.setIfInBounds_toArray, List.set_cons_zero, List.set_cons_succ]
    refine held_take 18 (.slice A l.length c) rfl (by kernel_rfl) (by kernel_rfl) (by kernel_rfl) (fun _ _ _ h => h) hHeld (Or.inl ⟨by rfl, fun w' hSw => by (try dsimp only at hSw); (try subst hSw); go_simp⟩) ?_
    simp only [Act.put, List.setIfInBounds_toArray, List.set_cons_zero, List.set_cons_succ]
    refine held_step 12 rfl (by kernel_rfl) (fun K hK => ?_)
    go_simp
    go_at_call 20
    have h3 := h2.keep kd
    have hlg3 := hlg.keep kd
    refine (commit_any _ lp p n f F s A c l few hlg3.log h3.dev hlg3.lF (hb.kept h3.only (by simp)) hl hc (by have := late.out; omega)).mono ?_
    rintro e w4 ⟨x, s', n', f', rfl, hc4, ha4⟩
    have k4 : Only (lp :: F) W.drew w4 := by obtain ⟨_, _, _, h, _⟩ := ha4; exact h
    have d44 := (kd.cell d4 (by simp))
    have d45 := k4.cell d44 (by simp [hql, hqF])
    obtain ⟨F4, h4, hlg4⟩ := h3.acted hlg3 ha4
    obtain ⟨_, _, c24, c34⟩ := h4.cells
    clear h2 hlg h3 hlg3 ha4 k4 d44 c2 c3 d4 kd
    go_wp2_with fail
    refine hK.out _ _ ⟨c24, c34, d45⟩ (fun hHeld => ?_)
    clear hK K
    refine held_step 19 rfl (by kernel_rfl) (fun K hK => ?_)
    go_simp
    go_at_call 29
    have hlt : t.late.length = s.late.length := by rw [like.out.2.1]
    refine (rcommit_any _ xp m n f G t A c l few hlg4.rlog h4.ref hlg4.xG (hb.kept h4.only (by simp)) (fun hne a ha hm => ?hne) hl (by rw [← like.out.1, len.out]; exact big) (by have := late.out; omega)).mono ?_
    case hne =>
      obtain ⟨g, o, hA, hg, _⟩ := hb.get (i := 0) (by rcases l with _ | _; exact absurd rfl hne; simp)
      rw [hA] at ha
      injection ha with ha
      subst ha
      have := (h4.gnew _ hm).1
      simp only at this
      omega
    rintro e w5 ⟨y, t', n2, f2, rfl, hc5, ha5⟩
    have k5 : Only (xp :: G) w4 w5 := by obtain ⟨_, _, _, h, _⟩ := ha5; exact h
    have d46 := k5.cell d45 (by simp [hqx, hqG])
    obtain ⟨G5, h5, hlg5⟩ := h4.racted hlg4 ha5
    obtain ⟨rfl, like', rfl, rfl⟩ := like.out.commits hc4 hc5
    obtain ⟨_, _, c25, c35⟩ := h5.cells
    obtain ⟨z1, z2, z3⟩ := commitsTo_late hc4
    have hfin := Duo.some (k := k + 1) F4 G5 s' t' lp xp n' f' h5 hlg5 like' (by rw [z2]; exact len.out) (by have := late.out; omega) (z3 few) big
    replace hfin := Lib.hid hfin
    clear h4 hlg4 ha5 k5 d45 c24 c34 h5 hlg5 like' z1 z2 z3 hc4 hc5 hlt
    go_wp2_with fail
    refine hK.out _ _ ⟨c25, c35, d46⟩ (fun hHeld => ?_)
    clear hK K
    refine held_take 20 (.bool true) rfl (by kernel_rfl) (by kernel_rfl) (by kernel_rfl) (fun _ _ _ h => h) hHeld (Or.inl ⟨by rfl, fun w' hSw => by (try dsimp only at hSw); (try subst hSw); go_simp⟩) ?_
    simp only [Act.put, List.setIfInBounds_toArray, List.set_cons_zero, List.set_cons_succ]
    refine held_take 21 (.bool true) rfl (by kernel_rfl) (by kernel_rfl) (by kernel_rfl) (fun _ _ _ h => h) hHeld (Or.inl ⟨by rfl, fun w' hSw => by (try dsimp only at hSw); (try subst hSw); go_simp⟩) ?_
    simp only [Act.put, List.setIfInBounds_toArray, List.set_cons_zero, List.set_cons_succ]
    refine held_take 22 (.bool true) rfl (by kernel_rfl) (by kernel_rfl) (by kernel_rfl) (fun _ _ _ h => h) hHeld (Or.inl ⟨by rfl, fun w' hSw => by (try dsimp only at hSw); (try subst hSw); go_simp⟩) ?_
    simp only [Act.put, List.setIfInBounds_toArray, List.set_cons_zero, List.set_cons_succ]
    refine wpAnyH_done (by kernel_rfl) ?_ _
    clear hHeld
    go_wp2
    go_ret
    exact ⟨rfl, hfin.out⟩

set_option maxRecDepth 100000 in
set_option maxHeartbeats 4000000 in
theorem duoRead_any (w w1 : World) (bp p m N k : Nat) (kind num : Int) (keep : Nat) (raw : List UInt8) (A : Option Addr) (c : Nat) (l : List Bk) (h : Duo w w1 bp p m N k) (hk : k ≤ 900) (hkind : kind.tmod 6 = 3) :
    Calls Try.prog 13 #[.pointer (some ⟨bp, 0, none⟩), .agg #[.int .i64 kind, .int .i64 num, .int .u64 (keep : Int), .string (strOf raw), .slice A l.length c]] w1 fun e w' => e = .returned (.bool true) ∧ Duo w w' bp p m N (k + 1) := by
  generalize strOf raw = rs at *
  cases h with
  | none F G s t h0 like len late =>
    have ka : Only [] w1 (w1.alloc (.cells #[.int .i64 kind, .int .i64 num, .int .u64 (keep : Int), .string rs, .slice A l.length c] 39)) := (Only.refl [] w1).alloc _
    have ba : Blk (w1.alloc (.cells #[.int .i64 kind, .int .i64 num, .int .u64 (keep : Int), .string rs, .slice A l.length c] 39)) w1.heap.size 39 #[.int .i64 kind, .int .i64 num, .int .u64 (keep : Int), .string rs, .slice A l.length c] := Blk.new _ _ _
    have h2 := h0.keep ka
    have hl2 := fun lp xp n1 f1 n2 f2 (x : Logs w w1 bp p m F G lp xp n1 f1 n2 f2) => x.keep ka
    obtain ⟨q, hq⟩ : ∃ q, q = w1.heap.size := ⟨_, rfl⟩
    rw [← hq] at ba
    have hqF : q ∉ F := fun hm => by have := (h0.fnew _ hm).2; omega
    have hqG : q ∉ G := fun hm => by have := (h0.gnew _ hm).2; omega
    replace hl2 := Lib.hid hl2
    replace like := Lib.hid like
    replace late := Lib.hid late
    replace len := Lib.hid len
    obtain ⟨c0, c1, c2, c3⟩ := h2.cells
    have d0 := ba.cell 0
    have d1 := ba.cell 1
    have d2 := ba.cell 2
    have d3 := ba.cell 3
    have d4 := ba.cell 4
    simp only [List.getElem?_toArray, List.getElem?_cons_zero, List.getElem?_cons_succ] at d0 d1 d2 d3 d4
    go_enter Try.func13, Try.ntmps13
    have hfin := Duo.none (k := k + 1) F G s t h2 like.out len.out (by have := late.out; omega)
    replace hfin := Lib.hid hfin
    clear hl2 d1 d2 d3 d4 c0 c1 c2
    go_wp2
    go_ret
    exact ⟨rfl, hfin.out⟩
  | some F G s t lp xp n f h0 logs like len late few big =>
    have ka : Only [] w1 (w1.alloc (.cells #[.int .i64 kind, .int .i64 num, .int .u64 (keep : Int), .string rs, .slice A l.length c] 39)) := (Only.refl [] w1).alloc _
    have ba : Blk (w1.alloc (.cells #[.int .i64 kind, .int .i64 num, .int .u64 (keep : Int), .string rs, .slice A l.length c] 39)) w1.heap.size 39 #[.int .i64 kind, .int .i64 num, .int .u64 (keep : Int), .string rs, .slice A l.length c] := Blk.new _ _ _
    have h2 := h0.keep ka
    have hl2 := fun lp xp n1 f1 n2 f2 (x : Logs w w1 bp p m F G lp xp n1 f1 n2 f2) => x.keep ka
    obtain ⟨q, hq⟩ : ∃ q, q = w1.heap.size := ⟨_, rfl⟩
    rw [← hq] at ba
    have hqF : q ∉ F := fun hm => by have := (h0.fnew _ hm).2; omega
    have hqG : q ∉ G := fun hm => by have := (h0.gnew _ hm).2; omega
    replace hl2 := Lib.hid hl2
    replace like := Lib.hid like
    replace late := Lib.hid late
    replace len := Lib.hid len
    obtain ⟨c0, c1, c2, c3⟩ := h2.cells
    have d0 := ba.cell 0
    have d1 := ba.cell 1
    have d2 := ba.cell 2
    have d3 := ba.cell 3
    have d4 := ba.cell 4
    simp only [List.getElem?_toArray, List.getElem?_cons_zero, List.getElem?_cons_succ] at d0 d1 d2 d3 d4
    go_enter Try.func13, Try.ntmps13
    go_wp2_with fail
    simp only [← hq]
    generalize w1.alloc (.cells #[.int .i64 kind, .int .i64 num, .int .u64 (keep : Int), .string rs, .slice A l.length c] 39) = W at *
    clear h0 ka hq
    have hlg2 := hl2.out _ _ _ _ _ _ logs
    obtain ⟨y1, y2⟩ := like.out.lread f num
    have hrd := fun W' (hw : Core w W' bp p m F G s t (.pointer (some ⟨lp, 0, none⟩)) (.pointer (some ⟨xp, 0, none⟩))) (hg : Logs w W' bp p m F G lp xp n f n f) => lread_any W' lp p n f F s num hg.log hw.dev
    have hrr := fun W' (hw : Core w W' bp p m F G s t (.pointer (some ⟨lp, 0, none⟩)) (.pointer (some ⟨xp, 0, none⟩))) (hg : Logs w W' bp p m F G lp xp n f n f) => rlread_any W' xp m n f G t num hg.rlog hw.ref (by rw [← like.out.2.1]; have := late.out; omega) (by rw [← like.out.1, len.out]; exact big)
    rw [← y1, ← y2] at hrr
    generalize strOf (lreadB s f num) = D at *
    generalize lreadErr s f num = er at *
    replace hrd := Lib.hid hrd
    replace hrr := Lib.hid hrr
    clear logs hl2 d0 d2 d3 d4 c0 c1 y1 y2
    have kd3 : Only [] W W.drew := (Only.refl [] W).drew
    refine wp_region_held_drew (S := fun w' => w'.cell? ⟨bp, 2, none⟩ = some (.pointer (some ⟨lp, 0, none⟩)) ∧ w'.cell? ⟨q, 1, none⟩ = some (.int .i64 num)) (by kernel_rfl) ⟨c2, d1⟩ (fun hHeld => ?_)
    refine held_take 0 (.pointer (some ⟨bp, 0, none⟩)) rfl (by kernel_rfl) (by kernel_rfl) (by kernel_rfl) (fun _ _ _ h => h) hHeld (Or.inl ⟨by rfl, fun w' hSw => by (try dsimp only at hSw); (try subst hSw); go_simp⟩) ?_
    simp only [Act.put, List.setIfInBounds_toArray, List.set_cons_zero, List.set_cons_succ]
    refine held_take 1 (.pointer (some ⟨bp, 0, none⟩)) rfl (by kernel_rfl) (by kernel_rfl) (by kernel_rfl) (fun _ _ _ h => h) hHeld (Or.inl ⟨by rfl, fun w' hSw => by (try dsimp only at hSw); (try subst hSw); go_simp⟩) ?_
    simp only [Act.put, List.setIfInBounds_toArray, List.set_cons_zero, List.set_cons_succ]
    refine held_take 2 (.pointer (some ⟨bp, 2, none⟩)) rfl (by kernel_rfl) (by kernel_rfl) (by kernel_rfl) (fun _ _ _ h => h) hHeld (Or.inl ⟨by rfl, fun w' hSw => by (try dsimp only at hSw); (try subst hSw); go_simp⟩) ?_
    simp only [Act.put, List.setIfInBounds_toArray, List.set_cons_zero, List.set_cons_succ]
    refine held_take 3 (.pointer (some ⟨lp, 0, none⟩)) rfl (by kernel_rfl) (by kernel_rfl) (by kernel_rfl) (fun _ _ _ h => h) hHeld (Or.inl ⟨by rfl, fun w' hSw => by (try dsimp only at hSw); (try subst hSw); go_simp⟩) ?_
    simp only [Act.put, List.setIfInBounds_toArray, List.set_cons_zero, List.set_cons_succ]
    refine held_take 4 (.pointer (some ⟨q, 1, none⟩)) rfl (by kernel_rfl) (by kernel_rfl) (by kernel_rfl) (fun _ _ _ h => h) hHeld (Or.inl ⟨by rfl, fun w' hSw => by (try dsimp only at hSw); (try subst hSw); go_simp⟩) ?_
    simp only [Act.put, List.setIfInBounds_toArray, List.set_cons_zero, List.set_cons_succ]
    refine held_take 5 (.int .i64 num) rfl (by kernel_rfl) (by kernel_rfl) (by kernel_rfl) (fun _ _ _ h => h) hHeld (Or.inl ⟨by rfl, fun w' hSw => by (try dsimp only at hSw); (try subst hSw); go_simp⟩) ?_
    simp only [Act.put, List.setIfInBounds_toArray, List.set_cons_zero, List.set_cons_succ]
    refine held_step 6 rfl (by kernel_rfl) (fun K hK => ?_)
    go_simp
    go_at_call 25
    have h3 := h2.keep kd3
    have hlg3 := hlg2.keep kd3
    refine (hrd.out _ h3 hlg3).mono ?_
    rintro e w3 ⟨rfl, rfl⟩
    go_wp2_with fail
    refine hK.out _ _ ⟨c2, d1⟩ (fun hHeld => ?_)
    clear hK K
    refine held_take 7 (.tuple #[.string D, .int .i64 er]) rfl (by kernel_rfl) (by kernel_rfl) (by kernel_rfl) (fun _ _ _ h => h) hHeld (Or.inl ⟨by rfl, fun w' hSw => by (try dsimp only at hSw); (try subst hSw); go_simp⟩) ?_
    simp only [Act.put, List.setIfInBounds_toArray, List.set_cons_zero, List.set_cons_succ]
    refine held_take 8 (.string D) rfl (by kernel_rfl) (by kernel_rfl) (by kernel_rfl) (fun _ _ _ h => h) hHeld (Or.inl ⟨by rfl, fun w' hSw => by (try dsimp only at hSw); (try subst hSw); go_simp⟩) ?_
    simp only [Act.put, List.setIfInBounds_toArray, List.set_cons_zero, List.set_cons_succ]
    refine held_take 9 (.int .i64 er) rfl (by kernel_rfl) (by kernel_rfl) (by kernel_rfl) (fun _ _ _ h => h) hHeld (Or.inl ⟨by rfl, fun w' hSw => by (try dsimp only at hSw); (try subst hSw); go_simp⟩) ?_
    simp only [Act.put, List.setIfInBounds_toArray, List.set_cons_zero, List.set_cons_succ]
    refine held_take 10 (.string D) rfl (by kernel_rfl) (by kernel_rfl) (by kernel_rfl) (fun _ _ _ h => h) hHeld (Or.inl ⟨by rfl, fun w' hSw => by (try dsimp only at hSw); (try subst hSw); go_simp⟩) ?_
    simp only [Act.put, List.setIfInBounds_toArray, List.set_cons_zero, List.set_cons_succ]
    refine held_take 11 (.int .i64 er) rfl (by kernel_rfl) (by kernel_rfl) (by kernel_rfl) (fun _ _ _ h => h) hHeld (Or.inl ⟨by rfl, fun w' hSw => by (try dsimp only at hSw); (try subst hSw); go_simp⟩) ?_
    simp only [Act.put, List.setIfInBounds_toArray, List.set_cons_zero, List.set_cons_succ]
    refine wpAnyH_done (by kernel_rfl) ?_ _
    clear hHeld
    clear kd3 h2 hlg2
    obtain ⟨c0, c1, c2, c3⟩ := h3.cells
    go_wp2_with fail
    have kd4 : Only [] W.drew W.drew.drew := (Only.refl [] W.drew).drew
    refine wp_region_held_drew (S := fun w' => w'.cell? ⟨bp, 3, none⟩ = some (.pointer (some ⟨xp, 0, none⟩)) ∧ w'.cell? ⟨q, 1, none⟩ = some (.int .i64 num)) (by kernel_rfl) ⟨c3, d1⟩ (fun hHeld => ?_)
    refine held_take 0 (.pointer (some ⟨bp, 0, none⟩)) rfl (by kernel_rfl) (by kernel_rfl) (by kernel_rfl) (fun _ _ _ h => h) hHeld (Or.inl ⟨by rfl, fun w' hSw => by (try dsimp only at hSw); (try subst hSw); go_simp⟩) ?_
    simp only [Act.put, List.setIfInBounds_toArray, List.set_cons_zero, List.set_cons_succ]
    refine held_take 1 (.pointer (some ⟨bp, 0, none⟩)) rfl (by kernel_rfl) (by kernel_rfl) (by kernel_rfl) (fun _ _ _ h => h) hHeld (Or.inl ⟨by rfl, fun w' hSw => by (try dsimp only at hSw); (try subst hSw); go_simp⟩) ?_
    simp only [Act.put, List.setIfInBounds_toArray, List.set_cons_zero, List.set_cons_succ]
    refine held_take 2 (.pointer (some ⟨bp, 3, none⟩)) rfl (by kernel_rfl) (by kernel_rfl) (by kernel_rfl) (fun _ _ _ h => h) hHeld (Or.inl ⟨by rfl, fun w' hSw => by (try dsimp only at hSw); (try subst hSw); go_simp⟩) ?_
    simp only [Act.put, List.setIfInBounds_toArray, List.set_cons_zero, List.set_cons_succ]
    refine held_take 3 (.pointer (some ⟨xp, 0, none⟩)) rfl (by kernel_rfl) (by kernel_rfl) (by kernel_rfl) (fun _ _ _ h => h) hHeld (Or.inl ⟨by rfl, fun w' hSw => by (try dsimp only at hSw); (try subst hSw); go_simp⟩) ?_
    simp only [Act.put, List.setIfInBounds_toArray, List.set_cons_zero, List.set_cons_succ]
    refine held_take 4 (.pointer (some ⟨q, 1, none⟩)) rfl (by kernel_rfl) (by kernel_rfl) (by kernel_rfl) (fun _ _ _ h => h) hHeld (Or.inl ⟨by rfl, fun w' hSw => by (try dsimp only at hSw); (try subst hSw); go_simp⟩) ?_
    simp only [Act.put, List.setIfInBounds_toArray, List.set_cons_zero, List.set_cons_succ]
    refine held_take 5 (.int .i64 num) rfl (by kernel_rfl) (by kernel_rfl) (by kernel_rfl) (fun _ _ _ h => h) hHeld (Or.inl ⟨by rfl, fun w' hSw => by (try dsimp only at hSw); (try subst hSw); go_simp⟩) ?_
    simp only [Act.put, List.setIfInBounds_toArray, List.set_cons_zero, List.set_cons_succ]
    refine held_step 6 rfl (by kernel_rfl) (fun K hK => ?_)
    go_simp
    go_at_call 32
    have h4 := h3.keep kd4
    have hlg4 := hlg3.keep kd4
    refine (hrr.out _ h4 hlg4).mono ?_
    rintro e w4 ⟨rfl, rfl⟩
    go_wp2_with fail
    refine hK.out _ _ ⟨c3, d1⟩ (fun hHeld => ?_)
    clear hK K
    refine held_take 7 (.tuple #[.string D, .int .i64 er]) rfl (by kernel_rfl) (by kernel_rfl) (by kernel_rfl) (fun _ _ _ h => h) hHeld (Or.inl ⟨by rfl, fun w' hSw => by (try dsimp only at hSw); (try subst hSw); go_simp⟩) ?_
    simp only [Act.put, List.setIfInBounds_toArray, List.set_cons_zero, List.set_cons_succ]
    refine held_take 8 (.string D) rfl (by kernel_rfl) (by kernel_rfl) (by kernel_rfl) (fun _ _ _ h => h) hHeld (Or.inl ⟨by rfl, fun w' hSw => by (try dsimp only at hSw); (try subst hSw); go_simp⟩) ?_
    simp only [Act.put, List.setIfInBounds_toArray, List.set_cons_zero, List.set_cons_succ]
    refine held_take 9 (.int .i64 er) rfl (by kernel_rfl) (by kernel_rfl) (by kernel_rfl) (fun _ _ _ h => h) hHeld (Or.inl ⟨by rfl, fun w' hSw => by (try dsimp only at hSw); (try subst hSw); go_simp⟩) ?_
    simp only [Act.put, List.setIfInBounds_toArray, List.set_cons_zero, List.set_cons_succ]
    refine held_take 10 (.string D) rfl (by kernel_rfl) (by kernel_rfl) (by kernel_rfl) (fun _ _ _ h => h) hHeld (Or.inl ⟨by rfl, fun w' hSw => by (try dsimp only at hSw); (try subst hSw); go_simp⟩) ?_
    simp only [Act.put, List.setIfInBounds_toArray, List.set_cons_zero, List.set_cons_succ]
    refine held_take 11 (.int .i64 er) rfl (by kernel_rfl) (by kernel_rfl) (by kernel_rfl) (fun _ _ _ h => h) hHeld (Or.inl ⟨by rfl, fun w' hSw => by (try dsimp only at hSw); (try subst hSw); go_simp⟩) ?_
    simp only [Act.put, List.setIfInBounds_toArray, List.set_cons_zero, List.set_cons_succ]
    refine wpAnyH_done (by kernel_rfl) ?_ _
    clear hHeld
    clear kd4 h3 hlg3
    obtain ⟨c0, c1, c2, c3⟩ := h4.cells
    have hfin := Duo.some (k := k + 1) F G s t lp xp n f h4 hlg4 like.out len.out (by have := late.out; omega) few big
    replace hfin := Lib.hid hfin
    clear h4 hlg4
    go_wp2
    go_ret
    exact ⟨rfl, hfin.out⟩

end Go.Proofs.Ytihoebmfanelkaa
