/- spot, Above; checked, Find, Get: the program's and the document's. -/
import Derived.Test.YteiekfccfddmjaaDoorWalk10
namespace Go.Proofs.YteiekfccfddmjaaDoor
open Go.RowKit

theorem block_lt {w : World} {g i : Nat} {v : Value} (h : w.cell? ⟨g, i, none⟩ = some v) : g < w.heap.size := World.block_lt_of_cell? w _ h
theorem spotR_nil (t : List Nd) : spotR t [] = (zeroN, [], 8) := rfl
theorem spotR_last (t : List Nd) (q : List (List UInt8)) (s : List UInt8) : spotR t (q ++ [s]) = if (walkR t rootN q).2 = 0 then (if (walkR t rootN q).1.dir then ((walkR t rootN q).1, s, 0) else (zeroN, [], 10)) else (zeroN, [], (walkR t rootN q).2) := by
  unfold spotR
  rw [List.getLast?_concat, List.dropLast_concat]
theorem results_nd3 {fn : Func} {p u v : Tmp} (h : fn.results = #[.cell p 28, .tmp u, .tmp v]) (tmps : Array Value) (w : World) (g : Nat) (hp : tmps.getD p undef = .pointer (some ⟨g, 0, none⟩)) (q : Nd) (hb : Blk w g 28 (ndA q)) (x y : Value) (hx : tmps.getD u undef = x) (hy : tmps.getD v undef = y) :
    (results fn tmps).run Tryd.prog w = .ok (.tuple #[ndV q, x, y]) w := by
  subst hx
  subst hy
  have hl := run_loadVar_mid (P := Tryd.prog) w g 0 28 (ndA q).toList _ (Blk.range9 hb) Tryd.underlying28 rfl size_nd
  rw [Array.getD_eq_getD_getElem?] at hp
  unfold results
  rw [h]
  simp [Result.andThen, hp, asAddr, hl, ndV, ndA]
theorem wp_store_nd {o : Oper} {a : Act} {w : World} {K : Act → World → Prop} {Q : Exit → Act → World → Prop} (p q : Nd) (x y : Operand) (ho : o.op = .store 28 x y) (g : Nat) (hx : a.eval x = .pointer (some ⟨g, 0, none⟩)) (hy : a.eval y = ndV p) (hb : Bx w g q)
    (h : ∀ w', Bx w' g p → Only [g] w w' → K (a.put o.dst undef) w') : o.wp Tryd.prog a w K Q := by
  have hrun := run_storeVar_row (P := Tryd.prog) w g 28 28 (ndA q) (ndA p) hb size_nd rfl (by simp [ndA, Value.oneCell'])
  have hy' : a.eval y = .agg (ndA p) := hy
  unfold Oper.wp execOp
  simp only [ho, hx, hy', Instr.storeAt, Instr.sureAddr, Sem.run_bind, Sem.run_pure, Result.andThen_ok, hrun]
  exact h _ (setRow_heap w g (ndA q) (ndA p) 28 _ hb) ((Only.refl [g] w).setRow (.inl (by simp)) _)

set_option maxRecDepth 100000 in
set_option maxHeartbeats 4000000 in
theorem spot_any (w : World) (A B : Option Addr) (c d : Nat) (l : List Nd) (names : List (List UInt8)) (hb : Els ndE 5 w A l) (hl : l.length ≤ 1048576) (h0 : l[0]? = some rootN) (hs : Els strE 1 w B names) (hn : names.length ≤ 1048576) (hd : names.length ≤ d) :
    Calls Tryd.prog 49 #[.slice A l.length c, .slice B names.length d] w fun e w' => e = .returned (.tuple #[ndV (spotR l names).1, .string (strOf (spotR l names).2.1), .int .i64 (spotR l names).2.2]) ∧ Only [] w w' := by
  rcases List.eq_nil_or_concat names with rfl | ⟨q, s, rfl⟩
  · rw [spotR_nil]
    have bz := Bx.zero w
    go_enter Tryd.func49, Tryd.ntmps49
    go_wp2_with (refine wpList_store_nd zeroN zeroN rfl _ _ rfl w.heap.size rfl rfl bz ?_; intro w5 b5 k5)
    refine bodyPost_ret (v := .tuple #[ndV zeroN, .string ⟨#[]⟩, .int .i64 8]) (results_nd3 rfl _ _ w.heap.size rfl _ b5 _ _ rfl rfl) rfl ?_
    exact ⟨rfl, ((Only.refl [] w).alloc _).at0 k5 (Nat.le_refl _)⟩
  rw [List.concat_eq_append] at hs hn hd ⊢
  rw [spotR_last]
  have hhd := hs.head (c := d) (m := q.length)
  rw [List.take_left] at hhd
  have hrun := run_head (P := Tryd.prog) 33 9 Tryd.underlying33 size_str B (q ++ [s]).length d q.length (q.length : Int) rfl (by simp at hd; omega)
  have hblk : ∀ a, tailA B d 0 1 = some a → a.block ∉ ([] : List Nat) := fun a _ => by simp
  have hW := fun W (k : Only [] w W) => walk_any W A (tailA B d 0 1) c d l rootN q (hb.kept k (by simp)) hl h0 (hhd.kept k hblk) (by simp at hn; omega)
  have hlen : ((q ++ [s]).length : Int) - 1 = (q.length : Int) := by simp
  have hne : (((q ++ [s]).length : Int) == 0) = false := by rw [beq_eq_false_iff_ne]; simp; omega
  have hcs : ∀ W, Only [] w W → ∃ g o, B = some ⟨g, o, none⟩ ∧ W.cell? ⟨g, o + q.length, none⟩ = some (.string (strOf s)) := fun W k => by
    obtain ⟨g, o, hB, hg, hat⟩ := hs.get (i := q.length) (by simp)
    have := strs_at (hat.kept k (by simp)) (i := q.length) (by simp)
    simp at this
    exact ⟨g, o, hB, this⟩
  obtain ⟨g, o, rfl, _⟩ := hcs w (Only.refl _ _)
  have hcs2 : ∀ W, Only [] w W → W.cell? ⟨g, o + q.length, none⟩ = some (.string (strOf s)) := fun W k => by
    obtain ⟨g', o', e, h⟩ := hcs W k
    injection e with e
    injection e with e1 e2
    rw [e1, e2]
    exact h
  have hqd : (q.length : Int) < ((q ++ [s]).length : Int) := by simp; omega
  obtain ⟨nl, hnl⟩ : ∃ nl, nl = (q ++ [s]).length := ⟨_, rfl⟩
  rw [← hnl] at hrun hlen hne hqd ⊢
  have hqb : nl ≤ 1048576 := by omega
  generalize tailA (some ⟨g, o, none⟩) d 0 1 = HB at *
  have hwe := walkR_err l q rootN
  generalize walkR l rootN q = R at *
  obtain ⟨y, er⟩ := R
  simp only at hW hwe ⊢
  obtain ⟨ql, hql⟩ : ∃ ql, ql = q.length := ⟨_, rfl⟩
  rw [← hql] at hrun hlen hqd hW hcs2
  have bz := Bx.zero w
  have hk0 : Only [] w (w.alloc (.cells #[.int .u32 0, .int .u32 0, .string ⟨#[]⟩, .bool false, .int .u32 0] 28)) := (Only.refl [] w).alloc _
  replace hnl := Lib.hid hnl
  replace hql := Lib.hid hql
  replace hW := Lib.hid hW
  replace hcs2 := Lib.hid hcs2
  obtain ⟨y0, y1, y2, y3, y4⟩ := y
  have hyv : ndV ⟨y0, y1, y2, y3, y4⟩ = .agg #[.int .u32 y0, .int .u32 y1, .string (strOf y2), .bool y3, .int .u32 y4] := rfl
  clear hcs hs hhd hblk hb
  by_cases her : er = 0
  rotate_left
  · rw [if_neg her]
    have heb : (er != 0) = true := by simpa using her
    clear hwe
    go_enter Tryd.func49, Tryd.ntmps49
    go_wp2_with fail
    refine (hW.out _ hk0).mono ?_; rintro e w1 ⟨rfl, k1⟩
    have hk1 := hk0.trans k1
    have b2 : Bx (w1.alloc (.cells #[.int .u32 y0, .int .u32 y1, .string (strOf y2), .bool y3, .int .u32 y4] 28)) w.heap.size zeroN := (bz.kept k1 (by simp)).alloc _
    rw [hyv]
    go_wp2_with (refine wpList_store_nd zeroN zeroN rfl _ _ rfl w.heap.size rfl rfl b2 ?_; intro w5 b5 k5)
    refine bodyPost_ret (v := .tuple #[ndV zeroN, .string ⟨#[]⟩, .int .i64 er]) (results_nd3 rfl _ _ w.heap.size rfl _ b5 _ _ rfl rfl) rfl ?_
    exact ⟨rfl, (hk1.alloc _).at0 k5 (Nat.le_refl _)⟩
  subst her
  rw [if_pos rfl]
  clear hwe
  cases y3 with
  | false =>
    simp only [Bool.false_eq_true, if_false]
    go_enter Tryd.func49, Tryd.ntmps49
    go_wp2_with fail
    refine (hW.out _ hk0).mono ?_; rintro e w1 ⟨rfl, k1⟩
    have hk1 := hk0.trans k1
    have b2 : Bx (w1.alloc (.cells #[.int .u32 y0, .int .u32 y1, .string (strOf y2), .bool false, .int .u32 y4] 28)) w.heap.size zeroN := (bz.kept k1 (by simp)).alloc _
    rw [hyv]
    go_wp2_with (refine wpList_store_nd zeroN zeroN rfl _ _ rfl w.heap.size rfl rfl b2 ?_; intro w5 b5 k5)
    refine bodyPost_ret (v := .tuple #[ndV zeroN, .string ⟨#[]⟩, .int .i64 10]) (results_nd3 rfl _ _ w.heap.size rfl _ b5 _ _ rfl rfl) rfl ?_
    exact ⟨rfl, (hk1.alloc _).at0 k5 (Nat.le_refl _)⟩
  | true =>
    simp only [if_true]
    go_enter Tryd.func49, Tryd.ntmps49
    go_wp2_with fail
    refine (hW.out _ hk0).mono ?_; rintro e w1 ⟨rfl, k1⟩
    have hk1 := hk0.trans k1
    have b2 : Bx (w1.alloc (.cells #[.int .u32 y0, .int .u32 y1, .string (strOf y2), .bool true, .int .u32 y4] 28)) w.heap.size zeroN := (bz.kept k1 (by simp)).alloc _
    have bn := Bx.new w1 ⟨y0, y1, y2, true, y4⟩
    simp only at bn
    have hk2 := hk1.alloc (.cells #[.int .u32 y0, .int .u32 y1, .string (strOf y2), .bool true, .int .u32 y4] 28)
    have hne2 : w.heap.size < w1.heap.size := Nat.lt_of_lt_of_le (by simp) k1.size
    rw [hyv]
    go_wp2_with fail
    generalize (w1.alloc (.cells #[.int .u32 y0, .int .u32 y1, .string (strOf y2), .bool true, .int .u32 y4] 28)) = w2 at *
    generalize w1.heap.size = q1 at *
    have cs := hcs2.out _ hk2
    have hgl : g < w.heap.size := block_lt (hcs2.out _ (Only.refl _ _))
    obtain ⟨d0, d1, d2, d3, d4⟩ := bn.cells
    simp only at d0 d1 d2 d3 d4
    have b2d : Bx w2.drew w.heap.size zeroN := b2.kept (Only.refl [] _).drew (by simp)
    have hkd := hk2.drew
    have FC : Hid (∀ w', Only [w.heap.size] w2 w' → w'.cell? ⟨q1, 0, none⟩ = some (.int .u32 y0) ∧ w'.cell? ⟨q1, 1, none⟩ = some (.int .u32 y1) ∧ w'.cell? ⟨q1, 2, none⟩ = some (.string (strOf y2)) ∧ w'.cell? ⟨q1, 3, none⟩ = some (.bool true) ∧ w'.cell? ⟨q1, 4, none⟩ = some (.int .u32 y4) ∧ w'.cell? ⟨g, o + ql, none⟩ = some (.string (strOf s))) := fun w' kk =>
      ⟨kk.cell d0 (by simp; omega), kk.cell d1 (by simp; omega), kk.cell d2 (by simp; omega), kk.cell d3 (by simp; omega), kk.cell d4 (by simp; omega), kk.cell cs (by simp; omega)⟩
    clear d0 d1 d2 d3 d4 cs
    refine wp_region_held_drew (S := fun w' => w'.cell? ⟨q1, 0, none⟩ = some (.int .u32 y0) ∧ w'.cell? ⟨q1, 1, none⟩ = some (.int .u32 y1) ∧ w'.cell? ⟨q1, 2, none⟩ = some (.string (strOf y2)) ∧ w'.cell? ⟨q1, 3, none⟩ = some (.bool true) ∧ w'.cell? ⟨q1, 4, none⟩ = some (.int .u32 y4) ∧ w'.cell? ⟨g, o + ql, none⟩ = some (.string (strOf s))) (by kernel_rfl) (FC.out _ (Only.refl _ _).drew) (fun hHeld => ?_)
    refine held_take 0 (.agg #[.int .u32 y0, .int .u32 y1, .string (strOf y2), .bool true, .int .u32 y4]) rfl (by kernel_rfl) (by kernel_rfl) (by kernel_rfl) (fun _ _ _ h => h) hHeld (Or.inl ⟨by rfl, fun w' hSw => by (try dsimp only at hSw); (try subst hSw); go_simp⟩) ?_
    simp only [Act.put, List.setIfInBounds_toArray, List.set_cons_zero, List.set_cons_succ]
    refine held_take 1 (.slice (some ⟨g, o, none⟩) nl d) rfl (by kernel_rfl) (by kernel_rfl) (by kernel_rfl) (fun _ _ _ h => h) hHeld (Or.inl ⟨by rfl, fun w' hSw => by (try dsimp only at hSw); (try subst hSw); go_simp⟩) ?_
    simp only [Act.put, List.setIfInBounds_toArray, List.set_cons_zero, List.set_cons_succ]
    refine held_take 2 (.int .i64 ql) rfl (by kernel_rfl) (by kernel_rfl) (by kernel_rfl) (fun _ _ _ h => h) hHeld (Or.inl ⟨by rfl, fun w' hSw => by (try dsimp only at hSw); (try subst hSw); go_simp⟩) ?_
    simp only [Act.put, List.setIfInBounds_toArray, List.set_cons_zero, List.set_cons_succ]
    refine held_take 3 (.pointer (some ⟨g, o + ql, none⟩)) rfl (by kernel_rfl) (by kernel_rfl) (by kernel_rfl) (fun _ _ _ h => h) hHeld (Or.inl ⟨by rfl, fun w' hSw => by (try dsimp only at hSw); (try subst hSw); go_simp⟩) ?_
    simp only [Act.put, List.setIfInBounds_toArray, List.set_cons_zero, List.set_cons_succ]
    refine held_take 4 (.string (strOf s)) rfl (by kernel_rfl) (by kernel_rfl) (by kernel_rfl) (fun _ _ _ h => h) hHeld (Or.inl ⟨by rfl, fun w' hSw => by (try dsimp only at hSw); (try subst hSw); go_simp⟩) ?_
    simp only [Act.put, List.setIfInBounds_toArray, List.set_cons_zero, List.set_cons_succ]
    refine held_step 5 rfl (by kernel_rfl) (fun K hK => ?_)
    rw [if_pos (by rfl)]
    refine wp_store_nd ⟨y0, y1, y2, true, y4⟩ zeroN _ _ rfl w.heap.size rfl rfl b2d ?_
    intro w5 b5 k5
    refine hK.out _ _ (FC.out _ ((Only.refl [w.heap.size] w2).drew.trans k5)) (fun hHeld => ?_)
    clear hK K
    simp only [Act.put]
    refine held_take 6 (.string (strOf s)) rfl (by kernel_rfl) (by kernel_rfl) (by kernel_rfl) (fun _ _ _ h => h) hHeld (Or.inl ⟨by rfl, fun w' hSw => by (try dsimp only at hSw); (try subst hSw); go_simp⟩) ?_
    simp only [Act.put, List.setIfInBounds_toArray, List.set_cons_zero, List.set_cons_succ]
    refine held_take 7 (.int .i64 0) rfl (by kernel_rfl) (by kernel_rfl) (by kernel_rfl) (fun _ _ _ h => h) hHeld (Or.inl ⟨by rfl, fun w' hSw => by (try dsimp only at hSw); (try subst hSw); go_simp⟩) ?_
    simp only [Act.put, List.setIfInBounds_toArray, List.set_cons_zero, List.set_cons_succ]
    refine wpAnyH_done (by kernel_rfl) ?_ _
    clear hHeld
    go_wp2
    refine bodyPost_ret (v := .tuple #[ndV ⟨y0, y1, y2, true, y4⟩, .string (strOf s), .int .i64 0]) (results_nd3 rfl _ _ w.heap.size rfl _ b5 _ _ rfl rfl) rfl ?_
    exact ⟨rfl, hkd.at0 k5 (Nat.le_refl _)⟩
end Go.Proofs.YteiekfccfddmjaaDoor
