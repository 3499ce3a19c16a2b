/- What turns from one state to another one. -/
import Derived.Test.YtalkhhjfplahkaaGreatKO
import Derived.Laws.Cover1
import Derived.Deep.CutBlock
import Derived.Deep.DeepCutAuto
import Derived.Deep.LoopGhost
namespace Go.Proofs.YtalkhhjfplahkaaGreat
open Go.RowKit
set_option linter.unusedVariables false

/-! The order of keys. -/
theorem ul_iff (a b : UInt8) : (a < b) ↔ a.toNat < b.toNat := UInt8.lt_iff_toNat_lt
theorem bl_irrefl : ∀ a : List UInt8, Op.bytesLess a a = false
  | [] => rfl
  | x :: r => by
    have h : ¬ x < x := UInt8.lt_irrefl x
    simp [Op.bytesLess, h, bl_irrefl r]
theorem bl_asymm : ∀ a b : List UInt8, Op.bytesLess a b = true → Op.bytesLess b a = false
  | _, [], h => by simp [Op.bytesLess] at h
  | [], _ :: _, _ => by simp [Op.bytesLess]
  | x :: a, y :: b, h => by
    simp only [Op.bytesLess, Bool.or_eq_true, decide_eq_true_eq, Bool.and_eq_true, beq_iff_eq, ul_iff] at h
    rcases h with h | ⟨rfl, h⟩
    · have h1 : ¬ y < x := by rw [ul_iff]; omega
      have h2 : (y == x) = false := by
        simp only [beq_eq_false_iff_ne, ne_eq]
        intro e; subst e; omega
      simp [Op.bytesLess, h1, h2]
    · have h1 : ¬ x < x := UInt8.lt_irrefl x
      simp [Op.bytesLess, h1, bl_asymm a b h]
theorem bl_total : ∀ a b : List UInt8, ¬ a = b → Op.bytesLess a b = false → Op.bytesLess b a = true
  | [], [], h, _ => absurd rfl h
  | _ :: _, [], _, _ => by simp [Op.bytesLess]
  | [], _ :: _, _, h => by simp [Op.bytesLess] at h
  | x :: a, y :: b, h, hn => by
    simp only [Op.bytesLess, Bool.or_eq_false_iff, decide_eq_false_iff_not, ul_iff, Bool.and_eq_false_imp, beq_iff_eq] at hn
    by_cases hxy : x = y
    · subst hxy
      have h1 := bl_total a b (fun e => h (by rw [e])) (hn.2 rfl)
      simp [Op.bytesLess, h1]
    · have h1 : y < x := by
        rw [ul_iff]
        have : ¬ x.toNat = y.toNat := fun e => hxy (UInt8.toNat_inj.1 e)
        omega
      simp [Op.bytesLess, h1]

def mergeL : List Ch → List Ch → List Ch
  | [], m => m
  | x :: l, [] => goneR x :: mergeL l []
  | x :: l, y :: m =>
    if Op.bytesLess x.key y.key = true then goneR x :: mergeL l (y :: m)
    else if x.key = y.key then (if x = y then mergeL l m else y :: mergeL l m)
    else y :: mergeL (x :: l) m
termination_by l m => l.length + m.length
decreasing_by all_goals simp_wf <;> omega
theorem mergeL_nil (l : List Ch) : mergeL l [] = l.map goneR := by
  induction l with
  | nil => simp [mergeL]
  | cons x l ih => simp [mergeL, ih]
theorem mergeL_lt {x y : Ch} {l m : List Ch} (h : Op.bytesLess x.key y.key = true) : mergeL (x :: l) (y :: m) = goneR x :: mergeL l (y :: m) := by
  rw [mergeL, if_pos h]
theorem mergeL_gt {x y : Ch} {l m : List Ch} (h : ¬ Op.bytesLess x.key y.key = true) (h2 : ¬ x.key = y.key) : mergeL (x :: l) (y :: m) = y :: mergeL (x :: l) m := by
  rw [mergeL, if_neg h, if_neg h2]
theorem mergeL_eq {x y : Ch} {l m : List Ch} (h2 : x.key = y.key) (h3 : ¬ x = y) : mergeL (x :: l) (y :: m) = y :: mergeL l m := by
  rw [mergeL, if_neg (by rw [h2, bl_irrefl]; simp), if_pos h2, if_neg h3]
theorem mergeL_same {x : Ch} {l m : List Ch} : mergeL (x :: l) (x :: m) = mergeL l m := by
  rw [mergeL, if_neg (by rw [bl_irrefl]; simp), if_pos rfl, if_pos rfl]
theorem mergeL_len : ∀ (n : Nat) (l m : List Ch), l.length + m.length ≤ n → (mergeL l m).length ≤ l.length + m.length
  | _, [], m, _ => by simp [mergeL]
  | _, x :: l, [], _ => by rw [mergeL_nil, List.length_map]; omega
  | 0, x :: l, y :: m, h => by simp at h
  | n + 1, x :: l, y :: m, h => by
    simp only [List.length_cons] at h ⊢
    rw [mergeL]
    split
    · have := mergeL_len n l (y :: m) (by simp; omega)
      simp only [List.length_cons] at this ⊢; omega
    · split
      · split
        · have := mergeL_len n l m (by omega)
          omega
        · have := mergeL_len n l m (by omega)
          simp only [List.length_cons]; omega
      · have := mergeL_len n (x :: l) m (by simp; omega)
        simp only [List.length_cons] at this ⊢; omega
/-- What Changes answers. -/
def ChgAns (s z : Sta) (w w' : World) (e : Ending) : Prop :=
  ((RightS s ∧ RightS z) ∧ ∃ v, e = .returned (.tuple #[v, .int .i64 0]) ∧ Mine chE 3 48 w w' v (mergeL (rowsL s) (rowsL z))) ∨ (¬ (RightS s ∧ RightS z) ∧ e = .returned (.tuple #[.slice none 0 0, .int .i64 1]) ∧ Only [] w w')


section
variable {ops : Array Oper} {rest : List Oper} {o : Oper} {a : Act} {w : World} {Q : Exit → Act → World → Prop}
theorem wpList_neq_ch (p q : Ch) (hw : Region.wanted o (yielded ops a.tmps) = true) (x y : Operand) (u : TypeId) (ho : o.op = .binOp .neq 48 x y u) (hx : a.eval x = chV p) (hy : a.eval y = chV q) (b : Bool) (hb : (!decide (p = q)) = b)
    (h : wpList Tryz.prog ops Q rest (a.put o.dst (.bool b)) w) : wpList Tryz.prog ops Q (o :: rest) a w := by
  subst hb
  refine wpList_want hw fun _ hK => ?_
  have hg := run_eqGuard_agg (P := Tryz.prog) w .neq 48 x y (chA p) (chA q) (by kernel_rfl)
  have hn : (binOp .neq 48 (.agg (chA p)) (.agg (chA q))).run Tryz.prog w = .ok (.bool (!decide (p = q))) w := neq_of_eql 48 (chA p) (chA q) _ (run_eql_ch p q w)
  have hx' : a.eval x = .agg (chA p) := hx
  have hy' : a.eval y = .agg (chA q) := hy
  unfold Oper.wp execOp
  simp only [ho, hx', hy', Sem.run_bind, Sem.run_pure, Result.andThen_ok, hg, hn]
  exact hK _ _ h
end

theorem grown_app {α : Type} {enc : α → List Value} {k : Nat} {e : TypeId} {w w1 w2 : World} {v v' : Value} {l m : List α} (h : Mine enc k e w w1 v l) (h1 : w2.ownsRow 0 e k v' (l.length + m.length) (encs enc (l ++ m))) (h2 : w1.grownBy w2 v.ownBlock) (h3 : v'.ownBlock = v.ownBlock ∨ v'.ownBlock = some w1.heap.size) : Mine enc k e w w2 v' (l ++ m) := by
  refine ⟨by rw [List.length_append]; exact h1, fun g hg => ?_, h.only.grown h2 (fun j hj => .inr (h.new j hj))⟩
  rcases h3 with h3 | h3
  · exact h.new g (by rw [← h3]; exact hg)
  · rw [h3] at hg
    injection hg with hg
    have := h.only.size
    omega
theorem list_of (l : List UInt8) : (strOf l).toList = l := by rw [Lib.toList_data, strOf_list]
/-- A whole value goes into its own block. -/
theorem wp_store_blk {P : Program} {o : Oper} {a : Act} {w : World} {K : Act → World → Prop} {Q : Exit → Act → World → Prop} (ty : TypeId) (x y : Operand) (ho : o.op = .store ty x y)
    (g : Nat) (c c' : Array Value) (hx : a.eval x = .pointer (some ⟨g, 0, none⟩)) (hy : a.eval y = .agg c') (hb : Blk w g ty c) (hi : (P.info? ty).map (·.size) = some c'.size) (hs : c.size = c'.size) (h1 : c'.all (·.oneCell') = true)
    (h : ∀ w', Blk w' g ty c' → Only [g] w w' → K (a.put o.dst undef) w') : o.wp P a w K Q := by
  have hrun := run_storeVar_row (P := P) w g ty ty c c' hb hi hs h1
  unfold Oper.wp execOp
  simp only [ho, hx, hy, Instr.storeAt, Instr.sureAddr, Sem.run_bind, Sem.run_pure, Result.andThen_ok, hrun]
  exact h _ (setRow_heap w g c c' ty _ hb) ((Only.refl [g] w).setRow (.inl (by simp)) _)

set_option maxRecDepth 100000 in
set_option maxHeartbeats 16000000 in
theorem changes_any (w : World) (s z : Sta) (p q : Sp) (h : StM w s p) (h2 : StM w z q) : Calls Tryz.prog 11 #[staV s p, staV z q] w fun e w' => ChgAns s z w w' e := by
  have k0 : Only [] w ((w.alloc (.cells #[.int .u32 s.boot, .int .u32 s.next, .slice p.tA s.tree.length p.tc, .slice p.oA s.opens.length p.oc, .slice p.lA s.locks.length p.lc, .slice p.wA s.works.length p.wc, .slice p.sA s.seats.length p.sc] 29)).alloc (.cells #[.int .u32 z.boot, .int .u32 z.next, .slice q.tA z.tree.length q.tc, .slice q.oA z.opens.length q.oc, .slice q.lA z.locks.length q.lc, .slice q.wA z.works.length q.wc, .slice q.sA z.seats.length q.sc] 29)) := ((Only.refl [] w).alloc _).alloc _
  have bx := Sx.new w s p
  have by2 : Sx ((w.alloc (.cells #[.int .u32 s.boot, .int .u32 s.next, .slice p.tA s.tree.length p.tc, .slice p.oA s.opens.length p.oc, .slice p.lA s.locks.length p.lc, .slice p.wA s.works.length p.wc, .slice p.sA s.seats.length p.sc] 29)).alloc (.cells #[.int .u32 z.boot, .int .u32 z.next, .slice q.tA z.tree.length q.tc, .slice q.oA z.opens.length q.oc, .slice q.lA z.locks.length q.lc, .slice q.wA z.works.length q.wc, .slice q.sA z.seats.length q.sc] 29)) (w.heap.size + 1) z q := by
    have := Sx.new (w.alloc (.cells #[.int .u32 s.boot, .int .u32 s.next, .slice p.tA s.tree.length p.tc, .slice p.oA s.opens.length p.oc, .slice p.lA s.locks.length p.lc, .slice p.wA s.works.length p.wc, .slice p.sA s.seats.length p.sc] 29)) z q
    rwa [show (w.alloc (.cells #[.int .u32 s.boot, .int .u32 s.next, .slice p.tA s.tree.length p.tc, .slice p.oA s.opens.length p.oc, .slice p.lA s.locks.length p.lc, .slice p.wA s.works.length p.wc, .slice p.sA s.seats.length p.sc] 29)).heap.size = w.heap.size + 1 by simp] at this
  have hR1 := fun W (kW : Only [] w W) => rows_state W s p (h.kept kW)
  have hR2 := fun W (kW : Only [] w W) => rows_state W z q (h2.kept kW)
  have hf1 := fun (hr : RightS s) => rows_few hr
  have hf2 := fun (hr : RightS z) => rows_few hr
  have hnone : ∀ w', ¬ (RightS s ∧ RightS z) → Only [] w w' → ChgAns s z w w' (.returned (.tuple #[.slice none 0 0, .int .i64 1])) := fun w' hr k => .inr ⟨hr, rfl, k⟩
  have hyes : ∀ wb w' v, Only [] w wb → RightS s → RightS z → Mine chE 3 48 wb w' v (mergeL (rowsL s) (rowsL z)) → ChgAns s z w w' (.returned (.tuple #[v, .int .i64 0])) := fun wb w' v k r1 r2 m => .inl ⟨⟨r1, r2⟩, v, rfl, Mine.from k m⟩
  generalize ChgAns s z w = CA at *
  unfold RowsAns at hR1 hR2
  generalize RightS s = R1 at *
  generalize RightS z = R2 at *
  generalize rowsL s = bs at *
  generalize rowsL z = ns at *
  have KB1 := fun W (kW : Only [] ((w.alloc (.cells #[.int .u32 s.boot, .int .u32 s.next, .slice p.tA s.tree.length p.tc, .slice p.oA s.opens.length p.oc, .slice p.lA s.locks.length p.lc, .slice p.wA s.works.length p.wc, .slice p.sA s.seats.length p.sc] 29)).alloc (.cells #[.int .u32 z.boot, .int .u32 z.next, .slice q.tA z.tree.length q.tc, .slice q.oA z.opens.length q.oc, .slice q.lA z.locks.length q.lc, .slice q.wA z.works.length q.wc, .slice q.sA z.seats.length q.sc] 29)) W) => bx.at (S := []) (w' := W) (((Only.refl [] _).alloc _).trans kW) (by simp)
  have KB2 := fun W (kW : Only [] ((w.alloc (.cells #[.int .u32 s.boot, .int .u32 s.next, .slice p.tA s.tree.length p.tc, .slice p.oA s.opens.length p.oc, .slice p.lA s.locks.length p.lc, .slice p.wA s.works.length p.wc, .slice p.sA s.seats.length p.sc] 29)).alloc (.cells #[.int .u32 z.boot, .int .u32 z.next, .slice q.tA z.tree.length q.tc, .slice q.oA z.opens.length q.oc, .slice q.lA z.locks.length q.lc, .slice q.wA z.works.length q.wc, .slice q.sA z.seats.length q.sc] 29)) W) => by2.at (S := []) (w' := W) kW (by simp)
  clear bx by2 h h2
  replace KB1 := Lib.hid KB1
  replace KB2 := Lib.hid KB2
  replace hR1 := Lib.hid hR1
  replace hR2 := Lib.hid hR2
  replace hnone := Lib.hid hnone
  replace hyes := Lib.hid hyes
  replace hf1 := Lib.hid hf1
  replace hf2 := Lib.hid hf2
  unfold staV at hR1 hR2 ⊢
  obtain ⟨c0, c1, c2, c3, c4, c5, c6⟩ := KB1.out _ (Only.refl _ _)
  go_enter Tryz.func11, Tryz.ntmps11
  go_wp2_with fail
  refine (hR1.out _ k0).mono ?_; rintro e w1 hs
  clear c0 c1 c2 c3 c4 c5 c6
  rcases hs with ⟨r1, v1, rfl, m1⟩ | ⟨hr, rfl, k1⟩
  rotate_left
  · have hfin := Lib.hid (hnone.out _ (fun r => hr r.1) (k0.trans k1))
    go_wp2
    exact hfin.out
  obtain ⟨d0, d1, d2, d3, d4, d5, d6⟩ := KB2.out _ m1.only
  have k1 := k0.trans m1.only
  replace m1 := Lib.hid m1
  go_wp2_with fail
  refine (hR2.out _ k1).mono ?_; rintro e w2 hs
  clear d0 d1 d2 d3 d4 d5 d6
  rcases hs with ⟨r2, v2, rfl, m2⟩ | ⟨hr, rfl, k2⟩
  rotate_left
  · have hfin := Lib.hid (hnone.out _ (fun r => hr r.2) (k1.trans k2))
    go_wp2
    exact hfin.out
  have kb := k1.trans m2.only
  have hyes2 := fun w' v m => hyes.out w2 w' v kb r1 r2 m
  have b1 := hf1.out r1
  have b2 := hf2.out r2
  obtain ⟨A1, c1, rfl, hc1, e1, _, _⟩ := (m1.out.keep m2.only).els chE_length
  obtain ⟨A2, c2, rfl, hc2, e2, _, _⟩ := m2.els chE_length
  have hML := mergeL_len _ bs ns (Nat.le_refl _)
  have hE : Hid ([] ++ mergeL bs ns = mergeL bs ns) := rfl
  obtain ⟨M, hMM⟩ : ∃ M, mergeL bs ns = M := ⟨_, rfl⟩
  rw [hMM] at hyes2 hML
  have hE : Hid ([] ++ mergeL bs ns = M) := hMM
  replace hyes2 := Lib.hid hyes2
  clear hMM
  have hM3 : M.length ≤ 320 := by omega
  clear hf1 hf2 KB1 KB2 hR1 hR2 hnone hyes m1 m2 k0 k1 kb r1 r2 hML

  go_upto_block 0 with fail
  go_cut [6, 8, 9] (fun s6 s8 s9 wx => ∃ (A1 : Option Addr) (c1 : Nat) (l1 : List Ch) (A2 : Option Addr) (c2 : Nat) (l2 out : List Ch), s6 = .slice A1 l1.length c1 ∧ l1.length ≤ c1 ∧ s8 = .slice A2 l2.length c2 ∧ l2.length ≤ c2 ∧ Els chE 3 w2 A1 l1 ∧ Els chE 3 w2 A2 l2 ∧ Mine chE 3 48 w2 wx s9 out ∧ Hid (out ++ mergeL l1 l2 = M) ∧ Hid (l1 = [] ∨ l2 = []))
  case first =>
    go_wp2_with fail
    go_loopg [6, 8, 9] (bs.length + ns.length) (fun gh s6 s8 s9 wx => ∃ (A1 : Option Addr) (c1 : Nat) (l1 : List Ch) (A2 : Option Addr) (c2 : Nat) (l2 out : List Ch), gh = l1.length + l2.length ∧ s6 = .slice A1 l1.length c1 ∧ l1.length ≤ c1 ∧ s8 = .slice A2 l2.length c2 ∧ l2.length ≤ c2 ∧ Els chE 3 w2 A1 l1 ∧ Els chE 3 w2 A2 l2 ∧ Mine chE 3 48 w2 wx s9 out ∧ Hid (out ++ mergeL l1 l2 = M))
    case atStart => exact ⟨A1, c1, bs, A2, c2, ns, [], rfl, rfl, hc1, rfl, hc2, e1, e2, Mine.start _ _ _ (Only.refl _ _), hE⟩
    case round =>
      clear hE e1 e2 hc1 hc2 b1 b2
      obtain ⟨A1, c1, l1, A2, c2, l2, out, hg, rfl, hc1, rfl, hc2, e1, e2, hm, hE⟩ := hrel
      by_cases z1 : l1 = []
      · subst z1
        go_wp2_with fail
        go_meet
        exact ⟨A1, c1, [], A2, c2, l2, out, rfl, hc1, rfl, hc2, e1, e2, hm, hE, .inl rfl⟩
      have p1 : 0 < l1.length := List.length_pos_iff.2 z1
      by_cases z2 : l2 = []
      · subst z2
        go_wp2_with fail
        go_meet
        exact ⟨A1, c1, l1, A2, c2, [], out, rfl, hc1, rfl, hc2, e1, e2, hm, hE, .inr rfl⟩
      have p2 : 0 < l2.length := List.length_pos_iff.2 z2
      obtain ⟨x, l, rfl⟩ : ∃ x l, l1 = x :: l := List.exists_cons_of_ne_nil z1
      obtain ⟨y, m, rfl⟩ : ∃ x l, l2 = x :: l := List.exists_cons_of_ne_nil z2
      obtain ⟨x0, x1, x2⟩ := x
      obtain ⟨y0, y1, y2⟩ := y
      have hM4 : Hid (out.length ≤ 320) := by
        have := hE.out
        unfold Hid
        rw [← this] at hM3
        simp only [List.length_append] at hM3
        omega
      have v1 := Lib.hid ((e1.tail hc1 p1 : Els chE 3 w2 (tailA A1 c1 1 3) l))
      have v2 := Lib.hid ((e2.tail hc2 p2 : Els chE 3 w2 (tailA A2 c2 1 3) m))
      obtain ⟨g1, o1, rfl, _, t1⟩ := e1.get (i := 0) (by simp)
      obtain ⟨g2, o2, rfl, _, t2⟩ := e2.get (i := 0) (by simp)
      have KQ : Hid (∀ W, Only [] wr W → W.rangeAt g1 o1 (chE ⟨x0, x1, x2⟩) ∧ W.rangeAt g2 o2 (chE ⟨y0, y1, y2⟩)) := fun W kW => by
        have u1 := ElsAt.range (t1.kept (hm.only.trans kW) (by simp)) (i := 0) (by simp)
        have u2 := ElsAt.range (t2.kept (hm.only.trans kW) (by simp)) (i := 0) (by simp)
        simp only [Nat.zero_mul, Nat.add_zero, List.getElem_cons_zero] at u1 u2
        exact ⟨u1, u2⟩
      clear t1 t2 z1 z2
      have hc1b : Hid (l.length ≤ c1 - 1) := by unfold Hid; simp only [List.length_cons] at hc1; omega
      have hc2b : Hid (m.length ≤ c2 - 1) := by unfold Hid; simp only [List.length_cons] at hc2; omega
      have hs1 : ∀ W : World, (Instr.slice 32 (.slice (some ⟨g1, o1, none⟩) (Ch.mk x0 x1 x2 :: l).length c1) (some (.int .i64 1)) none none).run Tryz.prog W = .ok (.slice (tailA (some ⟨g1, o1, none⟩) c1 1 3) l.length (c1 - 1)) W := fun W => run_tail 32 48 Tryz.underlying32 size_ch' (some ⟨g1, o1, none⟩) (Ch.mk x0 x1 x2 :: l).length c1 1 1 rfl p1 W
      have hs2 : ∀ W : World, (Instr.slice 32 (.slice (some ⟨g2, o2, none⟩) (Ch.mk y0 y1 y2 :: m).length c2) (some (.int .i64 1)) none none).run Tryz.prog W = .ok (.slice (tailA (some ⟨g2, o2, none⟩) c2 1 3) m.length (c2 - 1)) W := fun W => run_tail 32 48 Tryz.underlying32 size_ch' (some ⟨g2, o2, none⟩) (Ch.mk y0 y1 y2 :: m).length c2 1 1 rfl p2 W
      have hn1 : Hid ((Ch.mk x0 x1 x2 :: l).length = l.length + 1) := rfl
      have hn2 : Hid ((Ch.mk y0 y1 y2 :: m).length = m.length + 1) := rfl
      generalize (Ch.mk x0 x1 x2 :: l).length = nx at *
      generalize (Ch.mk y0 y1 y2 :: m).length = ny at *
      generalize htA1 : tailA (some ⟨g1, o1, none⟩) c1 1 3 = B1 at *
      generalize htA2 : tailA (some ⟨g2, o2, none⟩) c2 1 3 = B2 at *
      replace htA1 := Lib.hid htA1
      replace htA2 := Lib.hid htA2
      replace e1 := Lib.hid e1
      replace e2 := Lib.hid e2
      replace hs1 := Lib.hid hs1
      replace hs2 := Lib.hid hs2
      replace hg := Lib.hid hg
      go_upto_region 9 with fail
      go_cut [10, 11] from 30 to 76 (fun s10 s11 wx => ∃ (g h : Nat), s10 = .pointer (some ⟨g, 0, none⟩) ∧ s11 = .pointer (some ⟨h, 0, none⟩) ∧ Blk wx g 48 (chA ⟨x0, x1, x2⟩) ∧ Blk wx h 48 (chA ⟨y0, y1, y2⟩) ∧ Only [] wr wx)
      case first =>
        have n0 : Hid (Blk ((wr.drew.alloc (.cells #[.string ⟨#[]⟩, .string ⟨#[]⟩, .bool false] 48)).alloc (.cells #[.string ⟨#[]⟩, .string ⟨#[]⟩, .bool false] 48)) wr.heap.size 48 (chA noCh)) := Lib.hid ((Blk.new wr.drew 48 (chA noCh)).kept ((Only.refl [] _).alloc _) (by simp))
        have n1 : Hid (Blk ((wr.drew.alloc (.cells #[.string ⟨#[]⟩, .string ⟨#[]⟩, .bool false] 48)).alloc (.cells #[.string ⟨#[]⟩, .string ⟨#[]⟩, .bool false] 48)) (wr.heap.size + 1) 48 (chA noCh)) := by
          have := Blk.new (wr.drew.alloc (.cells #[.string ⟨#[]⟩, .string ⟨#[]⟩, .bool false] 48)) 48 (chA noCh)
          rw [show (wr.drew.alloc (.cells #[.string ⟨#[]⟩, .string ⟨#[]⟩, .bool false] 48)).heap.size = wr.heap.size + 1 by simp] at this
          exact this
        refine wp_region_held_drew (S := fun w' => w'.rangeAt g1 o1 (chE ⟨x0, x1, x2⟩) ∧ w'.rangeAt g2 o2 (chE ⟨y0, y1, y2⟩)) (by kernel_rfl) (KQ.out _ (Only.refl [] wr).drew) (fun hHeld => ?_)
        refine held_take 0 (.slice (some ⟨g1, o1, none⟩) nx c1) rfl (by kernel_rfl) (by kernel_rfl) (by kernel_rfl) (fun _ _ _ h => h) hHeld (Or.inl ⟨by rfl, fun w' hSw => by (try dsimp only at hSw); (try subst hSw); go_simp⟩) ?_
        simp only [Act.put, List.setIfInBounds_toArray, List.set_cons_zero, List.set_cons_succ]
        refine held_take 1 (.pointer (some ⟨g1, o1, none⟩)) rfl (by kernel_rfl) (by kernel_rfl) (by kernel_rfl) (fun _ _ _ h => h) hHeld (Or.inl ⟨by rfl, fun w' hSw => by (try dsimp only at hSw); (try subst hSw); go_simp⟩) ?_
        simp only [Act.put, List.setIfInBounds_toArray, List.set_cons_zero, List.set_cons_succ]
        refine held_take 2 (chV ⟨x0, x1, x2⟩) rfl (by kernel_rfl) (by kernel_rfl) (by kernel_rfl) (fun _ _ _ h => h) hHeld (Or.inl ⟨by rfl, fun w' hSw => ev_load 48 _ rfl g1 o1 rfl (chE ⟨x0, x1, x2⟩) _ hSw.1 Tryz.underlying48 rfl size_ch⟩) ?_
        simp only [Act.put, List.setIfInBounds_toArray, List.set_cons_zero, List.set_cons_succ]
        refine held_take 3 (.slice (some ⟨g2, o2, none⟩) ny c2) rfl (by kernel_rfl) (by kernel_rfl) (by kernel_rfl) (fun _ _ _ h => h) hHeld (Or.inl ⟨by rfl, fun w' hSw => by (try dsimp only at hSw); (try subst hSw); go_simp⟩) ?_
        simp only [Act.put, List.setIfInBounds_toArray, List.set_cons_zero, List.set_cons_succ]
        refine held_take 4 (.pointer (some ⟨g2, o2, none⟩)) rfl (by kernel_rfl) (by kernel_rfl) (by kernel_rfl) (fun _ _ _ h => h) hHeld (Or.inl ⟨by rfl, fun w' hSw => by (try dsimp only at hSw); (try subst hSw); go_simp⟩) ?_
        simp only [Act.put, List.setIfInBounds_toArray, List.set_cons_zero, List.set_cons_succ]
        refine held_take 5 (chV ⟨y0, y1, y2⟩) rfl (by kernel_rfl) (by kernel_rfl) (by kernel_rfl) (fun _ _ _ h => h) hHeld (Or.inl ⟨by rfl, fun w' hSw => ev_load 48 _ rfl g2 o2 rfl (chE ⟨y0, y1, y2⟩) _ hSw.2 Tryz.underlying48 rfl size_ch⟩) ?_
        simp only [Act.put, List.setIfInBounds_toArray, List.set_cons_zero, List.set_cons_succ]
        refine held_step2 6 7 rfl rfl (by kernel_rfl) (fun K hK => ?_) (fun K hK => ?_)
        · go_simp
          go_wp2_with fail
          refine hK.out _ _ (KQ.out _ ((Only.refl [] wr).drew.alloc _)) (fun hHeld => ?_)
          clear hK K
          refine held_step 7 rfl (by kernel_rfl) (fun K hK => ?_)
          go_simp
          go_wp2_with fail
          refine hK.out _ _ (KQ.out _ (((Only.refl [] wr).drew.alloc _).alloc _)) (fun hHeld => ?_)
          clear hK K
          refine held_step 8 rfl (by kernel_rfl) (fun K hK => ?_)
          rw [if_pos (by rfl)]
          refine wp_store_blk 48 _ _ rfl wr.heap.size (chA noCh) (chA ⟨x0, x1, x2⟩) rfl rfl n0.out size_ch rfl (by simp [Value.oneCell', chA]) ?_
          intro wa ba ka
          have kwa : Only [] wr wa := ((((Only.refl [] wr).drew.alloc _).alloc _)).beyond ka (Nat.le_refl _)
          refine hK.out _ _ (KQ.out _ kwa) (fun hHeld => ?_)
          clear hK K
          refine held_step 9 rfl (by kernel_rfl) (fun K hK => ?_)
          rw [if_pos (by rfl)]
          refine wp_store_blk 48 _ _ rfl (wr.heap.size + 1) (chA noCh) (chA ⟨y0, y1, y2⟩) rfl rfl (n1.out.kept ka (by simp)) size_ch rfl (by simp [Value.oneCell', chA]) ?_
          intro wb bb kb
          have kwb : Only [] wr wb := kwa.beyond kb (Nat.le_succ _)
          refine hK.out _ _ (KQ.out _ kwb) (fun hHeld => ?_)
          clear hK K
          refine wpAnyH_done (by kernel_rfl) ?_ _
          clear hHeld
          go_wp2_with fail
          go_meet
          exact ⟨wr.heap.size, (wr.heap.size + 1), rfl, rfl, ba.kept kb (by simp), bb, kwb⟩
        · go_simp
          go_wp2_with fail
          refine hK.out _ _ (KQ.out _ ((Only.refl [] wr).drew.alloc _)) (fun hHeld => ?_)
          clear hK K
          refine held_step 6 rfl (by kernel_rfl) (fun K hK => ?_)
          go_simp
          go_wp2_with fail
          refine hK.out _ _ (KQ.out _ (((Only.refl [] wr).drew.alloc _).alloc _)) (fun hHeld => ?_)
          clear hK K
          refine held_step 8 rfl (by kernel_rfl) (fun K hK => ?_)
          rw [if_pos (by rfl)]
          refine wp_store_blk 48 _ _ rfl (wr.heap.size + 1) (chA noCh) (chA ⟨x0, x1, x2⟩) rfl rfl n1.out size_ch rfl (by simp [Value.oneCell', chA]) ?_
          intro wa ba ka
          have kwa : Only [] wr wa := ((((Only.refl [] wr).drew.alloc _).alloc _)).beyond ka (Nat.le_succ _)
          refine hK.out _ _ (KQ.out _ kwa) (fun hHeld => ?_)
          clear hK K
          refine held_step 9 rfl (by kernel_rfl) (fun K hK => ?_)
          rw [if_pos (by rfl)]
          refine wp_store_blk 48 _ _ rfl wr.heap.size (chA noCh) (chA ⟨y0, y1, y2⟩) rfl rfl (n0.out.kept ka (by simp)) size_ch rfl (by simp [Value.oneCell', chA]) ?_
          intro wb bb kb
          have kwb : Only [] wr wb := kwa.beyond kb (Nat.le_refl _)
          refine hK.out _ _ (KQ.out _ kwb) (fun hHeld => ?_)
          clear hK K
          refine wpAnyH_done (by kernel_rfl) ?_ _
          clear hHeld
          go_wp2_with fail
          go_meet
          exact ⟨(wr.heap.size + 1), wr.heap.size, rfl, rfl, ba.kept kb (by simp), bb, kwb⟩
      case rest =>
        obtain ⟨g, h, rfl, rfl, bg, bh, kx⟩ := hcut
        have f0 : wc.cell? ⟨g, 0, none⟩ = some (.string (strOf x0)) := bg.cell 0
        have f1 : wc.cell? ⟨g, 1, none⟩ = some (.string (strOf x1)) := bg.cell 1
        have f2 : wc.cell? ⟨g, 2, none⟩ = some (.bool x2) := bg.cell 2
        have f3 : wc.cell? ⟨h, 0, none⟩ = some (.string (strOf y0)) := bh.cell 0
        have f4 : wc.cell? ⟨h, 1, none⟩ = some (.string (strOf y1)) := bh.cell 1
        have f5 : wc.cell? ⟨h, 2, none⟩ = some (.bool y2) := bh.cell 2
        have hmx := hm.keep kx
        clear bg bh kx KQ hm p1 p2
        by_cases hlt : Op.bytesLess x0 y0 = true
        · have q1 : Op.bytesLess (strOf x0).toList (strOf y0).toList = true := by rw [list_of, list_of]; exact hlt
          have q2 : Op.bytesLess (strOf y0).toList (strOf x0).toList = false := by rw [list_of, list_of]; exact bl_asymm _ _ hlt
          have q3 : ((strOf y0).toList == (strOf x0).toList) = false := by
            rw [list_of, list_of]
            simp only [beq_eq_false_iff_ne, ne_eq]
            intro e; rw [e, bl_irrefl] at hlt; cases hlt
          have hE2 : Hid ((out ++ [goneR ⟨x0, x1, x2⟩]) ++ mergeL l (⟨y0, y1, y2⟩ :: m) = M) := by
            have := hE.out
            rw [mergeL_lt (by exact hlt)] at this
            unfold Hid
            rw [← this]; simp
          clear hE hlt
          have hsa := hs1.out
          have hgn := fun W => gone_any W ⟨x0, x1, x2⟩
          simp only [chV, goneR] at hgn
          replace hgn := Lib.hid hgn
          go_wp2_with fail
          refine (hgn.out _).mono ?_; rintro e w3 ⟨rfl, k3⟩
          have hmb := hmx.keep k3
          have hmc := hmb.keep ((Only.refl [] _).alloc (.cells #[.string (strOf x0), .string (strOf []), .bool true] 48))
          have b5 : Blk (w3.alloc (.cells #[.string (strOf x0), .string (strOf []), .bool true] 48)) w3.heap.size 48 (chE (goneR ⟨x0, x1, x2⟩)).toArray := Blk.new _ _ _
          replace hmc := Lib.hid hmc
          replace b5 := Lib.hid b5
          clear hmb
          go_wp2_with ((at_builtin; go_must (refine wpList_push rfl _ _ 32 rfl 48 _ 40 chE_length (by decide) chE_one Tryz.underlying32 info_ch rfl _ out.length out rfl hmc.out.own w3.heap.size (goneR ⟨x0, x1, x2⟩) 48 rfl b5.out ?c1 ?c2 ?go)))
          case c1 => unfold maxLen; have := hM4.out; omega
          case c2 => have := hM4.out; omega
          case go =>
          intro vn w6 h6 g6 a6
          have hm6 := hmc.out.pushed h6 g6 (by simpa using a6)
          clear h6 g6 a6 hmc b5
          go_wp2_with fail
          go_roundg (l.length + ny)
          case measure => have := hg.out; have := hn1.out; have := hn2.out; omega
          case rel =>
            have z1 := hn1.out
            have z2 := hn2.out
            refine ⟨B1, c1 - 1, l, (some ⟨g2, o2, none⟩), c2, (⟨y0, y1, y2⟩ :: m), out ++ [goneR ⟨x0, x1, x2⟩], ?_, ?_, ?_, ?_, ?_, v1.out, e2.out, hm6, hE2⟩
            all_goals (try simp only [List.length_cons])
            all_goals (try rw [← z1])
            all_goals (try rw [← z2])
            all_goals first | rfl | exact hc1b.out | exact hc2 | omega
        by_cases heq : x0 = y0
        rotate_left
        · have q1 : Op.bytesLess (strOf x0).toList (strOf y0).toList = false := by rw [list_of, list_of]; exact Bool.eq_false_iff.2 hlt
          have q2 : Op.bytesLess (strOf y0).toList (strOf x0).toList = true := by rw [list_of, list_of]; exact bl_total _ _ heq (Bool.eq_false_iff.2 hlt)
          have q3 : ((strOf x0).toList == (strOf y0).toList) = false := by
            rw [list_of, list_of]
            simp only [beq_eq_false_iff_ne, ne_eq]
            exact heq
          have hne : Hid ((!decide (Ch.mk y0 y1 y2 = Ch.mk x0 x1 x2)) = true) := by
            have : ¬ Ch.mk y0 y1 y2 = Ch.mk x0 x1 x2 := fun e => heq (by injection e with e; exact e.symm)
            unfold Hid
            rw [decide_eq_false this]; rfl
          have hE2 : Hid ((out ++ [⟨y0, y1, y2⟩]) ++ mergeL (⟨x0, x1, x2⟩ :: l) m = M) := by
            have := hE.out
            rw [mergeL_gt (by exact hlt) (by exact heq)] at this
            unfold Hid
            rw [← this]; simp
          clear hE hlt heq
          have hsa := hs2.out
          have hmb := hmx
          have hmc := hmb.keep ((Only.refl [] _).alloc (.cells #[.string (strOf y0), .string (strOf y1), .bool y2] 48))
          have b5 : Blk (wc.alloc (.cells #[.string (strOf y0), .string (strOf y1), .bool y2] 48)) wc.heap.size 48 (chE ⟨y0, y1, y2⟩).toArray := Blk.new _ _ _
          replace hmc := Lib.hid hmc
          replace b5 := Lib.hid b5
          clear hmb
          go_wp2_with (first | refine wpList_neq_ch ⟨y0, y1, y2⟩ ⟨x0, x1, x2⟩ rfl _ _ _ rfl rfl rfl _ hne.out ?_ | (at_builtin; go_must (refine wpList_push rfl _ _ 32 rfl 48 _ 40 chE_length (by decide) chE_one Tryz.underlying32 info_ch rfl _ out.length out rfl hmc.out.own wc.heap.size ⟨y0, y1, y2⟩ 48 rfl b5.out ?c1 ?c2 ?go)))
          case c1 => unfold maxLen; have := hM4.out; omega
          case c2 => have := hM4.out; omega
          case go =>
          intro vn w6 h6 g6 a6
          have hm6 := hmc.out.pushed h6 g6 (by simpa using a6)
          clear h6 g6 a6 hmc b5
          go_wp2_with fail
          go_roundg (nx + m.length)
          case measure => have := hg.out; have := hn1.out; have := hn2.out; omega
          case rel =>
            have z1 := hn1.out
            have z2 := hn2.out
            refine ⟨(some ⟨g1, o1, none⟩), c1, (⟨x0, x1, x2⟩ :: l), B2, c2 - 1, m, out ++ [⟨y0, y1, y2⟩], ?_, ?_, ?_, ?_, ?_, e1.out, v2.out, hm6, hE2⟩
            all_goals (try simp only [List.length_cons])
            all_goals (try rw [← z1])
            all_goals (try rw [← z2])
            all_goals first | rfl | exact hc1 | exact hc2b.out | omega
        by_cases hsm : Ch.mk x0 x1 x2 = Ch.mk y0 y1 y2
        · have hx : x0 = y0 := heq
          have q1 : Op.bytesLess (strOf x0).toList (strOf y0).toList = false := by rw [list_of, list_of, hx]; exact bl_irrefl _
          have q2 : Op.bytesLess (strOf y0).toList (strOf x0).toList = false := by rw [list_of, list_of, hx]; exact bl_irrefl _
          have q3 : ((strOf x0).toList == (strOf y0).toList) = true := by rw [hx]; simp
          have q4 : ((strOf y0).toList == (strOf x0).toList) = true := by rw [hx]; simp
          have hne : Hid ((!decide (Ch.mk y0 y1 y2 = Ch.mk x0 x1 x2)) = false) := by
            unfold Hid
            rw [decide_eq_true hsm.symm]; rfl
          have hE2 : Hid (out ++ mergeL l m = M) := by
            have := hE.out
            rw [hsm, mergeL_same] at this
            exact this
          clear hE hlt heq hsm hx
          have hsa := hs1.out
          have hsb := hs2.out
          go_wp2_with (refine wpList_neq_ch ⟨y0, y1, y2⟩ ⟨x0, x1, x2⟩ rfl _ _ _ rfl rfl rfl _ hne.out ?_)
          go_roundg (l.length + m.length)
          case measure => have := hg.out; have := hn1.out; have := hn2.out; omega
          case rel =>
            have z1 := hn1.out
            have z2 := hn2.out
            refine ⟨B1, c1 - 1, l, B2, c2 - 1, m, out, ?_, ?_, ?_, ?_, ?_, v1.out, v2.out, hmx, hE2⟩
            skip
            all_goals (try rw [← z1])
            all_goals (try rw [← z2])
            all_goals first | rfl | exact hc1b.out | exact hc2b.out | omega
        · have hx : x0 = y0 := heq
          have q1 : Op.bytesLess (strOf x0).toList (strOf y0).toList = false := by rw [list_of, list_of, hx]; exact bl_irrefl _
          have q2 : Op.bytesLess (strOf y0).toList (strOf x0).toList = false := by rw [list_of, list_of, hx]; exact bl_irrefl _
          have q3 : ((strOf x0).toList == (strOf y0).toList) = true := by rw [hx]; simp
          have q4 : ((strOf y0).toList == (strOf x0).toList) = true := by rw [hx]; simp
          have hne : Hid ((!decide (Ch.mk y0 y1 y2 = Ch.mk x0 x1 x2)) = true) := by
            unfold Hid
            rw [decide_eq_false (fun e => hsm e.symm)]; rfl
          have hE2 : Hid ((out ++ [⟨y0, y1, y2⟩]) ++ mergeL l m = M) := by
            have := hE.out
            rw [mergeL_eq (by exact heq) (by exact hsm)] at this
            unfold Hid
            rw [← this]; simp
          clear hE hlt heq hsm hx
          have hsa := hs1.out
          have hsb := hs2.out
          have hmb := hmx
          have hmc := hmb.keep ((Only.refl [] _).alloc (.cells #[.string (strOf y0), .string (strOf y1), .bool y2] 48))
          have b5 : Blk (wc.alloc (.cells #[.string (strOf y0), .string (strOf y1), .bool y2] 48)) wc.heap.size 48 (chE ⟨y0, y1, y2⟩).toArray := Blk.new _ _ _
          replace hmc := Lib.hid hmc
          replace b5 := Lib.hid b5
          clear hmb
          go_wp2_with (first | refine wpList_neq_ch ⟨y0, y1, y2⟩ ⟨x0, x1, x2⟩ rfl _ _ _ rfl rfl rfl _ hne.out ?_ | (at_builtin; go_must (refine wpList_push rfl _ _ 32 rfl 48 _ 40 chE_length (by decide) chE_one Tryz.underlying32 info_ch rfl _ out.length out rfl hmc.out.own wc.heap.size ⟨y0, y1, y2⟩ 48 rfl b5.out ?c1 ?c2 ?go)))
          case c1 => unfold maxLen; have := hM4.out; omega
          case c2 => have := hM4.out; omega
          case go =>
          intro vn w6 h6 g6 a6
          have hm6 := hmc.out.pushed h6 g6 (by simpa using a6)
          clear h6 g6 a6 hmc b5
          go_wp2_with fail
          go_roundg (l.length + m.length)
          case measure => have := hg.out; have := hn1.out; have := hn2.out; omega
          case rel =>
            have z1 := hn1.out
            have z2 := hn2.out
            refine ⟨B1, c1 - 1, l, B2, c2 - 1, m, out ++ [⟨y0, y1, y2⟩], ?_, ?_, ?_, ?_, ?_, v1.out, v2.out, hm6, hE2⟩
            skip
            all_goals (try rw [← z1])
            all_goals (try rw [← z2])
            all_goals first | rfl | exact hc1b.out | exact hc2b.out | omega
  case rest =>
    clear hE e1 e2 hc1 hc2 b1 b2
    obtain ⟨A1, c1, l1, A2, c2, l2, out, rfl, hc1, rfl, hc2, e1, e2, hm0, hE, hz⟩ := hcut
    have hM5 : Hid ((out ++ l1.map goneR) ++ l2 = M) := by
      have := hE.out
      unfold Hid
      rcases hz.out with rfl | rfl
      · simpa [mergeL] using this
      · rw [mergeL_nil] at this
        simpa using this
    have hle : Hid (out.length + l1.length + l2.length ≤ 320) := by
      have := hM5.out
      unfold Hid
      rw [← this] at hM3
      simp only [List.length_append, List.length_map] at hM3
      omega
    have hl1 : l1.length ≤ 320 := by have := hle.out; omega
    clear hE hz hM3
    go_wp2_with fail
    go_loopw [79, 9] (fun i v wr => ∃ n : Nat, n ≤ l1.length ∧ i = .int .i64 n ∧ Mine chE 3 48 w2 wr v (out ++ (l1.take n).map goneR)) (fun i _ _ => l1.length - (intOf i).toNat)
    case atStart => exact ⟨0, Nat.zero_le _, rfl, by simpa using hm0⟩
    case round =>
    clear hm0
    obtain ⟨n, hn, rfl, hm⟩ := hrel
    by_cases hlt : n < l1.length
    · obtain ⟨g, o, rfl, hg, hat⟩ := e1.get hlt
      obtain ⟨f0, f1, f2⟩ := chs_at (hat.kept hm.only (by simp)) hlt
      have hx : l1[n]? = some l1[n] := List.getElem?_eq_getElem hlt
      have htk := map_take (enc := goneR) hx
      generalize l1[n] = x at *
      obtain ⟨x0, x1, x2⟩ := x
      simp only at f0 f1 f2
      replace hx := Lib.hid hx
      replace htk := Lib.hid htk
      have hma := hm.keep ((Only.refl [] _).alloc (.cells #[.string (strOf x0), .string (strOf x1), .bool x2] 48))
      have hgn := fun W => gone_any W ⟨x0, x1, x2⟩
      simp only [chV, goneR] at hgn
      replace hgn := Lib.hid hgn
      replace e1 := Lib.hid e1
      clear hat hm
      go_wp2_with fail
      refine (hgn.out _).mono ?_; rintro e w3 ⟨rfl, k3⟩
      have hmb := hma.keep k3
      clear hma f0 f1 f2 k3
      have hmc := hmb.keep ((Only.refl [] _).alloc (.cells #[.string (strOf x0), .string (strOf []), .bool true] 48))
      have b5 : Blk (w3.alloc (.cells #[.string (strOf x0), .string (strOf []), .bool true] 48)) w3.heap.size 48 (chE (goneR ⟨x0, x1, x2⟩)).toArray := Blk.new _ _ _
      obtain ⟨LL, hLL⟩ : ∃ LL, LL = out ++ (l1.take n).map goneR := ⟨_, rfl⟩
      rw [← hLL] at hmc
      have hll : Hid (LL.length ≤ 320) := by
        unfold Hid
        have := hle.out
        rw [hLL, List.length_append, List.length_map, List.length_take]
        omega
      replace hLL := Lib.hid hLL
      replace hmc := Lib.hid hmc
      replace b5 := Lib.hid b5
      clear hmb
      go_wp2_with (at_builtin; go_must (refine wpList_push rfl _ _ 32 rfl 48 _ 40 chE_length (by decide) chE_one Tryz.underlying32 info_ch rfl _ LL.length LL rfl hmc.out.own w3.heap.size (goneR ⟨x0, x1, x2⟩) 48 rfl b5.out ?c1 ?c2 ?go))
      case c1 => unfold maxLen; have := hll.out; omega
      case c2 => have := hll.out; omega
      case go =>
      intro vn w6 h6 g6 a6
      have hm6 := hmc.out.pushed h6 g6 (by simpa using a6)
      rw [hLL.out, List.append_assoc, ← htk.out] at hm6
      clear h6 g6 a6 hmc b5
      go_wp2
      go_roundw
      case rel => exact ⟨n + 1, by omega, by go_num, hm6⟩
      case measure => simp [intOf]; omega
    rw [List.take_of_length_le (by omega)] at hm
    obtain ⟨LL, hLL⟩ : ∃ LL, LL = out ++ l1.map goneR := ⟨_, rfl⟩
    have hll : Hid (LL.length + l2.length ≤ 320) := by
      unfold Hid
      have := hle.out
      rw [hLL, List.length_append, List.length_map]
      omega
    have hM6 : Hid (LL ++ l2 = M) := by unfold Hid; rw [hLL]; exact hM5.out
    rw [← hLL] at hm
    have e2k := Lib.hid (e2.kept hm.only (by simp))
    replace hLL := Lib.hid hLL
    replace e2 := Lib.hid e2
    replace e1 := Lib.hid e1
    replace hm := Lib.hid hm
    clear hc1 hc2
    go_wp2_with (at_builtin; go_must (refine wpList_append_any chE_length (by decide) chE_one rfl _ _ 32 rfl 48 _ 40 Tryz.underlying32 info_ch rfl _ LL.length LL rfl hm.out.own _ _ l2 rfl e2k.out ?c1 ?c2 ?go))
    case c1 => unfold maxLen; have := hll.out; omega
    case c2 => have := hll.out; omega
    case go =>
    intro vn w6 h6 g6 a6
    have hm6 := grown_app hm.out h6 g6 a6
    rw [hM6.out] at hm6
    have hfin := Lib.hid (hyes2.out w6 vn hm6)
    clear h6 g6 a6 hm6
    go_wp2
    exact hfin.out

end Go.Proofs.YtalkhhjfplahkaaGreat
