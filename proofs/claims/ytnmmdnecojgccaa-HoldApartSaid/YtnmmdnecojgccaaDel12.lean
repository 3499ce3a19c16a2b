/- slices.Delete (of one), slices.Insert (of one) at a row of the call's own. -/
import Derived.Test.YtnmmdnecojgccaaRow12
namespace Go.Proofs.Ytnmmdnecojgccaa
open Go.RowKit

section
variable {P : Program}
theorem wp_copy_run (w : World) {o : Oper} {a : Act} {K : Act → World → Prop} {Q : Exit → Act → World → Prop} (d s : Operand) (t t' : TypeId)
    (ho : o.op = .call { callee := .builtin .copy, args := #[d, s], argTypes := #[t, t'] }) (v u : Value) (hd : a.eval d = v) (hs : a.eval s = u) {v' : Value} {w' : World}
    (hr : (Builtin.copy_ #[t, t'] o.type #[v, u]).run P w = .ok v' w') (h : K (a.put o.dst v') w') : o.wp P a w K Q := by
  unfold Oper.wp execOp
  simp only [ho, resolve, invoke, builtin, Sem.run_bind, Sem.run_pure, Result.andThen_ok, List.map_toArray, List.map_cons, List.map_nil, hd, hs, hr]
  exact h
theorem wpList_copy_run (w : World) {ops : Array Oper} {rest : List Oper} {o : Oper} {a : Act} {Q : Exit → Act → World → Prop} (hgd : o.guard = none) (d s : Operand) (t t' : TypeId)
    (ho : o.op = .call { callee := .builtin .copy, args := #[d, s], argTypes := #[t, t'] }) (v u : Value) (hd : a.eval d = v) (hs : a.eval s = u) {v' : Value} {w' : World}
    (hr : (Builtin.copy_ #[t, t'] o.type #[v, u]).run P w = .ok v' w') (h : wpList P ops Q rest (a.put o.dst v') w') : wpList P ops Q (o :: rest) a w :=
  wpList_plain hgd fun _ hK => wp_copy_run w d s t t' ho v u hd hs hr (hK _ _ h)
end
theorem encs_len (l : List Hol) : (encs holE l).length = l.length * 2 := encs_length holE_length l
theorem wrap_nat (n : Nat) (h : n ≤ 1048576) : IntKind.i64.wrap (n : Int) = (n : Int) := by simp only [IntKind.wrap, IntKind.bits, IntKind.signed]; simp; omega
theorem split_at (l : List Hol) (i : Nat) (hi : i < l.length) : l = l.take i ++ (l[i] :: l.drop (i + 1)) := by
  rw [← List.drop_eq_getElem_cons hi, List.take_append_drop]

set_option maxRecDepth 100000 in
set_option maxHeartbeats 4000000 in
theorem delete_any (S : List Nat) (w W : World) (v : Value) (l : List Hol) (i : Nat) (hm : Hs S w W v l) (hi : i < l.length) (hl : l.length ≤ 1000) :
    Calls Try.prog 36 #[v, .int .i64 i, .int .i64 ((i : Int) + 1)] W fun e w' => HsAns S w w' e (l.take i ++ l.drop (i + 1)) := by
  obtain ⟨g, c, cur, T, rfl, hg, hb, hc, hcm, hs, ht, hat⟩ := hm.row (fun h => by rw [h] at hi; simp at hi)
  have honly := hm.only
  have hel : Els holE 2 W (some ⟨g, 0, none⟩) l := .inr ⟨g, 0, rfl, hb.lt, hat⟩
  have e1 : (encs holE (l.take i)).length = i * 2 := by rw [encs_len, List.length_take]; congr 1; omega
  have e2 : (encs holE (l.drop (i + 1))).length = (l.length - (i + 1)) * 2 := by rw [encs_len, List.length_drop]
  have hx : cur.toList = encs holE (l.take i) ++ (holE l[i] ++ (encs holE (l.drop (i + 1)) ++ T)) := by
    have e := congrArg (encs holE) (split_at l i hi)
    rw [encs_append] at e
    rw [ht, e]
    simp only [encs, List.map_cons, List.flatten_cons, List.append_assoc]
  -- the two slices
  have hrH := run_head (P := Try.prog) 23 47 Try.underlying23 size_hol' (some ⟨g, 0, none⟩) l.length c i (i : Int) rfl (by omega)
  have hrT := run_tail (P := Try.prog) 23 47 Try.underlying23 size_hol' (some ⟨g, 0, none⟩) l.length c (i + 1) ((i : Int) + 1) (by omega) (by omega)
  have hH : tailA (some ⟨g, 0, none⟩) c 0 2 = some ⟨g, 0, none⟩ := by
    unfold tailA
    split
    · rfl
    · simp [addr_add]
  rw [hH] at hrH
  have hta := tailA_block (A := some ⟨g, 0, none⟩) (c := c) (m := i + 1) (k := 2)
  have htl := hel.tail (c := c) (m := i + 1) hc (by omega)
  obtain ⟨b, hb2, hsrc⟩ : ∃ b, tailA (some ⟨g, 0, none⟩) c (i + 1) 2 = some b ∧ ∀ j u, (encs holE (l.drop (i + 1)))[j]? = some u → W.cell? (b.add j) = some u := by
    rcases htl with h0 | ⟨g', o', h1, h2, h3⟩
    · refine ⟨if c = i + 1 then ⟨g, 0, none⟩ else (⟨g, 0, none⟩ : Addr).add ((i + 1) * 2), by unfold tailA; split <;> rfl, fun j u hu => ?_⟩
      rw [h0] at hu
      simp [encs] at hu
    · exact ⟨_, h1, els_news holE_length (by decide) h3⟩
  rw [hb2] at hrT
  obtain ⟨m, hmm⟩ : ∃ m, m = l.length - (i + 1) := ⟨_, rfl⟩
  rw [← hmm] at hrT e2
  have hfit1 : i * 2 + (encs holE (l.drop (i + 1))).length ≤ cur.size := by rw [e2, hs, ← Nat.add_mul]; exact Nat.mul_le_mul_right _ (by omega)
  have hsrcd : ∀ j u, (encs holE (l.drop (i + 1)))[j]? = some u → W.drew.cell? (b.add j) = some u := hsrc
  have happ := fun ty => run_append_ops W.drew ty g i c b m (c - (i + 1)) cur (encs holE (l.drop (i + 1))) (hb.kept (Only.refl [] _).drew (by simp)) e2 hsrcd (by omega) hfit1 (encs_one holE_one _)
  obtain ⟨W1, hW1⟩ : ∃ W1, W1 = W.drew.setRow g (ins cur (i * 2) (encs holE (l.drop (i + 1)))) := ⟨_, rfl⟩
  have hb1 : Blk W1 g 47 (ins cur (i * 2) (encs holE (l.drop (i + 1)))) := by rw [hW1]; exact Blk.ins (hb.kept (Only.refl [] _).drew (by simp)) _ _
  have ho1 : Only S w W1 := by rw [hW1]; exact (honly.drew).own (Only.row _ _ _) hg
  have hs1 : (ins cur (i * 2) (encs holE (l.drop (i + 1)))).size = cur.size := ins_size hfit1
  obtain ⟨T', hT'⟩ := ins_next (E1 := encs holE (l.take i)) (X := encs holE (l.drop (i + 1))) (E2 := zeroE) hx
  rw [e1, e2] at hT'
  rw [← hW1] at happ
  generalize hc1 : ins cur (i * 2) (encs holE (l.drop (i + 1))) = cur1 at *
  have him : i + m = l.length - 1 := by omega
  have hfit2 : (i + m) * 2 + 2 ≤ cur1.size := by rw [hs1, hs]; omega
  have hcl := fun ty cc => run_clear_op W1 ty g ((i + m) * 2) cc cur1 hb1 hfit2
  have hlen2 : (l.take i ++ l.drop (i + 1)).length = i + m := by simp; omega
  have hfin : Hs S w (W1.setRow g (ins cur1 ((i + m) * 2) zeroE)) (.slice (some ⟨g, 0, none⟩) (i + m) c) (l.take i ++ l.drop (i + 1)) := by
    have q := Hs.of_row (l := l.take i ++ l.drop (i + 1)) (T := zeroE ++ T') hg (hb1.ins ((i + m) * 2) zeroE) (by omega) hcm ((ins_size hfit2).trans (hs1.trans hs)) (by rw [encs_append, Nat.add_mul, hT']; simp) (ho1.own (Only.row _ _ _) hg)
    rwa [hlen2] at q
  have hsl3 : ∀ W, (Instr.slice 23 (.slice (some ⟨g, 0, none⟩) (i + m) c) (some (.int .i64 ((i : Int) + (m : Int)))) (some (.int .i64 (l.length : Int))) none).run Try.prog W = .ok (.slice (some ⟨g, (i + m) * 2, none⟩) 1 (c - (i + m))) W := fun W => by
    have ht' : Try.prog.underlying 23 = some (.slice (Try.prog.elem 23)) := by simp [Program.elem, Try.underlying23]
    have he : Try.prog.elem 23 = 47 := by simp [Program.elem, Try.underlying23]
    rw [run_slice_lh W _ _ _ _ ht' .i64 .i64 _ _ (by omega) (by omega) (by omega), he, size_hol']
    have h1 : ((i : Int) + (m : Int)).toNat = i + m := by omega
    simp [Result.andThen, sliced, h1, addr_add]
    exact ⟨fun h => by omega, by omega⟩
  have hchk : ∀ W, (Instr.slice 23 (.slice (some ⟨g, 0, none⟩) l.length c) (some (.int .i64 (i : Int))) (some (.int .i64 ((i : Int) + 1))) (some (.int .i64 (l.length : Int)))).run Try.prog W = .ok (sliced (some ⟨g, 0, none⟩) i (i + 1) l.length 2) W := fun W => by
    have ht' : Try.prog.underlying 23 = some (.slice (Try.prog.elem 23)) := by simp [Program.elem, Try.underlying23]
    have he : Try.prog.elem 23 = 47 := by simp [Program.elem, Try.underlying23]
    rw [run_slice_lhm W _ _ _ _ ht' .i64 .i64 .i64 _ _ _ (by omega) (by omega) (by omega) (by omega), he, size_hol']
    have h1 : ((i : Int) + 1).toNat = i + 1 := by omega
    simp [Result.andThen, h1]
  have hclr : ∀ ty, (Builtin.clear_ #[23] ty #[.slice (some ⟨g, (i + m) * 2, none⟩) 1 (c - (i + m))]).run Try.prog W1 = .ok (.tuple #[]) (W1.setRow g (ins cur1 ((i + m) * 2) zeroE)) := fun ty => hcl ty _
  obtain ⟨sv, hsv⟩ : ∃ sv, sv = sliced (some ⟨g, 0, none⟩) i (i + 1) l.length 2 := ⟨_, rfl⟩
  rw [← hsv] at hchk
  have hne : ((i : Int) == (i : Int) + 1) = false := by rw [beq_eq_false_iff_ne]; omega
  have hne2 : ¬ (i : Int) = (i : Int) + 1 := by omega
  obtain ⟨n, hn⟩ : ∃ n, n = l.length := ⟨_, rfl⟩
  rw [← hn] at hrH hrT hsl3 hchk ⊢
  have q1 : ¬ c < i := by omega
  have q2 : (i : Int) ≤ (c : Int) := by omega
  have q3 : (i : Int) + 1 ≤ (n : Int) := by omega
  have q4 : ¬ n < i + 1 := by omega
  have q5 : i ≤ c := by omega
  have q6 : i + 1 ≤ n := by omega
  have q7 : (0 : Int) ≤ (i : Int) + 1 := by omega
  replace hn := Lib.hid hn
  replace hmm := Lib.hid hmm
  replace him := Lib.hid him
  replace hfin := Lib.hid hfin
  replace happ := Lib.hid happ
  replace hclr := Lib.hid hclr
  clear hT' hx ht hs e1 e2 hel hat hm honly htl hta hb2 hsrc hsrcd hfit1 hfit2 hs1 hc1 hb1 ho1 hcl hlen2 hb hH hsv hW1
  go_enter Try.func36, Try.ntmps36
  go_wp2_with fail
  refine wp_region_held_drew (S := fun w' => True) (by kernel_rfl) trivial (fun hHeld => ?_)
  refine held_take 0 (.slice (some ⟨g, 0, none⟩) n c) rfl (by kernel_rfl) (by kernel_rfl) (by kernel_rfl) (fun _ _ _ h => h) hHeld (Or.inl ⟨by rfl, fun w' hSw => by (try dsimp only at hSw); (try subst hSw); go_simp⟩) ?_
  simp only [Act.put, List.setIfInBounds_toArray, List.set_cons_zero, List.set_cons_succ]
  refine held_take 1 (.int .i64 i) rfl (by kernel_rfl) (by kernel_rfl) (by kernel_rfl) (fun _ _ _ h => h) hHeld (Or.inl ⟨by rfl, fun w' hSw => by (try dsimp only at hSw); (try subst hSw); go_simp⟩) ?_
  simp only [Act.put, List.setIfInBounds_toArray, List.set_cons_zero, List.set_cons_succ]
  refine held_take 2 (.slice (some ⟨g, 0, none⟩) i c) rfl (by kernel_rfl) (by kernel_rfl) (by kernel_rfl) (fun _ _ _ h => h) hHeld (Or.inl ⟨by rfl, fun w' hSw => by (try dsimp only at hSw); (try subst hSw); go_simp⟩) ?_
  simp only [Act.put, List.setIfInBounds_toArray, List.set_cons_zero, List.set_cons_succ]
  refine held_take 3 (.slice (some ⟨g, 0, none⟩) n c) rfl (by kernel_rfl) (by kernel_rfl) (by kernel_rfl) (fun _ _ _ h => h) hHeld (Or.inl ⟨by rfl, fun w' hSw => by (try dsimp only at hSw); (try subst hSw); go_simp⟩) ?_
  simp only [Act.put, List.setIfInBounds_toArray, List.set_cons_zero, List.set_cons_succ]
  refine held_take 4 (.int .i64 ((i : Int) + 1)) rfl (by kernel_rfl) (by kernel_rfl) (by kernel_rfl) (fun _ _ _ h => h) hHeld (Or.inl ⟨by rfl, fun w' hSw => by (try dsimp only at hSw); (try subst hSw); go_simp⟩) ?_
  simp only [Act.put, List.setIfInBounds_toArray, List.set_cons_zero, List.set_cons_succ]
  refine held_take 5 (.slice (some b) m (c - (i + 1))) rfl (by kernel_rfl) (by kernel_rfl) (by kernel_rfl) (fun _ _ _ h => h) hHeld (Or.inl ⟨by rfl, fun w' hSw => by (try dsimp only at hSw); (try subst hSw); go_simp⟩) ?_
  simp only [Act.put, List.setIfInBounds_toArray, List.set_cons_zero, List.set_cons_succ]
  refine held_step 6 rfl (by kernel_rfl) (fun K hK => ?_)
  rw [if_pos (by rfl)]
  refine Lib.wp_append_run _ _ _ 23 23 rfl (.slice (some ⟨g, 0, none⟩) i c) (.slice (some b) m (c - (i + 1))) rfl rfl _ _ (happ.out _) ?_
  refine hK.out _ _ trivial (fun hHeld => ?_)
  clear hK K
  simp only [Act.put]
  refine held_take 7 (.slice (some ⟨g, 0, none⟩) (i + m) c) rfl (by kernel_rfl) (by kernel_rfl) (by kernel_rfl) (fun _ _ _ h => h) hHeld (Or.inl ⟨by rfl, fun w' hSw => by (try dsimp only at hSw); (try subst hSw); go_simp⟩) ?_
  simp only [Act.put, List.setIfInBounds_toArray, List.set_cons_zero, List.set_cons_succ]
  refine wpAnyH_done (by kernel_rfl) ?_ _
  clear hHeld
  have hclr0 := hclr.out 0
  go_wp2
  go_ret
  exact ⟨_, rfl, hfin.out⟩
end Go.Proofs.Ytnmmdnecojgccaa
