/- What a lock's row means. -/
import Derived.Test.YtalkhhjfplahkaaGreatKMe14
import Derived.Deep.CutBlock
import Derived.Deep.DeepCutAuto
namespace Go.Proofs.YtalkhhjfplahkaaGreat
open Go.RowKit
set_option linter.unusedVariables false

theorem pairs_snoc : ∀ (n : Nat) (l : List Nat) (x y : Nat), l[2 * n]? = some x → l[2 * n + 1]? = some y → pairsH (l.take (2 * (n + 1))) = pairsH (l.take (2 * n)) ++ [⟨(x : Int), (y : Int)⟩]
  | 0, [], _, _, h, _ => by simp at h
  | 0, [_], _, _, _, h => by simp at h
  | 0, a :: b :: r, x, y, h1, h2 => by simp at h1 h2; subst h1 h2; rfl
  | n + 1, [], _, _, h, _ => by simp at h
  | n + 1, [_], _, _, h, _ => by simp at h
  | n + 1, a :: b :: r, x, y, h1, h2 => by
    have e1 : (2 * (n + 1)) = 2 * n + 1 + 1 := by omega
    have e2 : (2 * (n + 1 + 1)) = 2 * (n + 1) + 1 + 1 := by omega
    rw [e1] at h1 h2
    rw [e2, e1]
    simp only [List.getElem?_cons_succ] at h1 h2
    rw [List.take_succ_cons, List.take_succ_cons, List.take_succ_cons, List.take_succ_cons]
    have hs := pairs_snoc n r x y h1 h2
    rw [e1] at hs
    unfold pairsH
    rw [hs, List.cons_append]
theorem pairs_done : ∀ (n : Nat) (l : List Nat), l.length ≤ 2 * n + 1 → pairsH (l.take (2 * n)) = pairsH l
  | 0, [], _ => rfl
  | 0, [_], _ => rfl
  | 0, _ :: _ :: _, h => by simp at h
  | n + 1, [], _ => rfl
  | n + 1, [_], _ => by rw [List.take_of_length_le (by simp; omega)]
  | n + 1, a :: b :: r, h => by
    have e1 : (2 * (n + 1)) = 2 * n + 1 + 1 := by omega
    rw [e1]
    simp only [List.take_succ_cons, pairsH]
    rw [pairs_done n r (by simp at h; omega)]
theorem pairs_length : ∀ (l : List Nat), (pairsH l).length ≤ l.length
  | [] => by simp [pairsH]
  | [_] => by simp [pairsH]
  | _ :: _ :: r => by have := pairs_length r; simp [pairsH]; omega
theorem rlist_s (w : World) (p g : Nat) (m : Int) (hm : m ≤ 9223372036854775807) (st : List UInt8 × Nat) (hb : st.1.length ≤ 1048576) (h : Rd w p g st.1 st.2) : Calls Tryz.prog 67 #[.pointer (some ⟨p, 0, none⟩), .int .i64 m] w fun e w' => ∃ A c, e = .returned (.slice A (ls1 m st).length c) ∧ (ls1 m st = [] ∨ ∃ h, A = some ⟨h, 0, none⟩ ∧ w.heap.size ≤ h ∧ NumsAt w' h 0 (ls1 m st)) ∧ Only [p] w w' :=
  (rlist_any w p g st.1 st.2 m hm hb h).mono fun e w' ⟨A, c, h1, h2, _, h4⟩ => ⟨A, c, h1, h2, h4⟩
theorem owns_shape {w : World} {v : Value} {l : List Hol} (h : w.ownsRow 0 91 2 v l.length (encs holE l)) : ∃ A c, v = .slice A l.length c ∧ l.length ≤ c ∧ (l = [] ∨ ∃ g, A = some ⟨g, 0, none⟩ ∧ g < w.heap.size ∧ ElsAt holE 2 w g 0 l ∧ v.ownBlock = some g) := by
  rcases id h.2 with ⟨rfl, h0⟩ | ⟨g, cap, cur, rfl, hb, hg, hn, r⟩
  · have hl : l = [] := List.eq_nil_of_length_eq_zero h0
    subst hl
    exact ⟨none, 0, rfl, Nat.le_refl _, .inl rfl⟩
  · refine ⟨_, _, rfl, hn, ?_⟩
    by_cases h0 : l = []
    · exact .inl h0
    · refine .inr ⟨g, rfl, (h.lt g rfl).2, fun i hi j u hu => ?_, rfl⟩
      have q := h.cells rfl _ _ (encs_at holE_length l i hi j u hu)
      rw [addr_add, Nat.zero_add] at q
      rw [Nat.zero_add]
      exact q
theorem wp_store_blk {P : Program} {o : Oper} {a : Act} {w : World} {K : Act → World → Prop} {Q : Exit → Act → World → Prop} (ty : TypeId) (x y : Operand) (ho : o.op = .store ty x y)
    (g : Nat) (c c' : Array Value) (hx : a.eval x = .pointer (some ⟨g, 0, none⟩)) (hy : a.eval y = .agg c') (hb : Blk w g ty c) (hi : (P.info? ty).map (·.size) = some c'.size) (hs : c.size = c'.size) (h1 : c'.all (·.oneCell') = true)
    (h : ∀ w', Blk w' g ty c' → Only [g] w w' → K (a.put o.dst undef) w') : o.wp P a w K Q := by
  have hrun := run_storeVar_row (P := P) w g ty ty c c' hb hi hs h1
  unfold Oper.wp execOp
  simp only [ho, hx, hy, Instr.storeAt, Instr.sureAddr, Sem.run_bind, Sem.run_pure, Result.andThen_ok, hrun]
  exact h _ (setRow_heap w g c c' ty _ hb) ((Only.refl [g] w).setRow (.inl (by simp)) _)
theorem ls1_len (st : List UInt8 × Nat) : (ls1 8 st).length ≤ 8 := by
  unfold ls1 rList
  split
  · simp
  · split
    · simp
    · split
      · simp
      · split
        · simp
        · simp only [decNs_length]; omega

set_option maxRecDepth 100000 in
set_option maxHeartbeats 16000000 in
theorem lock_any (b : Bs) (wr w : World) (gx kp kg vp vg : Nat) (s : Sta) (tv ov kv wv sv : Value) (lvs : List Lv) (rk rv : ByteArray) (rg : Bool) (kb vb : List UInt8) (hL : LdR b wr gx s tv ov kv wv sv lvs) (ho : Only [gx] wr w) (hx : LdB w gx s tv ov kv wv sv rk rv rg kp vp) (h2 : Two wr.heap.size w kp kg vp vg (kb, 0) (vb, 0)) (hl : lvs.length ≤ 1000000) (hvb : vb.length ≤ 1048576) (hks0 : kp < w.heap.size ∧ vp < w.heap.size ∧ gx < w.heap.size ∧ kg < w.heap.size ∧ vg < w.heap.size) :
    Calls Tryz.prog 44 #[.pointer (some ⟨gx, 0, none⟩)] w fun e w' => e = .returned (.tuple #[]) ∧ LdAns b gx { s with locks := s.locks ++ [lockOf kb vb] } w' := by
  have hgx : gx ∉ [kp, vp] := by
    have := hL.gxl
    have := h2.a
    have := h2.c
    simp
    omega
  have KP : Hid (∀ W, Only [kp, vp] w W → W.cell? ⟨gx, 10, none⟩ = some (.pointer (some ⟨kp, 0, none⟩)) ∧ W.cell? ⟨gx, 11, none⟩ = some (.pointer (some ⟨vp, 0, none⟩))) := fun W kW => ⟨(hx.kept kW hgx).cell 10, (hx.kept kW hgx).cell 11⟩
  have kk : Only [kp, vp] w w.drew := (Only.refl [kp, vp] w).drew
  replace h2 := h2.kept ((Only.refl [] w).drew)
  have hb5 : Hid ((fl2 (fl2 (nu2 (nu2 (nu2 (vb, 0)))))).1.length ≤ 1048576) := by
    have a1 := rNumber_len vb 0
    have a2 := rNumber_len (nu2 (vb, 0)).1 (nu2 (vb, 0)).2
    have a3 := rNumber_len (nu2 (nu2 (vb, 0))).1 (nu2 (nu2 (vb, 0))).2
    have a4 := rFlag_len (nu2 (nu2 (nu2 (vb, 0)))).1 (nu2 (nu2 (nu2 (vb, 0)))).2
    have a5 := rFlag_len (fl2 (nu2 (nu2 (nu2 (vb, 0))))).1 (fl2 (nu2 (nu2 (nu2 (vb, 0))))).2
    exact Nat.le_trans a5 (Nat.le_trans a4 (Nat.le_trans a3 (Nat.le_trans a2 (Nat.le_trans a1 hvb))))
  replace hL := Lib.hid hL
  replace hx := Lib.hid hx
  replace ho := Lib.hid ho
  replace hl := Lib.hid hl
  go_enter Tryz.func44, Tryz.ntmps44
  have hks : Hid (kp < w.heap.size ∧ vp < w.heap.size ∧ gx < w.heap.size ∧ kg < w.heap.size ∧ vg < w.heap.size) := Lib.hid hks0
  clear hks0
  go_upto_region 0 with fail
  go_cut [2] from 5 to 35 (fun s2 wx => ∃ gl, s2 = .pointer (some ⟨gl, 0, none⟩) ∧ Blk wx gl 45 #[.int .u32 ((nu1 (kb, 0) : Nat) : Int), .int .u32 ((nu1 (vb, 0) : Nat) : Int), .int .u32 ((nu1 (nu2 (vb, 0)) : Nat) : Int), .int .u32 ((nu1 (nu2 (nu2 (vb, 0))) : Nat) : Int), .bool (fl1 (nu2 (nu2 (nu2 (vb, 0))))), .bool (fl1 (fl2 (nu2 (nu2 (nu2 (vb, 0)))))), .slice none 0 0] ∧ Two wr.heap.size wx kp kg vp vg (nu2 (kb, 0)) (fl2 (fl2 (nu2 (nu2 (nu2 (vb, 0)))))) ∧ Only [kp, vp] w wx ∧ w.heap.size ≤ gl)
  case first =>
    refine wp_region_held_drew (S := fun w' => w'.cell? ⟨gx, 10, none⟩ = some (.pointer (some ⟨kp, 0, none⟩)) ∧ w'.cell? ⟨gx, 11, none⟩ = some (.pointer (some ⟨vp, 0, none⟩))) (by kernel_rfl) (KP.out _ kk) (fun hHeld => ?_)
    refine held_take 0 (.pointer (some ⟨gx, 0, none⟩)) rfl (by kernel_rfl) (by kernel_rfl) (by kernel_rfl) (fun _ _ _ h => h) hHeld (Or.inl ⟨by rfl, fun w' hSw => by (try dsimp only at hSw); (try subst hSw); go_simp⟩) ?_
    simp only [Act.put, List.setIfInBounds_toArray, List.set_cons_zero, List.set_cons_succ]
    refine held_take 1 (.pointer (some ⟨gx, 0, none⟩)) rfl (by kernel_rfl) (by kernel_rfl) (by kernel_rfl) (fun _ _ _ h => h) hHeld (Or.inl ⟨by rfl, fun w' hSw => by (try dsimp only at hSw); (try subst hSw); go_simp⟩) ?_
    simp only [Act.put, List.setIfInBounds_toArray, List.set_cons_zero, List.set_cons_succ]
    refine held_take 2 (.pointer (some ⟨gx, 10, none⟩)) rfl (by kernel_rfl) (by kernel_rfl) (by kernel_rfl) (fun _ _ _ h => h) hHeld (Or.inl ⟨by rfl, fun w' hSw => by (try dsimp only at hSw); (try subst hSw); go_simp⟩) ?_
    simp only [Act.put, List.setIfInBounds_toArray, List.set_cons_zero, List.set_cons_succ]
    refine held_take 3 (.pointer (some ⟨kp, 0, none⟩)) rfl (by kernel_rfl) (by kernel_rfl) (by kernel_rfl) (fun _ _ _ h => h) hHeld (Or.inl ⟨by rfl, fun w' hSw => by (try dsimp only at hSw); (try subst hSw); go_simp⟩) ?_
    simp only [Act.put, List.setIfInBounds_toArray, List.set_cons_zero, List.set_cons_succ]
    refine held_take 5 (.pointer (some ⟨gx, 0, none⟩)) rfl (by kernel_rfl) (by kernel_rfl) (by kernel_rfl) (fun _ _ _ h => h) hHeld (Or.inl ⟨by rfl, fun w' hSw => by (try dsimp only at hSw); (try subst hSw); go_simp⟩) ?_
    simp only [Act.put, List.setIfInBounds_toArray, List.set_cons_zero, List.set_cons_succ]
    refine held_take 6 (.pointer (some ⟨gx, 0, none⟩)) rfl (by kernel_rfl) (by kernel_rfl) (by kernel_rfl) (fun _ _ _ h => h) hHeld (Or.inl ⟨by rfl, fun w' hSw => by (try dsimp only at hSw); (try subst hSw); go_simp⟩) ?_
    simp only [Act.put, List.setIfInBounds_toArray, List.set_cons_zero, List.set_cons_succ]
    refine held_take 7 (.pointer (some ⟨gx, 11, none⟩)) rfl (by kernel_rfl) (by kernel_rfl) (by kernel_rfl) (fun _ _ _ h => h) hHeld (Or.inl ⟨by rfl, fun w' hSw => by (try dsimp only at hSw); (try subst hSw); go_simp⟩) ?_
    simp only [Act.put, List.setIfInBounds_toArray, List.set_cons_zero, List.set_cons_succ]
    refine held_take 8 (.pointer (some ⟨vp, 0, none⟩)) rfl (by kernel_rfl) (by kernel_rfl) (by kernel_rfl) (fun _ _ _ h => h) hHeld (Or.inl ⟨by rfl, fun w' hSw => by (try dsimp only at hSw); (try subst hSw); go_simp⟩) ?_
    simp only [Act.put, List.setIfInBounds_toArray, List.set_cons_zero, List.set_cons_succ]
    refine held_take 10 (.pointer (some ⟨gx, 0, none⟩)) rfl (by kernel_rfl) (by kernel_rfl) (by kernel_rfl) (fun _ _ _ h => h) hHeld (Or.inl ⟨by rfl, fun w' hSw => by (try dsimp only at hSw); (try subst hSw); go_simp⟩) ?_
    simp only [Act.put, List.setIfInBounds_toArray, List.set_cons_zero, List.set_cons_succ]
    refine held_take 11 (.pointer (some ⟨gx, 0, none⟩)) rfl (by kernel_rfl) (by kernel_rfl) (by kernel_rfl) (fun _ _ _ h => h) hHeld (Or.inl ⟨by rfl, fun w' hSw => by (try dsimp only at hSw); (try subst hSw); go_simp⟩) ?_
    simp only [Act.put, List.setIfInBounds_toArray, List.set_cons_zero, List.set_cons_succ]
    refine held_take 12 (.pointer (some ⟨gx, 11, none⟩)) rfl (by kernel_rfl) (by kernel_rfl) (by kernel_rfl) (fun _ _ _ h => h) hHeld (Or.inl ⟨by rfl, fun w' hSw => by (try dsimp only at hSw); (try subst hSw); go_simp⟩) ?_
    simp only [Act.put, List.setIfInBounds_toArray, List.set_cons_zero, List.set_cons_succ]
    refine held_take 13 (.pointer (some ⟨vp, 0, none⟩)) rfl (by kernel_rfl) (by kernel_rfl) (by kernel_rfl) (fun _ _ _ h => h) hHeld (Or.inl ⟨by rfl, fun w' hSw => by (try dsimp only at hSw); (try subst hSw); go_simp⟩) ?_
    simp only [Act.put, List.setIfInBounds_toArray, List.set_cons_zero, List.set_cons_succ]
    refine held_take 15 (.pointer (some ⟨gx, 0, none⟩)) rfl (by kernel_rfl) (by kernel_rfl) (by kernel_rfl) (fun _ _ _ h => h) hHeld (Or.inl ⟨by rfl, fun w' hSw => by (try dsimp only at hSw); (try subst hSw); go_simp⟩) ?_
    simp only [Act.put, List.setIfInBounds_toArray, List.set_cons_zero, List.set_cons_succ]
    refine held_take 16 (.pointer (some ⟨gx, 0, none⟩)) rfl (by kernel_rfl) (by kernel_rfl) (by kernel_rfl) (fun _ _ _ h => h) hHeld (Or.inl ⟨by rfl, fun w' hSw => by (try dsimp only at hSw); (try subst hSw); go_simp⟩) ?_
    simp only [Act.put, List.setIfInBounds_toArray, List.set_cons_zero, List.set_cons_succ]
    refine held_take 17 (.pointer (some ⟨gx, 11, none⟩)) rfl (by kernel_rfl) (by kernel_rfl) (by kernel_rfl) (fun _ _ _ h => h) hHeld (Or.inl ⟨by rfl, fun w' hSw => by (try dsimp only at hSw); (try subst hSw); go_simp⟩) ?_
    simp only [Act.put, List.setIfInBounds_toArray, List.set_cons_zero, List.set_cons_succ]
    refine held_take 18 (.pointer (some ⟨vp, 0, none⟩)) rfl (by kernel_rfl) (by kernel_rfl) (by kernel_rfl) (fun _ _ _ h => h) hHeld (Or.inl ⟨by rfl, fun w' hSw => by (try dsimp only at hSw); (try subst hSw); go_simp⟩) ?_
    simp only [Act.put, List.setIfInBounds_toArray, List.set_cons_zero, List.set_cons_succ]
    refine held_take 20 (.pointer (some ⟨gx, 0, none⟩)) rfl (by kernel_rfl) (by kernel_rfl) (by kernel_rfl) (fun _ _ _ h => h) hHeld (Or.inl ⟨by rfl, fun w' hSw => by (try dsimp only at hSw); (try subst hSw); go_simp⟩) ?_
    simp only [Act.put, List.setIfInBounds_toArray, List.set_cons_zero, List.set_cons_succ]
    refine held_take 21 (.pointer (some ⟨gx, 0, none⟩)) rfl (by kernel_rfl) (by kernel_rfl) (by kernel_rfl) (fun _ _ _ h => h) hHeld (Or.inl ⟨by rfl, fun w' hSw => by (try dsimp only at hSw); (try subst hSw); go_simp⟩) ?_
    simp only [Act.put, List.setIfInBounds_toArray, List.set_cons_zero, List.set_cons_succ]
    refine held_take 22 (.pointer (some ⟨gx, 11, none⟩)) rfl (by kernel_rfl) (by kernel_rfl) (by kernel_rfl) (fun _ _ _ h => h) hHeld (Or.inl ⟨by rfl, fun w' hSw => by (try dsimp only at hSw); (try subst hSw); go_simp⟩) ?_
    simp only [Act.put, List.setIfInBounds_toArray, List.set_cons_zero, List.set_cons_succ]
    refine held_take 23 (.pointer (some ⟨vp, 0, none⟩)) rfl (by kernel_rfl) (by kernel_rfl) (by kernel_rfl) (fun _ _ _ h => h) hHeld (Or.inl ⟨by rfl, fun w' hSw => by (try dsimp only at hSw); (try subst hSw); go_simp⟩) ?_
    simp only [Act.put, List.setIfInBounds_toArray, List.set_cons_zero, List.set_cons_succ]
    refine held_take 25 (.pointer (some ⟨gx, 0, none⟩)) rfl (by kernel_rfl) (by kernel_rfl) (by kernel_rfl) (fun _ _ _ h => h) hHeld (Or.inl ⟨by rfl, fun w' hSw => by (try dsimp only at hSw); (try subst hSw); go_simp⟩) ?_
    simp only [Act.put, List.setIfInBounds_toArray, List.set_cons_zero, List.set_cons_succ]
    refine held_take 26 (.pointer (some ⟨gx, 0, none⟩)) rfl (by kernel_rfl) (by kernel_rfl) (by kernel_rfl) (fun _ _ _ h => h) hHeld (Or.inl ⟨by rfl, fun w' hSw => by (try dsimp only at hSw); (try subst hSw); go_simp⟩) ?_
    simp only [Act.put, List.setIfInBounds_toArray, List.set_cons_zero, List.set_cons_succ]
    refine held_take 27 (.pointer (some ⟨gx, 11, none⟩)) rfl (by kernel_rfl) (by kernel_rfl) (by kernel_rfl) (fun _ _ _ h => h) hHeld (Or.inl ⟨by rfl, fun w' hSw => by (try dsimp only at hSw); (try subst hSw); go_simp⟩) ?_
    simp only [Act.put, List.setIfInBounds_toArray, List.set_cons_zero, List.set_cons_succ]
    refine held_take 28 (.pointer (some ⟨vp, 0, none⟩)) rfl (by kernel_rfl) (by kernel_rfl) (by kernel_rfl) (fun _ _ _ h => h) hHeld (Or.inl ⟨by rfl, fun w' hSw => by (try dsimp only at hSw); (try subst hSw); go_simp⟩) ?_
    simp only [Act.put, List.setIfInBounds_toArray, List.set_cons_zero, List.set_cons_succ]
    refine held_step2 4 31 rfl rfl (by kernel_rfl) (fun K hK => ?_) (fun K hK => ?_)
    · go_simp
      refine (rnum_s _ kp kg (kb, 0) h2.k).mono ?_; rintro e wn ⟨rfl, hr, kn⟩
      replace h2 := h2.readK hr kn
      replace kk := kk.then kn (by simp)
      clear hr kn
      go_wp2_with fail
      refine hK.out _ _ (KP.out _ kk) (fun hHeld => ?_)
      clear hK K
      refine held_step2 9 31 rfl rfl (by kernel_rfl) (fun K hK => ?_) (fun K hK => ?_)
      · go_simp
        refine (rnum_s _ vp vg (vb, 0) h2.v).mono ?_; rintro e wn ⟨rfl, hr, kn⟩
        replace h2 := h2.readV hr kn
        replace kk := kk.then kn (by simp)
        clear hr kn
        go_wp2_with fail
        refine hK.out _ _ (KP.out _ kk) (fun hHeld => ?_)
        clear hK K
        refine held_step2 14 31 rfl rfl (by kernel_rfl) (fun K hK => ?_) (fun K hK => ?_)
        · go_simp
          refine (rnum_s _ vp vg (nu2 (vb, 0)) h2.v).mono ?_; rintro e wn ⟨rfl, hr, kn⟩
          replace h2 := h2.readV hr kn
          replace kk := kk.then kn (by simp)
          clear hr kn
          go_wp2_with fail
          refine hK.out _ _ (KP.out _ kk) (fun hHeld => ?_)
          clear hK K
          refine held_step2 19 31 rfl rfl (by kernel_rfl) (fun K hK => ?_) (fun K hK => ?_)
          · go_simp
            refine (rnum_s _ vp vg (nu2 (nu2 (vb, 0))) h2.v).mono ?_; rintro e wn ⟨rfl, hr, kn⟩
            replace h2 := h2.readV hr kn
            replace kk := kk.then kn (by simp)
            clear hr kn
            go_wp2_with fail
            refine hK.out _ _ (KP.out _ kk) (fun hHeld => ?_)
            clear hK K
            refine held_step2 24 31 rfl rfl (by kernel_rfl) (fun K hK => ?_) (fun K hK => ?_)
            · go_simp
              refine (rflag_s _ vp vg (nu2 (nu2 (nu2 (vb, 0)))) h2.v).mono ?_; rintro e wn ⟨rfl, hr, kn⟩
              replace h2 := h2.readV hr kn
              replace kk := kk.then kn (by simp)
              clear hr kn
              go_wp2_with fail
              refine hK.out _ _ (KP.out _ kk) (fun hHeld => ?_)
              clear hK K
              refine held_step2 29 31 rfl rfl (by kernel_rfl) (fun K hK => ?_) (fun K hK => ?_)
              · go_simp
                refine (rflag_s _ vp vg (fl2 (nu2 (nu2 (nu2 (vb, 0))))) h2.v).mono ?_; rintro e wn ⟨rfl, hr, kn⟩
                replace h2 := h2.readV hr kn
                replace kk := kk.then kn (by simp)
                clear hr kn
                go_wp2_with fail
                refine hK.out _ _ (KP.out _ kk) (fun hHeld => ?_)
                clear hK K
                refine held_take 30 (.agg #[.int .u32 ((nu1 (kb, 0) : Nat) : Int), .int .u32 ((nu1 (vb, 0) : Nat) : Int), .int .u32 ((nu1 (nu2 (vb, 0)) : Nat) : Int), .int .u32 ((nu1 (nu2 (nu2 (vb, 0))) : Nat) : Int), .bool (fl1 (nu2 (nu2 (nu2 (vb, 0))))), .bool (fl1 (fl2 (nu2 (nu2 (nu2 (vb, 0)))))), .slice none 0 0]) rfl (by kernel_rfl) (by kernel_rfl) (by kernel_rfl) (fun _ _ _ h => h) hHeld (Or.inl ⟨by rfl, fun w' hSw => by (try dsimp only at hSw); (try subst hSw); go_simp⟩) ?_
                simp only [Act.put, List.setIfInBounds_toArray, List.set_cons_zero, List.set_cons_succ]
                refine held_step 31 rfl (by kernel_rfl) (fun K hK => ?_)
                go_simp
                go_wp2_with fail
                refine hK.out _ _ (KP.out _ (kk.alloc _)) (fun hHeld => ?_)
                clear hK K
                have zb := Blk.new wn 45 #[.int .u32 0, .int .u32 0, .int .u32 0, .int .u32 0, .bool false, .bool false, .slice none 0 0]
                have hgl : w.heap.size ≤ wn.heap.size := by { have := kk.size; simpa using this }
                generalize hgq : wn.heap.size = gl at *
                replace kk := kk.alloc (.cells #[.int .u32 0, .int .u32 0, .int .u32 0, .int .u32 0, .bool false, .bool false, .slice none 0 0] 45)
                replace h2 := h2.kept ((Only.refl [] _).alloc (.cells #[.int .u32 0, .int .u32 0, .int .u32 0, .int .u32 0, .bool false, .bool false, .slice none 0 0] 45))
                clear hgq
                refine held_step 32 rfl (by kernel_rfl) (fun K hK => ?_)
                rw [if_pos (show Region.wanted _ _ = true from rfl)]
                refine wp_store_blk 45 _ _ rfl gl _ _ rfl rfl zb size_lk rfl (by simp [Value.oneCell']) ?_
                intro w7 b7 k7
                replace kk := kk.then k7 (by intro i hi; simp at hi; subst hi; exact .inr hgl)
                replace h2 : Two _ w7 _ _ _ _ _ _ := { h2 with
                  k := h2.k.kept k7 (by simp; have := hks.out; omega) (by simp; have := hks.out; omega)
                  v := h2.v.kept k7 (by simp; have := hks.out; omega) (by simp; have := hks.out; omega) }
                refine hK.out _ _ (KP.out _ kk) (fun hHeld => ?_)
                clear hK K
                refine wpAnyH_done (by kernel_rfl) ?_ _
                clear hHeld
                go_wp2_with fail
                go_meet
                exact ⟨gl, rfl, b7, h2, kk, hgl⟩
              · go_simp
                go_wp2_with fail
                refine hK.out _ _ (KP.out _ (kk.alloc _)) (fun hHeld => ?_)
                clear hK K
                have zb := Blk.new wn 45 #[.int .u32 0, .int .u32 0, .int .u32 0, .int .u32 0, .bool false, .bool false, .slice none 0 0]
                have hgl : w.heap.size ≤ wn.heap.size := by { have := kk.size; simpa using this }
                generalize hgq : wn.heap.size = gl at *
                replace kk := kk.alloc (.cells #[.int .u32 0, .int .u32 0, .int .u32 0, .int .u32 0, .bool false, .bool false, .slice none 0 0] 45)
                replace h2 := h2.kept ((Only.refl [] _).alloc (.cells #[.int .u32 0, .int .u32 0, .int .u32 0, .int .u32 0, .bool false, .bool false, .slice none 0 0] 45))
                clear hgq
                refine held_step 29 rfl (by kernel_rfl) (fun K hK => ?_)
                go_simp
                refine (rflag_s _ vp vg (fl2 (nu2 (nu2 (nu2 (vb, 0))))) h2.v).mono ?_; rintro e wn ⟨rfl, hr, kn⟩
                replace h2 := h2.readV hr kn
                replace kk := kk.then kn (by simp)
                replace zb := zb.kept kn (by simp; have := hks.out; omega)
                clear hr kn
                go_wp2_with fail
                refine hK.out _ _ (KP.out _ kk) (fun hHeld => ?_)
                clear hK K
                refine held_take 30 (.agg #[.int .u32 ((nu1 (kb, 0) : Nat) : Int), .int .u32 ((nu1 (vb, 0) : Nat) : Int), .int .u32 ((nu1 (nu2 (vb, 0)) : Nat) : Int), .int .u32 ((nu1 (nu2 (nu2 (vb, 0))) : Nat) : Int), .bool (fl1 (nu2 (nu2 (nu2 (vb, 0))))), .bool (fl1 (fl2 (nu2 (nu2 (nu2 (vb, 0)))))), .slice none 0 0]) rfl (by kernel_rfl) (by kernel_rfl) (by kernel_rfl) (fun _ _ _ h => h) hHeld (Or.inl ⟨by rfl, fun w' hSw => by (try dsimp only at hSw); (try subst hSw); go_simp⟩) ?_
                simp only [Act.put, List.setIfInBounds_toArray, List.set_cons_zero, List.set_cons_succ]
                refine held_step 32 rfl (by kernel_rfl) (fun K hK => ?_)
                rw [if_pos (show Region.wanted _ _ = true from rfl)]
                refine wp_store_blk 45 _ _ rfl gl _ _ rfl rfl zb size_lk rfl (by simp [Value.oneCell']) ?_
                intro w7 b7 k7
                replace kk := kk.then k7 (by intro i hi; simp at hi; subst hi; exact .inr hgl)
                replace h2 : Two _ w7 _ _ _ _ _ _ := { h2 with
                  k := h2.k.kept k7 (by simp; have := hks.out; omega) (by simp; have := hks.out; omega)
                  v := h2.v.kept k7 (by simp; have := hks.out; omega) (by simp; have := hks.out; omega) }
                refine hK.out _ _ (KP.out _ kk) (fun hHeld => ?_)
                clear hK K
                refine wpAnyH_done (by kernel_rfl) ?_ _
                clear hHeld
                go_wp2_with fail
                go_meet
                exact ⟨gl, rfl, b7, h2, kk, hgl⟩
            · go_simp
              go_wp2_with fail
              refine hK.out _ _ (KP.out _ (kk.alloc _)) (fun hHeld => ?_)
              clear hK K
              have zb := Blk.new wn 45 #[.int .u32 0, .int .u32 0, .int .u32 0, .int .u32 0, .bool false, .bool false, .slice none 0 0]
              have hgl : w.heap.size ≤ wn.heap.size := by { have := kk.size; simpa using this }
              generalize hgq : wn.heap.size = gl at *
              replace kk := kk.alloc (.cells #[.int .u32 0, .int .u32 0, .int .u32 0, .int .u32 0, .bool false, .bool false, .slice none 0 0] 45)
              replace h2 := h2.kept ((Only.refl [] _).alloc (.cells #[.int .u32 0, .int .u32 0, .int .u32 0, .int .u32 0, .bool false, .bool false, .slice none 0 0] 45))
              clear hgq
              refine held_step 24 rfl (by kernel_rfl) (fun K hK => ?_)
              go_simp
              refine (rflag_s _ vp vg (nu2 (nu2 (nu2 (vb, 0)))) h2.v).mono ?_; rintro e wn ⟨rfl, hr, kn⟩
              replace h2 := h2.readV hr kn
              replace kk := kk.then kn (by simp)
              replace zb := zb.kept kn (by simp; have := hks.out; omega)
              clear hr kn
              go_wp2_with fail
              refine hK.out _ _ (KP.out _ kk) (fun hHeld => ?_)
              clear hK K
              refine held_step 29 rfl (by kernel_rfl) (fun K hK => ?_)
              go_simp
              refine (rflag_s _ vp vg (fl2 (nu2 (nu2 (nu2 (vb, 0))))) h2.v).mono ?_; rintro e wn ⟨rfl, hr, kn⟩
              replace h2 := h2.readV hr kn
              replace kk := kk.then kn (by simp)
              replace zb := zb.kept kn (by simp; have := hks.out; omega)
              clear hr kn
              go_wp2_with fail
              refine hK.out _ _ (KP.out _ kk) (fun hHeld => ?_)
              clear hK K
              refine held_take 30 (.agg #[.int .u32 ((nu1 (kb, 0) : Nat) : Int), .int .u32 ((nu1 (vb, 0) : Nat) : Int), .int .u32 ((nu1 (nu2 (vb, 0)) : Nat) : Int), .int .u32 ((nu1 (nu2 (nu2 (vb, 0))) : Nat) : Int), .bool (fl1 (nu2 (nu2 (nu2 (vb, 0))))), .bool (fl1 (fl2 (nu2 (nu2 (nu2 (vb, 0)))))), .slice none 0 0]) rfl (by kernel_rfl) (by kernel_rfl) (by kernel_rfl) (fun _ _ _ h => h) hHeld (Or.inl ⟨by rfl, fun w' hSw => by (try dsimp only at hSw); (try subst hSw); go_simp⟩) ?_
              simp only [Act.put, List.setIfInBounds_toArray, List.set_cons_zero, List.set_cons_succ]
              refine held_step 32 rfl (by kernel_rfl) (fun K hK => ?_)
              rw [if_pos (show Region.wanted _ _ = true from rfl)]
              refine wp_store_blk 45 _ _ rfl gl _ _ rfl rfl zb size_lk rfl (by simp [Value.oneCell']) ?_
              intro w7 b7 k7
              replace kk := kk.then k7 (by intro i hi; simp at hi; subst hi; exact .inr hgl)
              replace h2 : Two _ w7 _ _ _ _ _ _ := { h2 with
                k := h2.k.kept k7 (by simp; have := hks.out; omega) (by simp; have := hks.out; omega)
                v := h2.v.kept k7 (by simp; have := hks.out; omega) (by simp; have := hks.out; omega) }
              refine hK.out _ _ (KP.out _ kk) (fun hHeld => ?_)
              clear hK K
              refine wpAnyH_done (by kernel_rfl) ?_ _
              clear hHeld
              go_wp2_with fail
              go_meet
              exact ⟨gl, rfl, b7, h2, kk, hgl⟩
          · go_simp
            go_wp2_with fail
            refine hK.out _ _ (KP.out _ (kk.alloc _)) (fun hHeld => ?_)
            clear hK K
            have zb := Blk.new wn 45 #[.int .u32 0, .int .u32 0, .int .u32 0, .int .u32 0, .bool false, .bool false, .slice none 0 0]
            have hgl : w.heap.size ≤ wn.heap.size := by { have := kk.size; simpa using this }
            generalize hgq : wn.heap.size = gl at *
            replace kk := kk.alloc (.cells #[.int .u32 0, .int .u32 0, .int .u32 0, .int .u32 0, .bool false, .bool false, .slice none 0 0] 45)
            replace h2 := h2.kept ((Only.refl [] _).alloc (.cells #[.int .u32 0, .int .u32 0, .int .u32 0, .int .u32 0, .bool false, .bool false, .slice none 0 0] 45))
            clear hgq
            refine held_step 19 rfl (by kernel_rfl) (fun K hK => ?_)
            go_simp
            refine (rnum_s _ vp vg (nu2 (nu2 (vb, 0))) h2.v).mono ?_; rintro e wn ⟨rfl, hr, kn⟩
            replace h2 := h2.readV hr kn
            replace kk := kk.then kn (by simp)
            replace zb := zb.kept kn (by simp; have := hks.out; omega)
            clear hr kn
            go_wp2_with fail
            refine hK.out _ _ (KP.out _ kk) (fun hHeld => ?_)
            clear hK K
            refine held_step 24 rfl (by kernel_rfl) (fun K hK => ?_)
            go_simp
            refine (rflag_s _ vp vg (nu2 (nu2 (nu2 (vb, 0)))) h2.v).mono ?_; rintro e wn ⟨rfl, hr, kn⟩
            replace h2 := h2.readV hr kn
            replace kk := kk.then kn (by simp)
            replace zb := zb.kept kn (by simp; have := hks.out; omega)
            clear hr kn
            go_wp2_with fail
            refine hK.out _ _ (KP.out _ kk) (fun hHeld => ?_)
            clear hK K
            refine held_step 29 rfl (by kernel_rfl) (fun K hK => ?_)
            go_simp
            refine (rflag_s _ vp vg (fl2 (nu2 (nu2 (nu2 (vb, 0))))) h2.v).mono ?_; rintro e wn ⟨rfl, hr, kn⟩
            replace h2 := h2.readV hr kn
            replace kk := kk.then kn (by simp)
            replace zb := zb.kept kn (by simp; have := hks.out; omega)
            clear hr kn
            go_wp2_with fail
            refine hK.out _ _ (KP.out _ kk) (fun hHeld => ?_)
            clear hK K
            refine held_take 30 (.agg #[.int .u32 ((nu1 (kb, 0) : Nat) : Int), .int .u32 ((nu1 (vb, 0) : Nat) : Int), .int .u32 ((nu1 (nu2 (vb, 0)) : Nat) : Int), .int .u32 ((nu1 (nu2 (nu2 (vb, 0))) : Nat) : Int), .bool (fl1 (nu2 (nu2 (nu2 (vb, 0))))), .bool (fl1 (fl2 (nu2 (nu2 (nu2 (vb, 0)))))), .slice none 0 0]) rfl (by kernel_rfl) (by kernel_rfl) (by kernel_rfl) (fun _ _ _ h => h) hHeld (Or.inl ⟨by rfl, fun w' hSw => by (try dsimp only at hSw); (try subst hSw); go_simp⟩) ?_
            simp only [Act.put, List.setIfInBounds_toArray, List.set_cons_zero, List.set_cons_succ]
            refine held_step 32 rfl (by kernel_rfl) (fun K hK => ?_)
            rw [if_pos (show Region.wanted _ _ = true from rfl)]
            refine wp_store_blk 45 _ _ rfl gl _ _ rfl rfl zb size_lk rfl (by simp [Value.oneCell']) ?_
            intro w7 b7 k7
            replace kk := kk.then k7 (by intro i hi; simp at hi; subst hi; exact .inr hgl)
            replace h2 : Two _ w7 _ _ _ _ _ _ := { h2 with
              k := h2.k.kept k7 (by simp; have := hks.out; omega) (by simp; have := hks.out; omega)
              v := h2.v.kept k7 (by simp; have := hks.out; omega) (by simp; have := hks.out; omega) }
            refine hK.out _ _ (KP.out _ kk) (fun hHeld => ?_)
            clear hK K
            refine wpAnyH_done (by kernel_rfl) ?_ _
            clear hHeld
            go_wp2_with fail
            go_meet
            exact ⟨gl, rfl, b7, h2, kk, hgl⟩
        · go_simp
          go_wp2_with fail
          refine hK.out _ _ (KP.out _ (kk.alloc _)) (fun hHeld => ?_)
          clear hK K
          have zb := Blk.new wn 45 #[.int .u32 0, .int .u32 0, .int .u32 0, .int .u32 0, .bool false, .bool false, .slice none 0 0]
          have hgl : w.heap.size ≤ wn.heap.size := by { have := kk.size; simpa using this }
          generalize hgq : wn.heap.size = gl at *
          replace kk := kk.alloc (.cells #[.int .u32 0, .int .u32 0, .int .u32 0, .int .u32 0, .bool false, .bool false, .slice none 0 0] 45)
          replace h2 := h2.kept ((Only.refl [] _).alloc (.cells #[.int .u32 0, .int .u32 0, .int .u32 0, .int .u32 0, .bool false, .bool false, .slice none 0 0] 45))
          clear hgq
          refine held_step 14 rfl (by kernel_rfl) (fun K hK => ?_)
          go_simp
          refine (rnum_s _ vp vg (nu2 (vb, 0)) h2.v).mono ?_; rintro e wn ⟨rfl, hr, kn⟩
          replace h2 := h2.readV hr kn
          replace kk := kk.then kn (by simp)
          replace zb := zb.kept kn (by simp; have := hks.out; omega)
          clear hr kn
          go_wp2_with fail
          refine hK.out _ _ (KP.out _ kk) (fun hHeld => ?_)
          clear hK K
          refine held_step 19 rfl (by kernel_rfl) (fun K hK => ?_)
          go_simp
          refine (rnum_s _ vp vg (nu2 (nu2 (vb, 0))) h2.v).mono ?_; rintro e wn ⟨rfl, hr, kn⟩
          replace h2 := h2.readV hr kn
          replace kk := kk.then kn (by simp)
          replace zb := zb.kept kn (by simp; have := hks.out; omega)
          clear hr kn
          go_wp2_with fail
          refine hK.out _ _ (KP.out _ kk) (fun hHeld => ?_)
          clear hK K
          refine held_step 24 rfl (by kernel_rfl) (fun K hK => ?_)
          go_simp
          refine (rflag_s _ vp vg (nu2 (nu2 (nu2 (vb, 0)))) h2.v).mono ?_; rintro e wn ⟨rfl, hr, kn⟩
          replace h2 := h2.readV hr kn
          replace kk := kk.then kn (by simp)
          replace zb := zb.kept kn (by simp; have := hks.out; omega)
          clear hr kn
          go_wp2_with fail
          refine hK.out _ _ (KP.out _ kk) (fun hHeld => ?_)
          clear hK K
          refine held_step 29 rfl (by kernel_rfl) (fun K hK => ?_)
          go_simp
          refine (rflag_s _ vp vg (fl2 (nu2 (nu2 (nu2 (vb, 0))))) h2.v).mono ?_; rintro e wn ⟨rfl, hr, kn⟩
          replace h2 := h2.readV hr kn
          replace kk := kk.then kn (by simp)
          replace zb := zb.kept kn (by simp; have := hks.out; omega)
          clear hr kn
          go_wp2_with fail
          refine hK.out _ _ (KP.out _ kk) (fun hHeld => ?_)
          clear hK K
          refine held_take 30 (.agg #[.int .u32 ((nu1 (kb, 0) : Nat) : Int), .int .u32 ((nu1 (vb, 0) : Nat) : Int), .int .u32 ((nu1 (nu2 (vb, 0)) : Nat) : Int), .int .u32 ((nu1 (nu2 (nu2 (vb, 0))) : Nat) : Int), .bool (fl1 (nu2 (nu2 (nu2 (vb, 0))))), .bool (fl1 (fl2 (nu2 (nu2 (nu2 (vb, 0)))))), .slice none 0 0]) rfl (by kernel_rfl) (by kernel_rfl) (by kernel_rfl) (fun _ _ _ h => h) hHeld (Or.inl ⟨by rfl, fun w' hSw => by (try dsimp only at hSw); (try subst hSw); go_simp⟩) ?_
          simp only [Act.put, List.setIfInBounds_toArray, List.set_cons_zero, List.set_cons_succ]
          refine held_step 32 rfl (by kernel_rfl) (fun K hK => ?_)
          rw [if_pos (show Region.wanted _ _ = true from rfl)]
          refine wp_store_blk 45 _ _ rfl gl _ _ rfl rfl zb size_lk rfl (by simp [Value.oneCell']) ?_
          intro w7 b7 k7
          replace kk := kk.then k7 (by intro i hi; simp at hi; subst hi; exact .inr hgl)
          replace h2 : Two _ w7 _ _ _ _ _ _ := { h2 with
            k := h2.k.kept k7 (by simp; have := hks.out; omega) (by simp; have := hks.out; omega)
            v := h2.v.kept k7 (by simp; have := hks.out; omega) (by simp; have := hks.out; omega) }
          refine hK.out _ _ (KP.out _ kk) (fun hHeld => ?_)
          clear hK K
          refine wpAnyH_done (by kernel_rfl) ?_ _
          clear hHeld
          go_wp2_with fail
          go_meet
          exact ⟨gl, rfl, b7, h2, kk, hgl⟩
      · go_simp
        go_wp2_with fail
        refine hK.out _ _ (KP.out _ (kk.alloc _)) (fun hHeld => ?_)
        clear hK K
        have zb := Blk.new wn 45 #[.int .u32 0, .int .u32 0, .int .u32 0, .int .u32 0, .bool false, .bool false, .slice none 0 0]
        have hgl : w.heap.size ≤ wn.heap.size := by { have := kk.size; simpa using this }
        generalize hgq : wn.heap.size = gl at *
        replace kk := kk.alloc (.cells #[.int .u32 0, .int .u32 0, .int .u32 0, .int .u32 0, .bool false, .bool false, .slice none 0 0] 45)
        replace h2 := h2.kept ((Only.refl [] _).alloc (.cells #[.int .u32 0, .int .u32 0, .int .u32 0, .int .u32 0, .bool false, .bool false, .slice none 0 0] 45))
        clear hgq
        refine held_step 9 rfl (by kernel_rfl) (fun K hK => ?_)
        go_simp
        refine (rnum_s _ vp vg (vb, 0) h2.v).mono ?_; rintro e wn ⟨rfl, hr, kn⟩
        replace h2 := h2.readV hr kn
        replace kk := kk.then kn (by simp)
        replace zb := zb.kept kn (by simp; have := hks.out; omega)
        clear hr kn
        go_wp2_with fail
        refine hK.out _ _ (KP.out _ kk) (fun hHeld => ?_)
        clear hK K
        refine held_step 14 rfl (by kernel_rfl) (fun K hK => ?_)
        go_simp
        refine (rnum_s _ vp vg (nu2 (vb, 0)) h2.v).mono ?_; rintro e wn ⟨rfl, hr, kn⟩
        replace h2 := h2.readV hr kn
        replace kk := kk.then kn (by simp)
        replace zb := zb.kept kn (by simp; have := hks.out; omega)
        clear hr kn
        go_wp2_with fail
        refine hK.out _ _ (KP.out _ kk) (fun hHeld => ?_)
        clear hK K
        refine held_step 19 rfl (by kernel_rfl) (fun K hK => ?_)
        go_simp
        refine (rnum_s _ vp vg (nu2 (nu2 (vb, 0))) h2.v).mono ?_; rintro e wn ⟨rfl, hr, kn⟩
        replace h2 := h2.readV hr kn
        replace kk := kk.then kn (by simp)
        replace zb := zb.kept kn (by simp; have := hks.out; omega)
        clear hr kn
        go_wp2_with fail
        refine hK.out _ _ (KP.out _ kk) (fun hHeld => ?_)
        clear hK K
        refine held_step 24 rfl (by kernel_rfl) (fun K hK => ?_)
        go_simp
        refine (rflag_s _ vp vg (nu2 (nu2 (nu2 (vb, 0)))) h2.v).mono ?_; rintro e wn ⟨rfl, hr, kn⟩
        replace h2 := h2.readV hr kn
        replace kk := kk.then kn (by simp)
        replace zb := zb.kept kn (by simp; have := hks.out; omega)
        clear hr kn
        go_wp2_with fail
        refine hK.out _ _ (KP.out _ kk) (fun hHeld => ?_)
        clear hK K
        refine held_step 29 rfl (by kernel_rfl) (fun K hK => ?_)
        go_simp
        refine (rflag_s _ vp vg (fl2 (nu2 (nu2 (nu2 (vb, 0))))) h2.v).mono ?_; rintro e wn ⟨rfl, hr, kn⟩
        replace h2 := h2.readV hr kn
        replace kk := kk.then kn (by simp)
        replace zb := zb.kept kn (by simp; have := hks.out; omega)
        clear hr kn
        go_wp2_with fail
        refine hK.out _ _ (KP.out _ kk) (fun hHeld => ?_)
        clear hK K
        refine held_take 30 (.agg #[.int .u32 ((nu1 (kb, 0) : Nat) : Int), .int .u32 ((nu1 (vb, 0) : Nat) : Int), .int .u32 ((nu1 (nu2 (vb, 0)) : Nat) : Int), .int .u32 ((nu1 (nu2 (nu2 (vb, 0))) : Nat) : Int), .bool (fl1 (nu2 (nu2 (nu2 (vb, 0))))), .bool (fl1 (fl2 (nu2 (nu2 (nu2 (vb, 0)))))), .slice none 0 0]) rfl (by kernel_rfl) (by kernel_rfl) (by kernel_rfl) (fun _ _ _ h => h) hHeld (Or.inl ⟨by rfl, fun w' hSw => by (try dsimp only at hSw); (try subst hSw); go_simp⟩) ?_
        simp only [Act.put, List.setIfInBounds_toArray, List.set_cons_zero, List.set_cons_succ]
        refine held_step 32 rfl (by kernel_rfl) (fun K hK => ?_)
        rw [if_pos (show Region.wanted _ _ = true from rfl)]
        refine wp_store_blk 45 _ _ rfl gl _ _ rfl rfl zb size_lk rfl (by simp [Value.oneCell']) ?_
        intro w7 b7 k7
        replace kk := kk.then k7 (by intro i hi; simp at hi; subst hi; exact .inr hgl)
        replace h2 : Two _ w7 _ _ _ _ _ _ := { h2 with
          k := h2.k.kept k7 (by simp; have := hks.out; omega) (by simp; have := hks.out; omega)
          v := h2.v.kept k7 (by simp; have := hks.out; omega) (by simp; have := hks.out; omega) }
        refine hK.out _ _ (KP.out _ kk) (fun hHeld => ?_)
        clear hK K
        refine wpAnyH_done (by kernel_rfl) ?_ _
        clear hHeld
        go_wp2_with fail
        go_meet
        exact ⟨gl, rfl, b7, h2, kk, hgl⟩
    · go_simp
      go_wp2_with fail
      refine hK.out _ _ (KP.out _ (kk.alloc _)) (fun hHeld => ?_)
      clear hK K
      have zb : Blk (w.drew.alloc (.cells #[.int .u32 0, .int .u32 0, .int .u32 0, .int .u32 0, .bool false, .bool false, .slice none 0 0] 45)) w.heap.size 45 #[.int .u32 0, .int .u32 0, .int .u32 0, .int .u32 0, .bool false, .bool false, .slice none 0 0] := Blk.new w.drew 45 #[.int .u32 0, .int .u32 0, .int .u32 0, .int .u32 0, .bool false, .bool false, .slice none 0 0]
      obtain ⟨gl, hgq⟩ : ∃ gl, gl = w.heap.size := ⟨_, rfl⟩
      rw [← hgq] at zb
      rw [← hgq]
      have hgl : w.heap.size ≤ gl := by omega
      replace kk := kk.alloc (.cells #[.int .u32 0, .int .u32 0, .int .u32 0, .int .u32 0, .bool false, .bool false, .slice none 0 0] 45)
      replace h2 := h2.kept ((Only.refl [] _).alloc (.cells #[.int .u32 0, .int .u32 0, .int .u32 0, .int .u32 0, .bool false, .bool false, .slice none 0 0] 45))
      clear hgq
      refine held_step 4 rfl (by kernel_rfl) (fun K hK => ?_)
      go_simp
      refine (rnum_s _ kp kg (kb, 0) h2.k).mono ?_; rintro e wn ⟨rfl, hr, kn⟩
      replace h2 := h2.readK hr kn
      replace kk := kk.then kn (by simp)
      replace zb := zb.kept kn (by simp; have := hks.out; omega)
      clear hr kn
      go_wp2_with fail
      refine hK.out _ _ (KP.out _ kk) (fun hHeld => ?_)
      clear hK K
      refine held_step 9 rfl (by kernel_rfl) (fun K hK => ?_)
      go_simp
      refine (rnum_s _ vp vg (vb, 0) h2.v).mono ?_; rintro e wn ⟨rfl, hr, kn⟩
      replace h2 := h2.readV hr kn
      replace kk := kk.then kn (by simp)
      replace zb := zb.kept kn (by simp; have := hks.out; omega)
      clear hr kn
      go_wp2_with fail
      refine hK.out _ _ (KP.out _ kk) (fun hHeld => ?_)
      clear hK K
      refine held_step 14 rfl (by kernel_rfl) (fun K hK => ?_)
      go_simp
      refine (rnum_s _ vp vg (nu2 (vb, 0)) h2.v).mono ?_; rintro e wn ⟨rfl, hr, kn⟩
      replace h2 := h2.readV hr kn
      replace kk := kk.then kn (by simp)
      replace zb := zb.kept kn (by simp; have := hks.out; omega)
      clear hr kn
      go_wp2_with fail
      refine hK.out _ _ (KP.out _ kk) (fun hHeld => ?_)
      clear hK K
      refine held_step 19 rfl (by kernel_rfl) (fun K hK => ?_)
      go_simp
      refine (rnum_s _ vp vg (nu2 (nu2 (vb, 0))) h2.v).mono ?_; rintro e wn ⟨rfl, hr, kn⟩
      replace h2 := h2.readV hr kn
      replace kk := kk.then kn (by simp)
      replace zb := zb.kept kn (by simp; have := hks.out; omega)
      clear hr kn
      go_wp2_with fail
      refine hK.out _ _ (KP.out _ kk) (fun hHeld => ?_)
      clear hK K
      refine held_step 24 rfl (by kernel_rfl) (fun K hK => ?_)
      go_simp
      refine (rflag_s _ vp vg (nu2 (nu2 (nu2 (vb, 0)))) h2.v).mono ?_; rintro e wn ⟨rfl, hr, kn⟩
      replace h2 := h2.readV hr kn
      replace kk := kk.then kn (by simp)
      replace zb := zb.kept kn (by simp; have := hks.out; omega)
      clear hr kn
      go_wp2_with fail
      refine hK.out _ _ (KP.out _ kk) (fun hHeld => ?_)
      clear hK K
      refine held_step 29 rfl (by kernel_rfl) (fun K hK => ?_)
      go_simp
      refine (rflag_s _ vp vg (fl2 (nu2 (nu2 (nu2 (vb, 0))))) h2.v).mono ?_; rintro e wn ⟨rfl, hr, kn⟩
      replace h2 := h2.readV hr kn
      replace kk := kk.then kn (by simp)
      replace zb := zb.kept kn (by simp; have := hks.out; omega)
      clear hr kn
      go_wp2_with fail
      refine hK.out _ _ (KP.out _ kk) (fun hHeld => ?_)
      clear hK K
      refine held_take 30 (.agg #[.int .u32 ((nu1 (kb, 0) : Nat) : Int), .int .u32 ((nu1 (vb, 0) : Nat) : Int), .int .u32 ((nu1 (nu2 (vb, 0)) : Nat) : Int), .int .u32 ((nu1 (nu2 (nu2 (vb, 0))) : Nat) : Int), .bool (fl1 (nu2 (nu2 (nu2 (vb, 0))))), .bool (fl1 (fl2 (nu2 (nu2 (nu2 (vb, 0)))))), .slice none 0 0]) rfl (by kernel_rfl) (by kernel_rfl) (by kernel_rfl) (fun _ _ _ h => h) hHeld (Or.inl ⟨by rfl, fun w' hSw => by (try dsimp only at hSw); (try subst hSw); go_simp⟩) ?_
      simp only [Act.put, List.setIfInBounds_toArray, List.set_cons_zero, List.set_cons_succ]
      refine held_step 32 rfl (by kernel_rfl) (fun K hK => ?_)
      rw [if_pos (show Region.wanted _ _ = true from rfl)]
      refine wp_store_blk 45 _ _ rfl gl _ _ rfl rfl zb size_lk rfl (by simp [Value.oneCell']) ?_
      intro w7 b7 k7
      replace kk := kk.then k7 (by intro i hi; simp at hi; subst hi; exact .inr hgl)
      replace h2 : Two _ w7 _ _ _ _ _ _ := { h2 with
        k := h2.k.kept k7 (by simp; have := hks.out; omega) (by simp; have := hks.out; omega)
        v := h2.v.kept k7 (by simp; have := hks.out; omega) (by simp; have := hks.out; omega) }
      refine hK.out _ _ (KP.out _ kk) (fun hHeld => ?_)
      clear hK K
      refine wpAnyH_done (by kernel_rfl) ?_ _
      clear hHeld
      go_wp2_with fail
      go_meet
      exact ⟨gl, rfl, b7, h2, kk, hgl⟩
  case rest =>
    clear h2 kk
    obtain ⟨gl, rfl, bl, h2, kk, hgl⟩ := hcut
    obtain ⟨c10, c11⟩ := KP.out _ kk
    have hgl2 : gl < wc.heap.size := bl.lt
    have hks2 : Hid (gl ≠ kp ∧ gl ≠ vp ∧ gl ≠ gx ∧ gl ≠ kg ∧ gl ≠ vg) := by unfold Hid; have := hks.out; omega
    have hLi := rlist_s wc vp vg 8 (by decide) (fl2 (fl2 (nu2 (nu2 (nu2 (vb, 0)))))) hb5.out h2.v
    have h8 := ls1_len (fl2 (fl2 (nu2 (nu2 (nu2 (vb, 0))))))
    have hres : Hid (lockOf kb vb = ⟨((nu1 (kb, 0) : Nat) : Int), ((nu1 (vb, 0) : Nat) : Int), ((nu1 (nu2 (vb, 0)) : Nat) : Int), ((nu1 (nu2 (nu2 (vb, 0))) : Nat) : Int), fl1 (nu2 (nu2 (nu2 (vb, 0)))), fl1 (fl2 (nu2 (nu2 (nu2 (vb, 0))))), pairsH (ls1 8 (fl2 (fl2 (nu2 (nu2 (nu2 (vb, 0)))))))⟩) := Lib.hid rfl
    have ha := Lib.hid h2.a
    have hc := Lib.hid h2.c
    clear h2 hb5
    generalize ls1 8 (fl2 (fl2 (nu2 (nu2 (nu2 (vb, 0)))))) = l at *
    generalize nu1 (kb, 0) = y0 at *
    generalize nu1 (vb, 0) = y1 at *
    generalize nu1 (nu2 (vb, 0)) = y2 at *
    generalize nu1 (nu2 (nu2 (vb, 0))) = y3 at *
    generalize fl1 (nu2 (nu2 (nu2 (vb, 0)))) = y4 at *
    generalize fl1 (fl2 (nu2 (nu2 (nu2 (vb, 0))))) = y5 at *
    replace hLi := Lib.hid hLi
    have hpl := pairs_length l
    replace h8 := Lib.hid h8
    replace hpl := Lib.hid hpl
    have h8I : (l.length : Int) ≤ 8 := by have := h8.out; omega
    go_wp2_with fail
    refine hLi.out.mono ?_; rintro e w2 ⟨A5, c5, rfl, hnum, kn⟩
    replace bl := bl.kept kn (by simp; have := hks2.out; omega)
    have hz2 : wc.heap.size ≤ w2.heap.size := kn.size
    replace kk := kk.then kn (by simp)
    replace hnum := Lib.hid hnum
    clear c10 c11 kn hLi
    go_wp2_with fail
    go_loopw [4] (fun i wr => ∃ (n : Nat) (vh : Value), i = .int .i64 ((2 * n + 1 : Nat) : Int) ∧ 2 * n ≤ l.length ∧ Blk wr gl 45 #[.int .u32 ((y0 : Nat) : Int), .int .u32 ((y1 : Nat) : Int), .int .u32 ((y2 : Nat) : Int), .int .u32 ((y3 : Nat) : Int), .bool y4, .bool y5, vh] ∧ wr.ownsRow 0 91 2 vh (pairsH (l.take (2 * n))).length (encs holE (pairsH (l.take (2 * n)))) ∧ Hid (∀ g, vh.ownBlock = some g → w2.heap.size ≤ g) ∧ Only [gl] w2 wr) (fun i _ => l.length + 1 - (intOf i).toNat)
    case atStart => exact ⟨0, .slice none 0 0, rfl, Nat.zero_le _, bl, ⟨by simp [pairsH, encs], .inl ⟨rfl, rfl⟩⟩, Lib.hid (fun g hg => by simp [Value.ownBlock] at hg), Only.refl _ _⟩
    case round =>
    clear bl
    obtain ⟨n, vh, rfl, hn, bl, hown, hnew, hk⟩ := hrel
    by_cases hlt : 2 * n + 1 < l.length
    · obtain ⟨h, hA, hh, hat⟩ : ∃ h, A5 = some ⟨h, 0, none⟩ ∧ wc.heap.size ≤ h ∧ NumsAt w2 h 0 l := by
        rcases hnum.out with h0 | h1
        · rw [h0] at hlt; simp at hlt
        · exact h1
      subst hA
      have hx0 : l[2 * n]? = some l[2 * n] := List.getElem?_eq_getElem (by omega)
      have hx1 : l[2 * n + 1]? = some l[2 * n + 1] := List.getElem?_eq_getElem hlt
      have q0 := hat (2 * n) (by omega)
      have q1 := hat (2 * n + 1) hlt
      rw [Nat.zero_add] at q0 q1
      have hps := pairs_snoc n l _ _ hx0 hx1
      have hhl : h < w2.heap.size := World.block_lt_of_cell? w2 _ q0
      generalize l[2 * n] = v0 at *
      generalize l[2 * n + 1] = v1 at *
      have hpn : (pairsH (l.take (2 * n))).length ≤ 8 := by have h1 := pairs_length (l.take (2 * n)); rw [List.length_take] at h1; have := h8.out; omega
      have hmea : 2 * (n + 1) ≤ l.length := by omega
      generalize hPL : pairsH (l.take (2 * n)) = PL at *
      generalize hPM : pairsH (l.take (2 * (n + 1))) = PM at *
      obtain ⟨m, hm⟩ : ∃ m, m = 2 * n := ⟨_, rfl⟩
      rw [← hm] at q0 q1 hlt ⊢
      have hcast : ((m + 1 : Nat) : Int) = (m : Int) + 1 := by omega
      rw [hcast]
      have hj1 : ((m : Int) + 1).toNat = m + 1 := by omega
      have hj2 : (m : Int) + 1 < l.length := by omega
      have hj3 : (m : Int) < l.length := by omega
      have hj8 : ¬ (m : Int) + 1 < 0 := by omega
      have hj6 : IntKind.i64.wrap (m : Int) = (m : Int) := by simp only [IntKind.wrap, IntKind.bits, IntKind.signed]; simp; omega
      have hj7 : IntKind.i64.wrap ((m : Int) + 1 + 2) = (m : Int) + 3 := by simp only [IntKind.wrap, IntKind.bits, IntKind.signed]; simp; omega
      have KS : Hid (∀ W, Only [gl] w2 W → W.cell? ⟨h, m, none⟩ = some (.int .u32 (v0 : Int)) ∧ W.cell? ⟨h, m + 1, none⟩ = some (.int .u32 (v1 : Int))) := fun W kW => ⟨kW.cell q0 (by simp; omega), kW.cell q1 (by simp; omega)⟩
      have hgo : Hid (gl < w2.heap.size) := Lib.hid (by omega)
      replace hown := Lib.hid hown
      replace bl := Lib.hid bl
      replace hx0 := Lib.hid hx0
      replace hx1 := Lib.hid hx1
      replace hps := Lib.hid hps
      replace hat := Lib.hid hat
      replace hPL := Lib.hid hPL
      replace hPM := Lib.hid hPM
      replace hpn := Lib.hid hpn
      replace hmea := Lib.hid hmea
      clear q0 q1
      replace hm := Lib.hid hm
      replace hn := Lib.hid hn
      go_wp2_with fail
      refine wp_region_held_drew (S := fun w' => w'.cell? ⟨h, m, none⟩ = some (.int .u32 (v0 : Int)) ∧ w'.cell? ⟨h, m + 1, none⟩ = some (.int .u32 (v1 : Int))) (by kernel_rfl) (KS.out _ hk.drew) (fun hHeld => ?_)
      refine held_take 0 (.pointer (some ⟨gl, 6, none⟩)) rfl (by kernel_rfl) (by kernel_rfl) (by kernel_rfl) (fun _ _ _ h => h) hHeld (Or.inl ⟨by rfl, fun w' hSw => by (try dsimp only at hSw); (try subst hSw); go_simp⟩) ?_
      simp only [Act.put, List.setIfInBounds_toArray, List.set_cons_zero, List.set_cons_succ]
      refine held_take 2 (.slice (some ⟨h, 0, none⟩) l.length c5) rfl (by kernel_rfl) (by kernel_rfl) (by kernel_rfl) (fun _ _ _ h => h) hHeld (Or.inl ⟨by rfl, fun w' hSw => by (try dsimp only at hSw); (try subst hSw); go_simp⟩) ?_
      simp only [Act.put, List.setIfInBounds_toArray, List.set_cons_zero, List.set_cons_succ]
      refine held_take 3 (.int .i64 ((m : Int) + 1)) rfl (by kernel_rfl) (by kernel_rfl) (by kernel_rfl) (fun _ _ _ h => h) hHeld (Or.inl ⟨by rfl, fun w' hSw => by (try dsimp only at hSw); (try subst hSw); go_simp⟩) ?_
      simp only [Act.put, List.setIfInBounds_toArray, List.set_cons_zero, List.set_cons_succ]
      refine held_take 4 (.int .i64 m) rfl (by kernel_rfl) (by kernel_rfl) (by kernel_rfl) (fun _ _ _ h => h) hHeld (Or.inl ⟨by rfl, fun w' hSw => by (try dsimp only at hSw); (try subst hSw); go_simp⟩) ?_
      simp only [Act.put, List.setIfInBounds_toArray, List.set_cons_zero, List.set_cons_succ]
      refine held_take 5 (.pointer (some ⟨h, m, none⟩)) rfl (by kernel_rfl) (by kernel_rfl) (by kernel_rfl) (fun _ _ _ h => h) hHeld (Or.inl ⟨by rfl, fun w' hSw => by (try dsimp only at hSw); (try subst hSw); go_simp⟩) ?_
      simp only [Act.put, List.setIfInBounds_toArray, List.set_cons_zero, List.set_cons_succ]
      refine held_take 6 (.int .u32 (v0 : Int)) rfl (by kernel_rfl) (by kernel_rfl) (by kernel_rfl) (fun _ _ _ h => h) hHeld (Or.inl ⟨by rfl, fun w' hSw => by (try dsimp only at hSw); (try subst hSw); go_simp⟩) ?_
      simp only [Act.put, List.setIfInBounds_toArray, List.set_cons_zero, List.set_cons_succ]
      refine held_take 7 (.slice (some ⟨h, 0, none⟩) l.length c5) rfl (by kernel_rfl) (by kernel_rfl) (by kernel_rfl) (fun _ _ _ h => h) hHeld (Or.inl ⟨by rfl, fun w' hSw => by (try dsimp only at hSw); (try subst hSw); go_simp⟩) ?_
      simp only [Act.put, List.setIfInBounds_toArray, List.set_cons_zero, List.set_cons_succ]
      refine held_take 8 (.int .i64 ((m : Int) + 1)) rfl (by kernel_rfl) (by kernel_rfl) (by kernel_rfl) (fun _ _ _ h => h) hHeld (Or.inl ⟨by rfl, fun w' hSw => by (try dsimp only at hSw); (try subst hSw); go_simp⟩) ?_
      simp only [Act.put, List.setIfInBounds_toArray, List.set_cons_zero, List.set_cons_succ]
      refine held_take 9 (.pointer (some ⟨h, m + 1, none⟩)) rfl (by kernel_rfl) (by kernel_rfl) (by kernel_rfl) (fun _ _ _ h => h) hHeld (Or.inl ⟨by rfl, fun w' hSw => by (try dsimp only at hSw); (try subst hSw); go_simp⟩) ?_
      simp only [Act.put, List.setIfInBounds_toArray, List.set_cons_zero, List.set_cons_succ]
      refine held_take 10 (.int .u32 (v1 : Int)) rfl (by kernel_rfl) (by kernel_rfl) (by kernel_rfl) (fun _ _ _ h => h) hHeld (Or.inl ⟨by rfl, fun w' hSw => by (try dsimp only at hSw); (try subst hSw); go_simp⟩) ?_
      simp only [Act.put, List.setIfInBounds_toArray, List.set_cons_zero, List.set_cons_succ]
      refine held_take 11 (.agg #[.int .u32 (v0 : Int), .int .u32 (v1 : Int)]) rfl (by kernel_rfl) (by kernel_rfl) (by kernel_rfl) (fun _ _ _ h => h) hHeld (Or.inl ⟨by rfl, fun w' hSw => by (try dsimp only at hSw); (try subst hSw); go_simp⟩) ?_
      simp only [Act.put, List.setIfInBounds_toArray, List.set_cons_zero, List.set_cons_succ]
      refine held_step2 1 12 rfl rfl (by kernel_rfl) (fun K hK => ?_) (fun K hK => ?_)
      · have cl : wr.drew.cell? ⟨gl, 6, none⟩ = some vh := bl.out.cell 6
        go_simp
        go_wp2_with fail
        refine hK.out _ _ (KS.out _ hk.drew) (fun hHeld => ?_)
        clear hK K
        clear cl
        refine held_step 12 rfl (by kernel_rfl) (fun K hK => ?_)
        go_simp
        go_wp2_with fail
        refine hK.out _ _ (KS.out _ (hk.drew.alloc _)) (fun hHeld => ?_)
        clear hK K
        have hk2 : Only [] wr (wr.drew.alloc (.cells #[.int .u32 (v0 : Int), .int .u32 (v1 : Int)] 91)) := ((Only.refl [] wr).drew).alloc _
        have hoa := ownsRow_kept' hown.out (hk2 : Only [] wr (wr.drew.alloc (.cells #[.int .u32 (v0 : Int), .int .u32 (v1 : Int)] 91))) (by simp)
        have bla := bl.out.kept hk2 (by simp)
        have b5 : Blk (wr.drew.alloc (.cells #[.int .u32 (v0 : Int), .int .u32 (v1 : Int)] 91)) wr.heap.size 91 (holE ⟨(v0 : Int), (v1 : Int)⟩).toArray := Blk.new wr.drew 91 (holE ⟨(v0 : Int), (v1 : Int)⟩).toArray
        refine held_step 13 rfl (by kernel_rfl) (fun K hK => ?_)
        refine step_push rfl _ _ 43 rfl 91 _ 8 holE_length (by decide) holE_one Tryz.underlying43 info_hol rfl vh PL.length PL rfl hoa wr.heap.size ⟨(v0 : Int), (v1 : Int)⟩ 91 rfl b5 (by unfold maxLen; have := hpn.out; omega) (by have := hpn.out; omega) ?_
        intro vv w6 h6 g6 a6
        have ko := only_own g6
        have hng : ∀ z, z < w2.heap.size → z ∉ vh.ownBlock.toList := fun z hz hm => by { have := hnew.out z (by simpa using hm); omega }
        have k6 : Only [gl] w2 w6 := ((hk.drew.alloc (.cells #[.int .u32 (v0 : Int), .int .u32 (v1 : Int)] 91)).then ko (fun i hi => .inr (hnew.out i (by simpa using hi))))
        have b6 := bla.kept ko (hng gl hgo.out)
        have hnew6 : ∀ g, vv.ownBlock = some g → w2.heap.size ≤ g := fun g hg => by
          rcases a6 with a6 | a6
          · exact hnew.out g (by rw [← a6]; exact hg)
          · rw [a6] at hg; injection hg with hg; have := hk.size; simp at hg; omega
        obtain ⟨gv, cv, rfl, _, _⟩ := h6.form (by omega)
        refine hK.out _ _ (KS.out _ k6) (fun hHeld => ?_)
        clear hK K g6 a6 hoa bla b5 ko
        have cq := b6.cell 6
        have fq := b6.free 6
        simp only [List.getElem?_toArray, List.getElem?_cons_zero, List.getElem?_cons_succ] at cq
        simp only [Act.put, List.setIfInBounds_toArray, List.set_cons_zero, List.set_cons_succ]
        refine held_take 14 (.pointer (some ⟨gl, 6, none⟩)) rfl (by kernel_rfl) (by kernel_rfl) (by kernel_rfl) (fun _ _ _ h => h) hHeld (Or.inl ⟨by rfl, fun w' hSw => by (try dsimp only at hSw); (try subst hSw); go_simp⟩) ?_
        simp only [Act.put, List.setIfInBounds_toArray, List.set_cons_zero, List.set_cons_succ]
        refine held_step 15 rfl (by kernel_rfl) (fun K hK => ?_)
        go_simp
        have b7 := b6.set 6 (.slice (some ⟨gv, 0, none⟩) (PL.length + 1) cv)
        have k7 : Only [gl] w2 (w6.setCell ⟨gl, 6, none⟩ (.slice (some ⟨gv, 0, none⟩) (PL.length + 1) cv)) := k6.then (Only.set w6 [gl] (by simp) _) (fun i hi => .inl hi)
        have h7 := ownsRow_kept' h6 (Only.set w6 [gl] (p := gl) (i := 6) (by simp) (.slice (some ⟨gv, 0, none⟩) (PL.length + 1) cv)) (fun g hg => by { have := hnew6 g hg; have := hgo.out; simp; omega })
        refine hK.out _ _ (KS.out _ k7) (fun hHeld => ?_)
        clear hK K
        refine wpAnyH_done (by kernel_rfl) ?_ _
        clear hHeld
        have hfin : PM = PL ++ [⟨(v0 : Int), (v1 : Int)⟩] := hps.out
        have hrel7 : (w6.setCell ⟨gl, 6, none⟩ (.slice (some ⟨gv, 0, none⟩) (PL.length + 1) cv)).ownsRow 0 91 2 (.slice (some ⟨gv, 0, none⟩) (PL.length + 1) cv) PM.length (encs holE PM) := by rw [hfin, List.length_append]; exact h7
        replace hrel7 := Lib.hid hrel7
        clear h7 h6 cq fq b6 hfin
        go_wp2_with fail
        go_roundw
        case rel => exact ⟨n + 1, _, by { have := hm.out; first | (go_num; done) | (go_num; omega) }, hmea.out, b7, by { rw [hPM.out]; exact hrel7.out }, Lib.hid hnew6, k7⟩
        case measure => have := hm.out; simp [intOf]; omega
      · go_simp
        go_wp2_with fail
        refine hK.out _ _ (KS.out _ (hk.drew.alloc _)) (fun hHeld => ?_)
        clear hK K
        have hk2 : Only [] wr (wr.drew.alloc (.cells #[.int .u32 (v0 : Int), .int .u32 (v1 : Int)] 91)) := ((Only.refl [] wr).drew).alloc _
        have cl : (wr.alloc (.cells #[.int .u32 (v0 : Int), .int .u32 (v1 : Int)] 91)).cell? ⟨gl, 6, none⟩ = some vh := (bl.out.kept hk2 (by simp)).cell 6
        refine held_step 1 rfl (by kernel_rfl) (fun K hK => ?_)
        go_simp
        go_wp2_with fail
        refine hK.out _ _ (KS.out _ (hk.drew.alloc _)) (fun hHeld => ?_)
        clear hK K
        clear cl
        have hoa := ownsRow_kept' hown.out (hk2 : Only [] wr (wr.drew.alloc (.cells #[.int .u32 (v0 : Int), .int .u32 (v1 : Int)] 91))) (by simp)
        have bla := bl.out.kept hk2 (by simp)
        have b5 : Blk (wr.drew.alloc (.cells #[.int .u32 (v0 : Int), .int .u32 (v1 : Int)] 91)) wr.heap.size 91 (holE ⟨(v0 : Int), (v1 : Int)⟩).toArray := Blk.new wr.drew 91 (holE ⟨(v0 : Int), (v1 : Int)⟩).toArray
        refine held_step 13 rfl (by kernel_rfl) (fun K hK => ?_)
        refine step_push rfl _ _ 43 rfl 91 _ 8 holE_length (by decide) holE_one Tryz.underlying43 info_hol rfl vh PL.length PL rfl hoa wr.heap.size ⟨(v0 : Int), (v1 : Int)⟩ 91 rfl b5 (by unfold maxLen; have := hpn.out; omega) (by have := hpn.out; omega) ?_
        intro vv w6 h6 g6 a6
        have ko := only_own g6
        have hng : ∀ z, z < w2.heap.size → z ∉ vh.ownBlock.toList := fun z hz hm => by { have := hnew.out z (by simpa using hm); omega }
        have k6 : Only [gl] w2 w6 := ((hk.drew.alloc (.cells #[.int .u32 (v0 : Int), .int .u32 (v1 : Int)] 91)).then ko (fun i hi => .inr (hnew.out i (by simpa using hi))))
        have b6 := bla.kept ko (hng gl hgo.out)
        have hnew6 : ∀ g, vv.ownBlock = some g → w2.heap.size ≤ g := fun g hg => by
          rcases a6 with a6 | a6
          · exact hnew.out g (by rw [← a6]; exact hg)
          · rw [a6] at hg; injection hg with hg; have := hk.size; simp at hg; omega
        obtain ⟨gv, cv, rfl, _, _⟩ := h6.form (by omega)
        refine hK.out _ _ (KS.out _ k6) (fun hHeld => ?_)
        clear hK K g6 a6 hoa bla b5 ko
        have cq := b6.cell 6
        have fq := b6.free 6
        simp only [List.getElem?_toArray, List.getElem?_cons_zero, List.getElem?_cons_succ] at cq
        simp only [Act.put, List.setIfInBounds_toArray, List.set_cons_zero, List.set_cons_succ]
        refine held_take 14 (.pointer (some ⟨gl, 6, none⟩)) rfl (by kernel_rfl) (by kernel_rfl) (by kernel_rfl) (fun _ _ _ h => h) hHeld (Or.inl ⟨by rfl, fun w' hSw => by (try dsimp only at hSw); (try subst hSw); go_simp⟩) ?_
        simp only [Act.put, List.setIfInBounds_toArray, List.set_cons_zero, List.set_cons_succ]
        refine held_step 15 rfl (by kernel_rfl) (fun K hK => ?_)
        go_simp
        have b7 := b6.set 6 (.slice (some ⟨gv, 0, none⟩) (PL.length + 1) cv)
        have k7 : Only [gl] w2 (w6.setCell ⟨gl, 6, none⟩ (.slice (some ⟨gv, 0, none⟩) (PL.length + 1) cv)) := k6.then (Only.set w6 [gl] (by simp) _) (fun i hi => .inl hi)
        have h7 := ownsRow_kept' h6 (Only.set w6 [gl] (p := gl) (i := 6) (by simp) (.slice (some ⟨gv, 0, none⟩) (PL.length + 1) cv)) (fun g hg => by { have := hnew6 g hg; have := hgo.out; simp; omega })
        refine hK.out _ _ (KS.out _ k7) (fun hHeld => ?_)
        clear hK K
        refine wpAnyH_done (by kernel_rfl) ?_ _
        clear hHeld
        have hfin : PM = PL ++ [⟨(v0 : Int), (v1 : Int)⟩] := hps.out
        have hrel7 : (w6.setCell ⟨gl, 6, none⟩ (.slice (some ⟨gv, 0, none⟩) (PL.length + 1) cv)).ownsRow 0 91 2 (.slice (some ⟨gv, 0, none⟩) (PL.length + 1) cv) PM.length (encs holE PM) := by rw [hfin, List.length_append]; exact h7
        replace hrel7 := Lib.hid hrel7
        clear h7 h6 cq fq b6 hfin
        go_wp2_with fail
        go_roundw
        case rel => exact ⟨n + 1, _, by { have := hm.out; first | (go_num; done) | (go_num; omega) }, hmea.out, b7, by { rw [hPM.out]; exact hrel7.out }, Lib.hid hnew6, k7⟩
        case measure => have := hm.out; simp [intOf]; omega
    have hfin : pairsH (l.take (2 * n)) = pairsH l := pairs_done n l (by omega)
    rw [hfin] at hown
    have h8p : (pairsH l).length ≤ 8 := by have := hpl.out; have := h8.out; omega
    obtain ⟨HA, hc5, rfl, hcap, hels⟩ := owns_shape hown
    have hgo : Hid (gl < w2.heap.size) := Lib.hid (by omega)
    have KR : Hid (∀ W, Only [] wr W → W.rangeAt gl 0 [.int .u32 ((y0 : Nat) : Int), .int .u32 ((y1 : Nat) : Int), .int .u32 ((y2 : Nat) : Int), .int .u32 ((y3 : Nat) : Int), .bool y4, .bool y5, .slice HA (pairsH l).length hc5]) := fun W kW => Blk.range9 (bl.kept kW (by simp))
    have kt : Only [kp, vp] w wr := kk.then hk (fun i hi => by simp at hi; subst hi; exact .inr hgl)
    have hb0 := hx.out.kept kt hgx
    have KT : Hid (∀ W, Only [] wr W → W.cell? ⟨gx, 4, none⟩ = some kv) := fun W kW => (hb0.kept kW (by simp)).cell 4
    have hR0 := hL.out.reach ho.out kt ha.out hc.out
    have KX : Hid (∀ W, Only [] wr W → (pairsH l).length ≤ hc5 ∧ (pairsH l).length ≤ 1048576 ∧ (pairsH l = [] ∨ ∃ g o, HA = some ⟨g, o, none⟩ ∧ g < W.heap.size ∧ ElsAt holE 2 W g o (pairsH l) ∧ b.w.heap.size ≤ g ∧ some g ∉ owns6 gx tv ov kv wv sv)) := fun W kW => by
      refine ⟨hcap, by omega, ?_⟩
      rcases hels with h0 | ⟨g, e1, e2, e3, e4⟩
      · exact .inl h0
      · refine .inr ⟨g, 0, e1, Nat.lt_of_lt_of_le e2 kW.size, e3.kept kW (by simp), ?_, fun hm => ?_⟩
        · have h1 := hnew.out g e4
          have h2 := hL.out.mt.only.size
          have h3 := ho.out.size
          have h4 := kk.size
          omega
        · have h1 := hnew.out g e4
          have h2 := hL.out.lt g hm
          have h3 := ho.out.size
          have h4 := kk.size
          omega
    have KN : Hid (gl ∉ kv.ownBlock.toList) := fun hm => by
      have e : kv.ownBlock = some gl := by simpa using hm
      have h2 := hL.out.lt gl (by simp [owns6, e])
      have h3 := ho.out.size
      omega
    have dlt : ¬ ((2 * n + 1 : Nat) : Int) < (l.length : Int) := by omega
    generalize pairsH l = PL at *
    generalize ((2 * n + 1 : Nat) : Int) = iv at *
    replace hn := Lib.hid hn
    replace hlt := Lib.hid hlt
    replace hfin := Lib.hid hfin
    replace hown := Lib.hid hown
    replace bl := Lib.hid bl
    replace hels := Lib.hid hels
    replace hb0 := Lib.hid hb0
    replace hR0 := Lib.hid hR0
    replace kt := Lib.hid kt
    have hgg : Hid (gl ≠ gx) := Lib.hid hks2.out.2.2.1
    go_wp2_with fail
    refine wp_region_held_drew (S := fun w' => w'.rangeAt gl 0 [.int .u32 ((y0 : Nat) : Int), .int .u32 ((y1 : Nat) : Int), .int .u32 ((y2 : Nat) : Int), .int .u32 ((y3 : Nat) : Int), .bool y4, .bool y5, .slice HA PL.length hc5]) (by kernel_rfl) (KR.out _ (Only.refl _ _).drew) (fun hHeld => ?_)
    refine held_take 0 (.pointer (some ⟨gx, 0, none⟩)) rfl (by kernel_rfl) (by kernel_rfl) (by kernel_rfl) (fun _ _ _ h => h) hHeld (Or.inl ⟨by rfl, fun w' hSw => by (try dsimp only at hSw); (try subst hSw); go_simp⟩) ?_
    simp only [Act.put, List.setIfInBounds_toArray, List.set_cons_zero, List.set_cons_succ]
    refine held_take 1 (.pointer (some ⟨gx, 0, none⟩)) rfl (by kernel_rfl) (by kernel_rfl) (by kernel_rfl) (fun _ _ _ h => h) hHeld (Or.inl ⟨by rfl, fun w' hSw => by (try dsimp only at hSw); (try subst hSw); go_simp⟩) ?_
    simp only [Act.put, List.setIfInBounds_toArray, List.set_cons_zero, List.set_cons_succ]
    refine held_take 2 (.pointer (some ⟨gx, 0, none⟩)) rfl (by kernel_rfl) (by kernel_rfl) (by kernel_rfl) (fun _ _ _ h => h) hHeld (Or.inl ⟨by rfl, fun w' hSw => by (try dsimp only at hSw); (try subst hSw); go_simp⟩) ?_
    simp only [Act.put, List.setIfInBounds_toArray, List.set_cons_zero, List.set_cons_succ]
    refine held_take 3 (.pointer (some ⟨gx, 0, none⟩)) rfl (by kernel_rfl) (by kernel_rfl) (by kernel_rfl) (fun _ _ _ h => h) hHeld (Or.inl ⟨by rfl, fun w' hSw => by (try dsimp only at hSw); (try subst hSw); go_simp⟩) ?_
    simp only [Act.put, List.setIfInBounds_toArray, List.set_cons_zero, List.set_cons_succ]
    refine held_take 4 (.pointer (some ⟨gx, 4, none⟩)) rfl (by kernel_rfl) (by kernel_rfl) (by kernel_rfl) (fun _ _ _ h => h) hHeld (Or.inl ⟨by rfl, fun w' hSw => by (try dsimp only at hSw); (try subst hSw); go_simp⟩) ?_
    simp only [Act.put, List.setIfInBounds_toArray, List.set_cons_zero, List.set_cons_succ]
    refine held_take 6 (.agg ([.int .u32 ((y0 : Nat) : Int), .int .u32 ((y1 : Nat) : Int), .int .u32 ((y2 : Nat) : Int), .int .u32 ((y3 : Nat) : Int), .bool y4, .bool y5, .slice HA PL.length hc5]).toArray) rfl (by kernel_rfl) (by kernel_rfl) (by kernel_rfl) (fun _ _ _ h => h) hHeld (Or.inl ⟨by rfl, fun w' hSw => ev_load 45 _ rfl gl 0 rfl [.int .u32 ((y0 : Nat) : Int), .int .u32 ((y1 : Nat) : Int), .int .u32 ((y2 : Nat) : Int), .int .u32 ((y3 : Nat) : Int), .bool y4, .bool y5, .slice HA PL.length hc5] _ hSw Tryz.underlying45 rfl size_lk⟩) ?_
    simp only [Act.put, List.setIfInBounds_toArray, List.set_cons_zero, List.set_cons_succ]
    refine held_step2 5 7 rfl rfl (by kernel_rfl) (fun K hK => ?_) (fun K hK => ?_)
    · have cl : wr.cell? ⟨gx, 4, none⟩ = some kv := KT.out _ (Only.refl _ _)
      go_simp
      go_wp2_with fail
      refine hK.out _ _ (KR.out _ (Only.refl _ _).drew) (fun hHeld => ?_)
      clear hK K
      clear cl
      refine held_step 7 rfl (by kernel_rfl) (fun K hK => ?_)
      go_simp
      go_wp2_with fail
      refine hK.out _ _ (KR.out _ (((Only.refl _ _).drew).alloc _)) (fun hHeld => ?_)
      clear hK K
      have hk6 : Only [] wr (wr.drew.alloc (.cells #[.int .u32 ((y0 : Nat) : Int), .int .u32 ((y1 : Nat) : Int), .int .u32 ((y2 : Nat) : Int), .int .u32 ((y3 : Nat) : Int), .bool y4, .bool y5, .slice HA PL.length hc5] 45)) := ((Only.refl [] wr).drew).alloc _
      have hRa := hR0.out.keep hk6 (by simp)
      have bRa := hb0.out.kept hk6 (by simp)
      have pRa := KR.out _ hk6
      have b5 : Blk (wr.drew.alloc (.cells #[.int .u32 ((y0 : Nat) : Int), .int .u32 ((y1 : Nat) : Int), .int .u32 ((y2 : Nat) : Int), .int .u32 ((y3 : Nat) : Int), .bool y4, .bool y5, .slice HA PL.length hc5] 45)) wr.heap.size 45 (lvE (⟨⟨((y0 : Nat) : Int), ((y1 : Nat) : Int), ((y2 : Nat) : Int), ((y3 : Nat) : Int), y4, y5, PL⟩, HA, hc5⟩ : Lv)).toArray := Blk.new wr.drew 45 (lvE (⟨⟨((y0 : Nat) : Int), ((y1 : Nat) : Int), ((y2 : Nat) : Int), ((y3 : Nat) : Int), y4, y5, PL⟩, HA, hc5⟩ : Lv)).toArray
      refine held_step 8 rfl (by kernel_rfl) (fun K hK => ?_)
      refine step_push rfl _ _ 25 rfl 45 _ 48 lvE_length (by decide) lvE_one Tryz.underlying25 info_lk rfl kv lvs.length lvs rfl hRa.ml.own wr.heap.size (⟨⟨((y0 : Nat) : Int), ((y1 : Nat) : Int), ((y2 : Nat) : Int), ((y3 : Nat) : Int), y4, y5, PL⟩, HA, hc5⟩ : Lv) 45 rfl b5 (by unfold maxLen; have := hl.out; omega) (by have := hl.out; omega) ?_
      intro vv w6 h6 g6 a6
      have hL6 := hRa.push_ml h6 g6 a6 (KX.out _ hk6)
      obtain ⟨Av, nv, cv, rfl⟩ : ∃ A n c, vv = Value.slice A n c := by { obtain ⟨A, c, h, _⟩ := hL6.ml.shape lvE_length; exact ⟨A, _, c, h⟩ }
      have b6 := bRa.kept (only_own g6) (hRa.apart 2 rfl)
      have p6 : w6.rangeAt gl 0 [.int .u32 ((y0 : Nat) : Int), .int .u32 ((y1 : Nat) : Int), .int .u32 ((y2 : Nat) : Int), .int .u32 ((y3 : Nat) : Int), .bool y4, .bool y5, .slice HA PL.length hc5] := fun j v hj => (only_own g6).cell (pRa j v hj) KN.out
      refine hK.out _ _ p6 (fun hHeld => ?_)
      clear hK K h6 g6 a6 hRa bRa b5
      have cq := b6.cell 4
      have fq := b6.free 4
      simp only [ldA, List.getElem?_toArray, List.getElem?_cons_zero, List.getElem?_cons_succ] at cq
      simp only [Act.put, List.setIfInBounds_toArray, List.set_cons_zero, List.set_cons_succ]
      refine held_take 9 (.pointer (some ⟨gx, 0, none⟩)) rfl (by kernel_rfl) (by kernel_rfl) (by kernel_rfl) (fun _ _ _ h => h) hHeld (Or.inl ⟨by rfl, fun w' hSw => by (try dsimp only at hSw); (try subst hSw); go_simp⟩) ?_
      simp only [Act.put, List.setIfInBounds_toArray, List.set_cons_zero, List.set_cons_succ]
      refine held_take 10 (.pointer (some ⟨gx, 0, none⟩)) rfl (by kernel_rfl) (by kernel_rfl) (by kernel_rfl) (fun _ _ _ h => h) hHeld (Or.inl ⟨by rfl, fun w' hSw => by (try dsimp only at hSw); (try subst hSw); go_simp⟩) ?_
      simp only [Act.put, List.setIfInBounds_toArray, List.set_cons_zero, List.set_cons_succ]
      refine held_take 11 (.pointer (some ⟨gx, 4, none⟩)) rfl (by kernel_rfl) (by kernel_rfl) (by kernel_rfl) (fun _ _ _ h => h) hHeld (Or.inl ⟨by rfl, fun w' hSw => by (try dsimp only at hSw); (try subst hSw); go_simp⟩) ?_
      simp only [Act.put, List.setIfInBounds_toArray, List.set_cons_zero, List.set_cons_succ]
      refine held_step 12 rfl (by kernel_rfl) (fun K hK => ?_)
      go_simp
      have b7 := b6.set 4 (.slice Av nv cv)
      have p7 : (w6.setCell ⟨gx, 4, none⟩ (.slice Av nv cv)).rangeAt gl 0 [.int .u32 ((y0 : Nat) : Int), .int .u32 ((y1 : Nat) : Int), .int .u32 ((y2 : Nat) : Int), .int .u32 ((y3 : Nat) : Int), .bool y4, .bool y5, .slice HA PL.length hc5] := fun j v hj => (Only.set w6 [gx] (p := gx) (i := 4) (by simp) (.slice Av nv cv)).cell (p6 j v hj) (by simp; exact hgg.out)
      refine hK.out _ _ p7 (fun hHeld => ?_)
      clear hK K
      refine wpAnyH_done (by kernel_rfl) ?_ _
      clear hHeld
      go_wp2
      go_end0
      refine ⟨rfl, ?_⟩
      rw [hres.out]
      exact ⟨_, _, _, _, _, _, _, _, _, _, _, hL6.keep (Only.set w6 [gx] (by simp) (.slice Av nv cv)) (by simp), b7⟩
    · go_simp
      go_wp2_with fail
      refine hK.out _ _ (KR.out _ (((Only.refl _ _).drew).alloc _)) (fun hHeld => ?_)
      clear hK K
      have cl : (wr.alloc (.cells #[.int .u32 ((y0 : Nat) : Int), .int .u32 ((y1 : Nat) : Int), .int .u32 ((y2 : Nat) : Int), .int .u32 ((y3 : Nat) : Int), .bool y4, .bool y5, .slice HA PL.length hc5] 45)).cell? ⟨gx, 4, none⟩ = some kv := KT.out _ ((Only.refl _ _).alloc _)
      refine held_step 5 rfl (by kernel_rfl) (fun K hK => ?_)
      go_simp
      go_wp2_with fail
      refine hK.out _ _ (KR.out _ (((Only.refl _ _).drew).alloc _)) (fun hHeld => ?_)
      clear hK K
      clear cl
      have hk6 : Only [] wr (wr.drew.alloc (.cells #[.int .u32 ((y0 : Nat) : Int), .int .u32 ((y1 : Nat) : Int), .int .u32 ((y2 : Nat) : Int), .int .u32 ((y3 : Nat) : Int), .bool y4, .bool y5, .slice HA PL.length hc5] 45)) := ((Only.refl [] wr).drew).alloc _
      have hRa := hR0.out.keep hk6 (by simp)
      have bRa := hb0.out.kept hk6 (by simp)
      have pRa := KR.out _ hk6
      have b5 : Blk (wr.drew.alloc (.cells #[.int .u32 ((y0 : Nat) : Int), .int .u32 ((y1 : Nat) : Int), .int .u32 ((y2 : Nat) : Int), .int .u32 ((y3 : Nat) : Int), .bool y4, .bool y5, .slice HA PL.length hc5] 45)) wr.heap.size 45 (lvE (⟨⟨((y0 : Nat) : Int), ((y1 : Nat) : Int), ((y2 : Nat) : Int), ((y3 : Nat) : Int), y4, y5, PL⟩, HA, hc5⟩ : Lv)).toArray := Blk.new wr.drew 45 (lvE (⟨⟨((y0 : Nat) : Int), ((y1 : Nat) : Int), ((y2 : Nat) : Int), ((y3 : Nat) : Int), y4, y5, PL⟩, HA, hc5⟩ : Lv)).toArray
      refine held_step 8 rfl (by kernel_rfl) (fun K hK => ?_)
      refine step_push rfl _ _ 25 rfl 45 _ 48 lvE_length (by decide) lvE_one Tryz.underlying25 info_lk rfl kv lvs.length lvs rfl hRa.ml.own wr.heap.size (⟨⟨((y0 : Nat) : Int), ((y1 : Nat) : Int), ((y2 : Nat) : Int), ((y3 : Nat) : Int), y4, y5, PL⟩, HA, hc5⟩ : Lv) 45 rfl b5 (by unfold maxLen; have := hl.out; omega) (by have := hl.out; omega) ?_
      intro vv w6 h6 g6 a6
      have hL6 := hRa.push_ml h6 g6 a6 (KX.out _ hk6)
      obtain ⟨Av, nv, cv, rfl⟩ : ∃ A n c, vv = Value.slice A n c := by { obtain ⟨A, c, h, _⟩ := hL6.ml.shape lvE_length; exact ⟨A, _, c, h⟩ }
      have b6 := bRa.kept (only_own g6) (hRa.apart 2 rfl)
      have p6 : w6.rangeAt gl 0 [.int .u32 ((y0 : Nat) : Int), .int .u32 ((y1 : Nat) : Int), .int .u32 ((y2 : Nat) : Int), .int .u32 ((y3 : Nat) : Int), .bool y4, .bool y5, .slice HA PL.length hc5] := fun j v hj => (only_own g6).cell (pRa j v hj) KN.out
      refine hK.out _ _ p6 (fun hHeld => ?_)
      clear hK K h6 g6 a6 hRa bRa b5
      have cq := b6.cell 4
      have fq := b6.free 4
      simp only [ldA, List.getElem?_toArray, List.getElem?_cons_zero, List.getElem?_cons_succ] at cq
      simp only [Act.put, List.setIfInBounds_toArray, List.set_cons_zero, List.set_cons_succ]
      refine held_take 9 (.pointer (some ⟨gx, 0, none⟩)) rfl (by kernel_rfl) (by kernel_rfl) (by kernel_rfl) (fun _ _ _ h => h) hHeld (Or.inl ⟨by rfl, fun w' hSw => by (try dsimp only at hSw); (try subst hSw); go_simp⟩) ?_
      simp only [Act.put, List.setIfInBounds_toArray, List.set_cons_zero, List.set_cons_succ]
      refine held_take 10 (.pointer (some ⟨gx, 0, none⟩)) rfl (by kernel_rfl) (by kernel_rfl) (by kernel_rfl) (fun _ _ _ h => h) hHeld (Or.inl ⟨by rfl, fun w' hSw => by (try dsimp only at hSw); (try subst hSw); go_simp⟩) ?_
      simp only [Act.put, List.setIfInBounds_toArray, List.set_cons_zero, List.set_cons_succ]
      refine held_take 11 (.pointer (some ⟨gx, 4, none⟩)) rfl (by kernel_rfl) (by kernel_rfl) (by kernel_rfl) (fun _ _ _ h => h) hHeld (Or.inl ⟨by rfl, fun w' hSw => by (try dsimp only at hSw); (try subst hSw); go_simp⟩) ?_
      simp only [Act.put, List.setIfInBounds_toArray, List.set_cons_zero, List.set_cons_succ]
      refine held_step 12 rfl (by kernel_rfl) (fun K hK => ?_)
      go_simp
      have b7 := b6.set 4 (.slice Av nv cv)
      have p7 : (w6.setCell ⟨gx, 4, none⟩ (.slice Av nv cv)).rangeAt gl 0 [.int .u32 ((y0 : Nat) : Int), .int .u32 ((y1 : Nat) : Int), .int .u32 ((y2 : Nat) : Int), .int .u32 ((y3 : Nat) : Int), .bool y4, .bool y5, .slice HA PL.length hc5] := fun j v hj => (Only.set w6 [gx] (p := gx) (i := 4) (by simp) (.slice Av nv cv)).cell (p6 j v hj) (by simp; exact hgg.out)
      refine hK.out _ _ p7 (fun hHeld => ?_)
      clear hK K
      refine wpAnyH_done (by kernel_rfl) ?_ _
      clear hHeld
      go_wp2
      go_end0
      refine ⟨rfl, ?_⟩
      rw [hres.out]
      exact ⟨_, _, _, _, _, _, _, _, _, _, _, hL6.keep (Only.set w6 [gx] (by simp) (.slice Av nv cv)) (by simp), b7⟩


end Go.Proofs.YtalkhhjfplahkaaGreat
