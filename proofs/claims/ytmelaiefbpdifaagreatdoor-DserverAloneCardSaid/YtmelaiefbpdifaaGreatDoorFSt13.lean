/- settle: pages become a file's stable object, together with other changes. -/
import Derived.Test.YtmelaiefbpdifaaGreatDoorFRm13
namespace Go.Proofs.YtmelaiefbpdifaaGreatDoor.Srv
open Go.RowKit Go.Maps
open Pgs (Pg pgE pgE_length pgE_one info_pg keyB headB find chgL changes_ok chgL_len chgL_okay)
section
variable {α : Type} {enc : α → List Value} {k : Nat} {w : World} {P : Program}
theorem step_append_any (hk : ∀ x, (enc x).length = k) (h0 : 0 < k) (h1 : ∀ x, ∀ v ∈ enc x, v.oneCell' = true) {ops : Array Oper} {o : Oper} {a : Act} {K : Act → World → Prop} {Q : Exit → Act → World → Prop} {E : Prop} (hgd : o.guard = none) (s y : Operand) (t : TypeId)
  (ho : o.op = .call { callee := .builtin .append, args := #[s, y], argTypes := #[t, t] })
  (e : TypeId) (z : Value) (bytes : Nat) (ht : P.underlying t = some (.slice e)) (hinfo : (P.info? e).map (fun i => (i.zero, i.size, i.bytes)) = some (some z, k, bytes)) (hzs : z.cells.size = k)
  (v : Value) (n : Nat) (xs : List α) (hs : a.eval s = v) (hown : w.ownsRow 0 e k v n (encs enc xs))
  (A : Option Addr) (c m : Nat) (ys : List α) (hm : m = ys.length) (hx : a.eval y = .slice A m c) (hsrc : Els enc k w A ys)
  (h63 : n + ys.length ≤ maxLen) (hbytes : (n + ys.length) * bytes ≤ 140737488355328)
  (h : ∀ v' w', w'.ownsRow 0 e k v' (n + ys.length) (encs enc (xs ++ ys)) → w.grownBy w' v.ownBlock → (v'.ownBlock = v.ownBlock ∨ v'.ownBlock = some w.heap.size) → K (a.put o.dst v') w') :
  if Region.wanted o (yielded ops a.tmps) = true then Oper.wp P o a w K Q else E := by
 subst hm
 have hw : Region.wanted o (yielded ops a.tmps) = true := by simp [Region.wanted, hgd]
 rw [if_pos hw]
 obtain ⟨i, hi, hz0, hz1, hz2⟩ := info_parts hinfo
 rcases hsrc with hnil | ⟨g, p, rfl, hg, hat⟩
 ·subst hnil
  have hsrc : Src P i.size t (.slice A 0 c) 0 [] w := by
   cases A with
   | none => exact Src.ofNil w ht c
   | some a => exact Src.ofSlice w ht a 0 c [] (by simp) (fun j u hj => by simp at hj) (fun _ h => by cases h)
  have hrun : (Builtin.append_ #[t, t] o.type #[v, .slice A 0 c]).run P w = .ok v w := by
   rcases id hown.2 with ⟨rfl, rfl⟩ | ⟨g, cap, cur, rfl, _, _, hnc, _⟩
   ·exact run_append_nothing w t t o.type e i ht hi none 0 0 (Nat.le_refl _) _ hsrc
   ·exact run_append_nothing w t t o.type e i ht hi _ n cap hnc _ hsrc
  simp only [List.length_nil] at hx
  unfold Oper.wp execOp
  simp only [ho, resolve, invoke, builtin, Sem.run_bind, Sem.run_pure, Result.andThen_ok, List.map_toArray, List.map_cons, List.map_nil, hs, hx, hrun]
  exact h v w (by simpa using hown) (World.grownBy.refl _ _) (.inl rfl)
 ·obtain ⟨v', w', hrun, h2, h3, _, h4⟩ := run_append_own_at (P := P) w 0 t o.type e i z k bytes ht hi hz0 hz1 hz2 hzs h0 v n (encs enc xs) hown ⟨g, p, none⟩ ys.length c (encs enc ys) (encs_length hk ys) (els_news hk h0 hat) (encs_one h1 ys) h63 hbytes (Nat.zero_le _)
  rw [← encs_append] at h2
  unfold Oper.wp execOp
  simp only [ho, resolve, invoke, builtin, Sem.run_bind, Sem.run_pure, Result.andThen_ok, List.map_toArray, List.map_cons, List.map_nil, hs, hx, hrun]
  exact h v' w' h2 h3 h4
end
theorem Mine.appended {α : Type} {enc : α → List Value} {k : Nat} {e : TypeId} {w w1 w2 : World} {v v' : Value} {l ys : List α} (h : Mine enc k e w w1 v l) (h1 : w2.ownsRow 0 e k v' (l.length + ys.length) (encs enc (l ++ ys))) (h2 : w1.grownBy w2 v.ownBlock) (h3 : v'.ownBlock = v.ownBlock ∨ v'.ownBlock = some w1.heap.size) : Mine enc k e w w2 v' (l ++ ys) := by
 refine ⟨by rw [List.length_append]; exact h1, fun g hg => ?_, h.only.grown h2 (fun j hj => .inr (h.new j hj))⟩
 rcases h3 with h3 | h3
 ·exact h.new g (by rw [← h3]; exact hg)
 ·rw [h3] at hg
  injection hg with hg
  have := h.only.size
  omega
theorem sure_right (M : List Rw) (x : Nat) : Pgs.right (sureL M x) = true := by
 unfold sureL Pgs.ldL
 split
 ·rename_i h
  unfold Pgs.ldOk at h
  rw [Bool.and_eq_true] at h
  exact h.2
 ·rfl
theorem obj_right {σ : Sv} {c : Nat} (h : σ.Ok c) (x : Nat) : Pgs.right (objL σ x) = true := by
 unfold objL
 cases hl : lookL σ.L x with
 | none => exact sure_right _ _
 | some o => exact (h.loose _ (look_some hl)).1
theorem commits5_len {N : Nat} {M M' : List Rw} {s s' : St} {n n' : Nat} {f' : Bool} {l : List Ch} {x : Int} (h : Commits5 N M s n false l x M' s' n' f') : s'.firm.length = s.firm.length := by
 rcases h with ⟨_, _, _, hs, _⟩ | ⟨_, _, _, _, hs, _⟩ | ⟨_, _, _, _, _, hs, _⟩ | ⟨_, _, _, ss, _, _, hc, _⟩
 ·rw [hs]
 ·rw [hs]
 ·rw [hs]
 ·rcases commits_to hc with hs | ⟨_, hs⟩
  ·rw [hs]
  ·rw [hs, commitW_len]
theorem commits5_good {N : Nat} {M M' : List Rw} {s s' : St} {n n' : Nat} {f' : Bool} {l : List Ch} {x : Int} (hM : Good N M) (h : Commits5 N M s n false l x M' s' n' f') : Good N M' := by
 rcases h with ⟨_, _, rfl, _⟩ | ⟨_, _, _, rfl, _⟩ | ⟨_, _, _, _, rfl, _⟩ | ⟨h1, _, _, ss, hd, _, _, rfl⟩
 ·exact hM
 ·exact hM
 ·exact hM
 ·split
  ·exact good_apply hM (fits_of h1).news news_gone hd
  ·exact hM
def turned (σ : Sv) (x : Nat) (e : Int) (M' : List Rw) : Sv := { σ with M := M', L := if e = 0 then delLo σ.L x else σ.L }
theorem turned_ok {σ : Sv} {c x : Nat} {e : Int} {M' : List Rw} (h : σ.Ok c) (hM : Good σ.N M') : (turned σ x e M').Ok c := by
 unfold turned
 refine ⟨hM, h.few, ?_, ?_, ?_, h.seat, h.me, h.boot⟩
 ·simp only
  split
  ·exact h.uniq.del x
  ·exact h.uniq
 ·intro q hq
  simp only at hq
  split at hq
  ·exact h.loose q (mem_del hq)
  ·exact h.loose q hq
 ·simp only
  split
  ·exact Nat.le_trans (len_del _ _) h.len
  ·exact h.len
def SettledM (w w1 w' : World) (R : List Nat) (sb p : Nat) (σ : Sv) (s : St) (n c x : Nat) (o : List Pg) (ch : List Ch) (e : Ending) : Prop :=
 ∃ er M' s' n' f' R', e = .returned (.int .i64 er) ∧ Commits5 σ.N σ.M s n false (setCh σ.M x o ch) er M' s' n' f' ∧ SrvM w w' R' sb p (turned σ x er M') s' n' f' c ∧ Only R w1 w' ∧ ∀ j ∈ R', j ∈ R ∨ w1.heap.size ≤ j
section
variable {w w1 w8 w9 : World} {R : List Nat} {sb p n c rp mb lp lb : Nat} {σ : Sv} {s : St} {F : List Nat} {vs : Nat → Value} {D : DataW Value}
theorem SrvAt.committed (h : SrvAt w w1 R sb p σ s n false c rp mb lp lb F vs D) (k18 : Only [] w1 w8) {M' : List Rw} {s' : St} {n' : Nat} {f' : Bool} {F' : List Nat} {l : List Ch} {er : Int} (hc : Commits5 σ.N σ.M s n false l er M' s' n' f')
  (h5 : Own5 w w9 F' rp mb lp p s' n' f' M') (k9 : Only (mb :: lp :: F) w8 w9) (hF : ∀ j ∈ F', j ∈ F ∨ w8.heap.size ≤ j) :
  SrvAt w w9 (R ++ F') sb p { σ with M := M' } s' n' f' c rp mb lp lb F' vs D ∧ Only (lb :: mb :: lp :: F) w1 w9 ∧ ∀ j ∈ R ++ F', j ∈ R ∨ w1.heap.size ≤ j := by
 have h8 := h.keep k18
 have hs18 := k18.size
 have hlt : ∀ i ∈ sb :: lb :: rp :: mb :: lp :: F, i < w1.heap.size := fun i hi => (h.new i (h.inR i hi)).2
 have hnF : ∀ i, i < w1.heap.size → i ∉ F → i ∉ F' := fun i hi hn hm => by
  rcases hF i hm with h' | h'
  ·exact hn h'
  ·omega
 have a2 := h.ap2
 have a3 := h.ap3
 simp only [List.mem_cons, not_or] at a2 a3
 have hsbS : sb ∉ mb :: lp :: F := by simp only [List.mem_cons, not_or]; exact ⟨a2.2.1, a2.2.2.1, a2.2.2.2⟩
 have hlbS : lb ∉ mb :: lp :: F := by simp only [List.mem_cons, not_or]; exact ⟨a3.2.1, a3.2.2.1, a3.2.2.2⟩
 refine ⟨⟨h5, h8.hdr.kept k9 hsbS, h8.loose.kept k9 hlbS, fun x o hx => ?_, h.ap1, ?_, ?_, fun i hi => ?_, fun i hi => ?_, ?_, ?_, h.few⟩, ?_, ?_⟩
 ·obtain ⟨A, j, e1, e2, e3, e4⟩ := h8.lists x o hx
  refine ⟨A, j, e1, e2, e3.kept k9 (fun a ha hm => (e4 a ha).2 ?_), fun a ha => ⟨List.mem_append.2 (.inl (e4 a ha).1), ?_⟩⟩
  ·exact List.mem_cons_of_mem _ (List.mem_cons_of_mem _ hm)
  ·have h1 := (e4 a ha).2
   have h2 := (h.new _ (e4 a ha).1).2
   simp only [List.mem_cons, not_or] at h1 ⊢
   exact ⟨h1.1, h1.2.1, h1.2.2.1, h1.2.2.2.1, hnF _ h2 h1.2.2.2.2⟩
 ·simp only [List.mem_cons, not_or]
  exact ⟨a2.1, a2.2.1, a2.2.2.1, hnF _ (hlt sb (by simp)) a2.2.2.2⟩
 ·simp only [List.mem_cons, not_or]
  exact ⟨a3.1, a3.2.1, a3.2.2.1, hnF _ (hlt lb (by simp)) a3.2.2.2⟩
 ·simp only [List.mem_cons] at hi
  rcases hi with rfl | rfl | rfl | rfl | rfl | hi
  ·exact List.mem_append.2 (.inl (h.inR _ (by simp)))
  ·exact List.mem_append.2 (.inl (h.inR _ (by simp)))
  ·exact List.mem_append.2 (.inl (h.inR _ (by simp)))
  ·exact List.mem_append.2 (.inl (h.inR _ (by simp)))
  ·exact List.mem_append.2 (.inl (h.inR _ (by simp)))
  ·exact List.mem_append.2 (.inr hi)
 ·rcases List.mem_append.1 hi with hi | hi
  ·have := h.new i hi
   have := k9.size
   exact ⟨by omega, by omega⟩
  ·exact h5.own.new i hi
 ·rw [commits5_len hc]; exact h.len
 ·have hg := commits5_good h.ok.good hc
  have ho := h.ok
  exact ⟨hg, ho.few, ho.uniq, ho.loose, ho.len, ho.seat, ho.me, ho.boot⟩
 ·exact (k18.more (T := lb :: mb :: lp :: F) (by simp)).then k9 (fun i hi => .inl (List.mem_cons_of_mem _ hi))
 ·intro j hj
  rcases List.mem_append.1 hj with hj | hj
  ·exact .inl hj
  ·rcases hF j hj with h' | h'
   ·exact .inl (h.inR j (by simp [h']))
   ·exact .inr (by omega)
set_option maxRecDepth 100000 in
set_option maxHeartbeats 4000000 in
theorem SrvAt.settle (h : SrvAt w w1 R sb p σ s n false c rp mb lp lb F vs D) (hn : n < 4294967296) (hlate : s.late.length + 200 ≤ 1048576) (x : Int) (y : Nat) (hx : x = y) (hy : y < 4294967296)
  (A : Option Addr) (ca m : Nat) (o : List Pg) (hm : m = o.length) (hA : Els pgE 2 w1 A o) (ho : Pgs.right o = true) (B : Option Addr) (cb m2 : Nat) (ch : List Ch) (hm2 : m2 = ch.length) (hB : Els chE 3 w1 B ch) (hch : ch.length ≤ 1) (hok : okayC ch) :
  Calls Tryz.prog 204 #[.pointer (some ⟨sb, 0, none⟩), .int .u32 x, .slice A m ca, .slice B m2 cb] w1 fun e w' => SettledM w w1 w' R sb p σ s n c y o ch e := by
 obtain ⟨_, _, _, c3, c4⟩ := h.cells
 have hsure := h.sure x y hx hy
 have hchg := fun W (A0 : Option Addr) (k0 : Nat) (hS : Els pgE 2 W A0 (sureL σ.M y)) (hA' : Els pgE 2 W A o) =>
  show Calls Tryz.prog 230 #[.int .u32 x, .slice A0 (sureL σ.M y).length k0, .slice A m ca] W fun e w' => ∃ v, e = .returned (.tuple #[v, .int .i64 0]) ∧ Mine chE 3 133 W w' v (chgL y (sureL σ.M y) o) from by
   rw [hx]; exact changes_ok W A0 A k0 ca _ m y hy _ _ rfl hS (sure_right _ _) hm hA' ho
 have hcm := fun W (k : Only [] w1 W) (A1 : Option Addr) (k1 : Nat) (hE : Els chE 3 W A1 (chgL y (sureL σ.M y) o ++ ch)) (hk1 : (chgL y (sureL σ.M y) o ++ ch).length ≤ k1) =>
  (h.keep k).own.commit A1 k1 (chgL y (sureL σ.M y) o ++ ch) h.len h.ok.good hn hE (fun z hz => by
   rcases List.mem_append.1 hz with hz | hz
   ·exact chgL_okay ho z hz
   ·exact hok z hz) (by have := chgL_len y (sureL σ.M y) o; rw [List.length_append]; omega) hk1 hlate
 have hlen : (chgL y (sureL σ.M y) o).length ≤ 32 := chgL_len _ _ _
 have hset : setCh σ.M y o ch = chgL y (sureL σ.M y) o ++ ch := rfl
 have hsb1 := (h.new sb (h.inR sb (by simp))).2
 have hmbS : sb ∉ mb :: lp :: F := by
  have a2 := h.ap2
  simp only [List.mem_cons, not_or] at a2 ⊢
  exact ⟨a2.2.1, a2.2.2.1, a2.2.2.2⟩
 have h0 := Lib.hid h
 clear h ho hlate hn
 generalize sureL σ.M y = so at *
 generalize chgL y so o = cl at *
 replace hset := Lib.hid hset
 replace hchg := Lib.hid hchg
 replace hcm := Lib.hid hcm
 replace hsure := Lib.hid hsure
 replace hm := Lib.hid hm
 replace hch := Lib.hid hch
 replace hx := Lib.hid hx
 go_enter Tryz.func204, Tryz.ntmps204
 go_wp2_with fail
 refine hsure.out.mono ?_; rintro e w2 ⟨v, rfl, hne⟩
 obtain ⟨A0, k0, rfl, _, hS, k2, _⟩ := hne
 go_wp2_with fail
 refine (hchg.out _ A0 k0 hS (hA.kept k2 (by simp))).mono ?_; rintro e w3 ⟨v3, rfl, hmine⟩
 have k3 := hmine.only
 have k13 := k2.trans k3
 have hlow := Pgs.mine_low hmine
 have hnew := hmine.new
 have hs2 := k2.size
 replace hlow := Lib.hid hlow
 replace hnew := Lib.hid hnew
 go_wp2_with fail
 have kd : Only [] w1 w3.drew := k13.drew
 have hmd : Mine chE 3 133 w2 w3.drew v3 cl := hmine.keep (Only.refl [] w3).drew
 have cd := kd.cell c3 (by simp)
 refine wp_region_held_drew (S := fun w' => w'.cell? ⟨sb, 3, none⟩ = some (.pointer (some ⟨rp, 0, none⟩))) (by kernel_rfl) cd (fun hHeld => ?_)
 generalize w3.drew = wd at *
 refine held_take 0 (.pointer (some ⟨sb, 0, none⟩)) rfl (by kernel_rfl) (by kernel_rfl) (by kernel_rfl) (fun _ _ _ h => h) hHeld (Or.inl ⟨by rfl, fun w' hSw => by (try dsimp only at hSw); (try subst hSw); go_simp⟩) ?_
 simp only [Act.put, List.setIfInBounds_toArray, List.set_cons_zero, List.set_cons_succ]
 refine held_take 1 (.pointer (some ⟨sb, 0, none⟩)) rfl (by kernel_rfl) (by kernel_rfl) (by kernel_rfl) (fun _ _ _ h => h) hHeld (Or.inl ⟨by rfl, fun w' hSw => by (try dsimp only at hSw); (try subst hSw); go_simp⟩) ?_
 simp only [Act.put, List.setIfInBounds_toArray, List.set_cons_zero, List.set_cons_succ]
 refine held_take 2 (.pointer (some ⟨sb, 3, none⟩)) rfl (by kernel_rfl) (by kernel_rfl) (by kernel_rfl) (fun _ _ _ h => h) hHeld (Or.inl ⟨by rfl, fun w' hSw => by (try dsimp only at hSw); (try subst hSw); go_simp⟩) ?_
 simp only [Act.put, List.setIfInBounds_toArray, List.set_cons_zero, List.set_cons_succ]
 refine held_take 3 (.pointer (some ⟨rp, 0, none⟩)) rfl (by kernel_rfl) (by kernel_rfl) (by kernel_rfl) (fun _ _ _ h => h) hHeld (Or.inl ⟨by rfl, fun w' hSw => by (try dsimp only at hSw); (try subst hSw); go_simp⟩) ?_
 simp only [Act.put, List.setIfInBounds_toArray, List.set_cons_zero, List.set_cons_succ]
 refine held_take 4 (v3) rfl (by kernel_rfl) (by kernel_rfl) (by kernel_rfl) (fun _ _ _ h => h) hHeld (Or.inl ⟨by rfl, fun w' hSw => by (try dsimp only at hSw); (try subst hSw); go_simp⟩) ?_
 simp only [Act.put, List.setIfInBounds_toArray, List.set_cons_zero, List.set_cons_succ]
 refine held_take 5 (.slice B m2 cb) rfl (by kernel_rfl) (by kernel_rfl) (by kernel_rfl) (fun _ _ _ h => h) hHeld (Or.inl ⟨by rfl, fun w' hSw => by (try dsimp only at hSw); (try subst hSw); go_simp⟩) ?_
 simp only [Act.put, List.setIfInBounds_toArray, List.set_cons_zero, List.set_cons_succ]
 refine held_step 6 rfl (by kernel_rfl) (fun K hK => ?_)
 refine step_append_any chE_length (by decide) chE_one rfl _ _ 22 rfl 133 _ 40 Tryz.underlying22 info_ch rfl v3 cl.length cl rfl hmd.own B cb m2 ch hm2 rfl (hB.kept kd (by simp)) (by have := hch.out; unfold maxLen; omega) (by have := hch.out; omega) ?_
 intro vv w8 h8 g8 a8
 have hm8 := Mine.appended hmd h8 g8 a8
 have k28 := hm8.only
 have k18 := k2.trans k28
 obtain ⟨A1, k1, rfl, hE, hk1, hn1, _⟩ := hm8.shape chE_length
 have r8 := k18.cell c3 (by simp)
 obtain ⟨q, hq⟩ : ∃ q, q = (cl ++ ch).length := ⟨_, rfl⟩
 rw [← hq]
 replace hq := Lib.hid hq
 go_wp2_with fail
 refine hK.out _ _ r8 (fun hHeld => ?_)
 clear hK K
 refine held_step 7 rfl (by kernel_rfl) (fun K hK => ?_)
 go_simp
 go_at_call 13
 rw [hq.out]
 refine (hcm.out _ k18 A1 k1 hE hk1).mono ?_
 rintro e w9 ⟨er, M', s', n', f', F', rfl, hcom, h5, k9, hF'⟩
 have r9 := k9.cell r8 hmbS
 obtain ⟨hnew9, k19, hR9⟩ := h0.out.committed k18 hcom h5 k9 hF'
 go_wp2_with fail
 refine hK.out _ _ r9 (fun hHeld => ?_)
 clear hK K
 refine held_take 8 (.int .i64 er) rfl (by kernel_rfl) (by kernel_rfl) (by kernel_rfl) (fun _ _ _ h => h) hHeld (Or.inl ⟨by rfl, fun w' hSw => by (try dsimp only at hSw); (try subst hSw); go_simp⟩) ?_
 simp only [Act.put, List.setIfInBounds_toArray, List.set_cons_zero, List.set_cons_succ]
 refine wpAnyH_done (by kernel_rfl) ?_ _
 clear hHeld
 have hcell4 := hnew9.cells.2.2.2.2
 have hloose9 := hnew9.loose
 have hRm : ∀ i ∈ lb :: mb :: lp :: F, i ∈ R := fun i hi => h0.out.inR i (by
  simp only [List.mem_cons] at hi ⊢
  rcases hi with h | h | h | h
  ·exact .inr (.inl h)
  ·exact .inr (.inr (.inr (.inl h)))
  ·exact .inr (.inr (.inr (.inr (.inl h))))
  ·exact .inr (.inr (.inr (.inr (.inr h)))))
 have kR := k19.more (T := R) (fun i hi => .inl (hRm i hi))
 replace hcom := Lib.hid hcom
 replace hnew9 := Lib.hid hnew9
 replace hRm := Lib.hid hRm
 replace kR := Lib.hid kR
 replace hR9 := Lib.hid hR9
 clear hE hk1 hn1 hm8 h8 g8 a8 k28 k18 r8 r9 k9 k19 hF' h5 hmd cd kd k13 k3 k2 hmine hS hA hB hlow hnew c3 c4 hs2 hcm hchg hsure
 by_cases he : er = 0
 ·subst he
  obtain ⟨w10, hrun, r1, r2⟩ := World.ownsMap.drop hloose9.own ukey Tryz.underlying111 (key_u y hy) 0
  have h10 := hloose9.del_data y r1
  have k10 := only_turned r2
  rw [← hx.out] at hrun
  obtain ⟨D10, hD10⟩ : ∃ D10, D10 = D.del (.int .u32 (y : Int)) := ⟨_, rfl⟩
  rw [← hD10] at h10
  clear r1 r2 hD10
  have hfin : SrvAt w w10 (R ++ F') sb p (turned σ y 0 M') s' n' f' c rp mb lp lb F' vs D10 := by
   have h9 := hnew9.out
   have a3 := h9.ap3
   simp only [List.mem_cons, not_or] at a3
   have hkk := h9.only
   refine ⟨⟨h9.own.own.beside k10 (hkk.then k10 (fun i hi => .inr ?_)) (fun i hi hm => ?_), h9.own.rows.kept k10 (by simp; exact fun e => a3.1 e.symm) (by simp; exact fun e => a3.2.1 e.symm), h9.own.ne1, h9.own.ne2, h9.own.ne3, h9.own.out1, h9.own.out2, h9.own.old1, h9.own.old2⟩,
    h9.hdr.kept k10 (by simp; exact h9.ap1), ?_, fun z q hz => ?_, h9.ap1, h9.ap2, h9.ap3, h9.inR, fun i hi => ?_, h9.len, turned_ok h0.out.ok h9.ok.good, h9.few⟩
   ·simp at hi; rw [hi]; exact (h9.new lb (h9.inR lb (by simp))).1
   ·simp at hi; rw [hi] at hm
    rcases List.mem_cons.1 hm with h | h
    ·exact a3.2.2.1 h
    ·exact a3.2.2.2 h
   ·show LooseB w10 lb c (if (0 : Int) = 0 then delLo σ.L y else σ.L) vs D10
    rw [if_pos rfl]
    exact h10
   ·have hz' : lookL (delLo σ.L y) z = some q := by
     have hz2 : lookL (if (0 : Int) = 0 then delLo σ.L y else σ.L) z = some q := hz
     rwa [if_pos rfl] at hz2
    by_cases hzy : z = y
    ·rw [hzy, look_del_same] at hz'; cases hz'
    ·rw [look_del_other hzy] at hz'
     obtain ⟨A2, j, e1, e2, e3, e4⟩ := h9.lists z q hz'
     exact ⟨A2, j, e1, e2, e3.kept k10 (fun a ha hm => by
      simp at hm
      have := (e4 a ha).2
      rw [hm] at this
      simp at this), e4⟩
   ·have := h9.new i hi
    have := k10.size
    exact ⟨by omega, by omega⟩
  have kR2 : Only R w1 w10 := kR.out.then k10 (fun i hi => by simp at hi; rw [hi]; exact .inl (hRm.out lb (by simp)))
  replace hfin := Lib.hid hfin
  replace kR2 := Lib.hid kR2
  clear h10 k10
  go_wp2
  go_ret
  exact ⟨0, M', s', n', f', R ++ F', rfl, by rw [hset.out]; exact hcom.out, ⟨rp, mb, lp, lb, F', vs, D10, hfin.out⟩, kR2.out, hR9.out⟩
 ·have he2 : (er == 0) = false := by rw [beq_eq_false_iff_ne]; exact he
  have hfin : SrvAt w w9 (R ++ F') sb p (turned σ y er M') s' n' f' c rp mb lp lb F' vs D := by
   unfold turned
   rw [if_neg he]
   exact hnew9.out
  replace hfin := Lib.hid hfin
  clear hloose9 hcell4
  go_wp2
  go_ret
  exact ⟨er, M', s', n', f', R ++ F', rfl, by rw [hset.out]; exact hcom.out, ⟨rp, mb, lp, lb, F', vs, D, hfin.out⟩, kR.out, hR9.out⟩
end
end Go.Proofs.YtmelaiefbpdifaaGreatDoor.Srv
