/- The room of a server. -/
import Derived.Test.YtmelaiefbpdifaaGreatDoorFFr13
namespace Go.Proofs.YtmelaiefbpdifaaGreatDoor.Srv
open Go.RowKit Go.Maps
open Pgs (Pg pgE pgE_length pgE_one info_pg keyB headB find under_at)
def RangeL (w : World) (rb lb n : Nat) (D : DataW Value) (left : Lit → Bool) (cnt : Nat) : Prop := w.ranges Tryz.prog 49 heldR lb rb n D left cnt
def CollL (L : List (Nat × List Pg)) (left : Lit → Bool) (done : List (Nat × List Pg)) : Prop := done.Nodup ∧ ∀ q, q ∈ done ↔ (q ∈ L ∧ left (.int .u32 (q.1 : Int)) = false)
theorem Uniq.nodup {L : List (Nat × List Pg)} (h : Uniq L) : L.Nodup := h.imp fun hne e => hne (by rw [e])
theorem CollL.step {L : List (Nat × List Pg)} (hu : Uniq L) {left : Lit → Bool} {done : List (Nat × List Pg)} (h : CollL L left done) {q : Nat × List Pg} (hq : q ∈ L) (hl : left (.int .u32 (q.1 : Int)) = true) : CollL L (fun z => left z && !z.sameKey (.int .u32 (q.1 : Int))) (done ++ [q]) := by
 have hn : q ∉ done := fun hm => by have := ((h.2 q).1 hm).2; rw [hl] at this; cases this
 refine ⟨List.nodup_append.2 ⟨h.1, by simp, fun a ha b hb => by simp at hb; subst hb; exact fun e => hn (e ▸ ha)⟩, fun x => ?_⟩
 rw [List.mem_append, h.2 x, List.mem_singleton]
 simp only [Bool.and_eq_false_iff, Bool.not_eq_false']
 constructor
 ·rintro (⟨h1, h2⟩ | rfl)
  ·exact ⟨h1, .inl h2⟩
  ·exact ⟨hq, .inr (by simp [Lit.sameKey])⟩
 ·rintro ⟨h1, h2 | h2⟩
  ·exact .inl ⟨h1, h2⟩
  ·refine .inr ?_
   have e : x.1 = q.1 := by
    have := WideAt.sameKey_eq h2
    injection this with _ this
    omega
   have e1 := look_mem hu (x := x.1) (o := x.2) h1
   have e2 := look_mem hu (x := q.1) (o := q.2) hq
   rw [e, e2] at e1
   injection e1 with e1
   exact Prod.ext e e1.symm
theorem CollL.perm {L : List (Nat × List Pg)} (hu : Uniq L) {left : Lit → Bool} {done : List (Nat × List Pg)} (h : CollL L left done) (hl : ∀ kl, left kl = false) : done.Perm L := (List.perm_ext_iff_of_nodup h.1 hu.nodup).2 fun q => by rw [h.2 q, hl]; simp
theorem sum_perm {l m : List Nat} (h : l.Perm m) : l.sum = m.sum := by
 induction h with
 | nil => rfl
 | cons x _ ih => simp [ih]
 | swap x y l => simp only [List.sum_cons]; omega
 | trans _ _ h1 h2 => exact h1.trans h2
theorem sumF_perm (M : List Rw) {l m : List (Nat × List Pg)} (h : l.Perm m) : sumF M l = sumF M m := sum_perm (h.map _)
theorem sumF_snoc (M : List Rw) (l : List (Nat × List Pg)) (q : Nat × List Pg) : sumF M (l ++ [q]) = sumF M l + freshN M q.1 q.2 := by simp [sumF]
theorem sumF_le (M : List Rw) : ∀ (l : List (Nat × List Pg)), (∀ q ∈ l, Pgs.right q.2 = true) → sumF M l ≤ 32 * l.length
 | [], _ => Nat.le_refl _
 | q :: r, h => by
  have ih := sumF_le M r fun x hx => h x (by simp [hx])
  have h1 := fresh_le M q.1 q.2
  have h2 := Pgs.right_len (h q (by simp))
  have e : sumF M (q :: r) = freshN M q.1 q.2 + sumF M r := by simp [sumF]
  rw [e, List.length_cons]
  omega
section
variable {w : World} {rb lb n cnt : Nat} {L : List (Nat × List Pg)} {vs : Nat → Value} {D : DataW Value} {left : Lit → Bool}
theorem RangeL.kept {S : List Nat} {w' : World} (h : RangeL w rb lb n D left cnt) (k : Only S w w') (h1 : rb ∉ S) (h2 : lb ∉ S) : RangeL w' rb lb n D left cnt := by
 have l1 : rb < w.heap.size := World.ranges.lt h
 have l2 : lb < w.heap.size := (World.ranges.owns h).lt
 obtain ⟨es, clock, since, seen, c0, hb, F, hs, hD, hr, rest⟩ := h
 exact ⟨es, clock, since, seen, c0, (k.block lb l2 h2).trans hb, F, hs, hD, (k.block rb l1 h1).trans hr, rest⟩
theorem RangeL.left_eq (h : RangeL w rb lb n D left cnt) : w.rangeLeft lb rb = cnt := World.ranges.left_eq h
theorem RangeL.lt (h : RangeL w rb lb n D left cnt) : rb < w.heap.size := World.ranges.lt h
theorem wpList_range_loose {ops : Array Oper} {rest : List Oper} {o : Oper} {a : Act} {Q : Exit → Act → World → Prop} (hg : o.guard = none) (m : Operand) (hop : o.op = Op.range 111 m) (hm : a.eval m = .map (some lb)) (h : LooseB w lb n L vs D)
  (hK : ∀ w', RangeL w' w.heap.size lb n D (has D) (Maps.size D) → Only [] w w' → w'.heap.size = w.heap.size + 1 → wpList Tryz.prog ops Q rest (a.put o.dst (.pointer (some ⟨w.heap.size, 0, none⟩))) w') :
  wpList Tryz.prog ops Q (o :: rest) a w :=
 wpList_range_own w hg m _ hop _ _ ukey Tryz.underlying111 heldR lb n D hm h.own (fun w' h1 h2 h3 => hK w' h1 ⟨h2.os, h2.tape, h2.output, h2.size, fun k hk _ => h2.block k hk (by simp)⟩ h3)
theorem wpList_next_loose {ops : Array Oper} {rest : List Oper} {o : Oper} {a : Act} {Q : Exit → Act → World → Prop} (hg : o.guard = none) (it : Operand) (hop : o.op = Op.next it false) (hit : a.eval it = .pointer (some ⟨rb, 0, none⟩)) (hl : LooseB w lb n L vs D) (h : RangeL w rb lb n D left cnt)
  (hDone : (∀ kl, left kl = false) → wpList Tryz.prog ops Q rest (a.put o.dst (.tuple #[.bool false])) w)
  (hMore : ∀ (x : Nat) (q : List Pg) (w' : World) (cnt' : Nat), x < 4294967296 → lookL L x = some q → left (.int .u32 (x : Int)) = true → RangeL w' rb lb n D (fun z => left z && !z.sameKey (.int .u32 (x : Int))) cnt' → cnt' < cnt → Only [rb] w w' →
   (Instr.entry (.pointer (some ⟨rb, 0, none⟩))).run Tryz.prog w' = .ok (.tuple #[.int .u32 (x : Int), vs x]) w' →
   wpList Tryz.prog ops Q rest (a.put o.dst (.tuple #[.bool true, .int .u32 (x : Int), vs x])) w') :
  wpList Tryz.prog ops Q (o :: rest) a w :=
 wpList_next_ranges (α := Value) (β := Value) w hg it hop 49 ukey heldR id id (fun key _ _ => ⟨key, rfl⟩) (fun v _ _ => ⟨v, rfl⟩) lb rb n D left cnt hit h (fun _ hl => hDone hl)
  (fun x c kl y w' cnt' hkey hlk hv hat hrg hlt hgr _ hen => by
   obtain ⟨z, hx, rfl, hz⟩ := Maps.keyOf_int_inv Tryz.underlying49 hkey
   have hx' : x = .int .u32 z := hx
   have hz2 : 0 ≤ z ∧ z < 4294967296 := by
    simp [Lit.wf, IntKind.min, IntKind.max, IntKind.bits, IntKind.signed] at hz
    omega
   obtain ⟨j, rfl⟩ : ∃ j : Nat, z = j := ⟨z.toNat, by omega⟩
   have hj : j < 4294967296 := by omega
   have hhas := has_true_of_atKey hat
   rw [hl.has j hj] at hhas
   obtain ⟨q, hf⟩ := Option.isSome_iff_exists.1 hhas
   have h1 := hat .nil
   rw [hl.at_ j q hj hf] at h1
   have hv' : heldR c = some y := hv
   unfold heldR at hv'
   injection hv' with hv'
   rw [← hv'] at h1
   simp only [DataW.held.injEq] at h1
   simp only [id] at hen ⊢
   rw [hx', ← h1] at hen ⊢
   exact hMore j q w' cnt' hj hf hlk hrg hlt ⟨hgr.os, hgr.tape, hgr.output, hgr.size, fun k hk hn => hgr.block k hk (fun e => hn (by injection e with e; simp [e]))⟩ hen)
end
section
variable {w w1 : World} {R : List Nat} {sb p n c rp mb lp lb : Nat} {σ : Sv} {s : St} {f : Bool} {F : List Nat} {vs : Nat → Value} {D : DataW Value}
set_option maxRecDepth 100000 in
set_option maxHeartbeats 4000000 in
theorem SrvAt.room (h : SrvAt w w1 R sb p σ s n f c rp mb lp lb F vs D) :
  Calls Tryz.prog 28 #[.pointer (some ⟨sb, 0, none⟩)] w1 fun e w' => e = .returned (.int .i64 (roomI σ)) ∧ Only [] w1 w' := by
 obtain ⟨_, _, _, c3, c4⟩ := h.cells
 have hfew := h.rowsFew
 have hN := h.ok.few
 have hfree := fun W (k : Only [] w1 W) => free_any W rp mb lp p n f F s σ.M (h.own.rows.kept k (by simp) (by simp)) (Blk.kept h.own.own.log k (by simp)) (h.own.own.dev.kept k (by simp)) (by omega)
 rw [show (s.firm.length : Int) - 41 - (σ.M.length : Int) = (σ.N : Int) - (σ.M.length : Int) by have := h.len; omega] at hfree
 have hund := fun W (k : Only [] w1 W) => under_at W rp mb lp σ.M (h.own.rows.kept k (by simp) (by simp)) h.ok.good.sorted (by omega) [69]
 have hu : (underL σ.M [69]).length ≤ 983 := by
  have h1 : (underL σ.M [69]).length ≤ σ.M.length := by unfold underL; rw [List.length_map]; exact List.length_filter_le _ _
  omega
 have hfr := fun W (k : Only [] w1 W) (x : Nat) (hx : x < 4294967296) (o : List Pg) (ho : lookL σ.L x = some o) => show Calls Tryz.prog 70 #[.pointer (some ⟨sb, 0, none⟩), .int .u32 (x : Int), vs x] W fun e w' => e = .returned (.int .i64 (freshN σ.M x o : Int)) ∧ Only [] W w' from by
  obtain ⟨A, j, hv, _, hE, _⟩ := h.lists x o ho
  rw [hv]
  exact fresh_at W sb rp mb lp σ.M (k.cell c3 (by simp)) (h.own.rows.kept k (by simp) (by simp)) x x rfl hx A j o.length o rfl (hE.kept k (by simp)) (h.ok.loose _ (look_some ho)).1
 have hloose := h.loose
 have huniq := h.ok.uniq
 have hrt := h.ok.loose
 have hlen := h.ok.len
 have hc := h.few
 have hcoll : CollL σ.L (has D) [] := by
  refine ⟨List.nodup_nil, fun q => ⟨fun hq => (by cases hq), ?_⟩⟩
  rintro ⟨h1, h2⟩
  rw [hloose.has q.1 (hrt q h1).2, look_mem huniq (o := q.2) h1] at h2
  cases h2
 have hsum := fun (done : List (Nat × List Pg)) (hd : ∀ q ∈ done, q ∈ σ.L) => sumF_le σ.M done fun q hq => (hrt q (hd q hq)).1
 unfold roomI
 have hMl : 0 ≤ (σ.N : Int) - (σ.M.length : Int) ∧ (σ.N : Int) - (σ.M.length : Int) ≤ 1024 := by
  have := h.ok.good.length
  omega
 have hlb : lb < w1.heap.size := hloose.lt
 clear h hfew hN
 generalize (σ.N : Int) - (σ.M.length : Int) = X at *
 have hUl : ((underL σ.M [69]).length : Int) ≤ 983 := by omega
 have hUl0 : 0 ≤ ((underL σ.M [69]).length : Int) := by omega
 replace hrt := Lib.hid hrt
 replace huniq := Lib.hid huniq
 replace hfree := Lib.hid hfree
 replace hund := Lib.hid hund
 replace hfr := Lib.hid hfr
 replace hsum := Lib.hid hsum
 replace hlen := Lib.hid hlen
 replace hc := Lib.hid hc
 clear hu
 obtain ⟨u, hU⟩ : ∃ u, u = (underL σ.M [69]).length := ⟨_, rfl⟩
 rw [← hU] at hUl hUl0
 have hw1 : IntKind.i64.wrap (X - 40) = X - 40 := by rw [IntKind.wrap_i64]; omega
 obtain ⟨Y, hY⟩ : ∃ Y, Y = X - 40 + (u : Int) := ⟨_, rfl⟩
 have hw2 : IntKind.i64.wrap (X - 40 + (u : Int)) = Y := by rw [IntKind.wrap_i64]; omega
 rw [← hU, ← hY]
 replace hU := Lib.hid hU
 have hR0 : -40 ≤ Y ∧ Y ≤ 3000 := by omega
 replace hY := Lib.hid hY
 go_enter Tryz.func28, Tryz.ntmps28
 go_wp2_with fail
 have kd : Only [] w1 w1.drew := (Only.refl [] w1).drew
 have cd := kd.cell c3 (by simp)
 refine wp_region_held_drew (S := fun w' => w'.cell? ⟨sb, 3, none⟩ = some (.pointer (some ⟨rp, 0, none⟩))) (by kernel_rfl) cd (fun hHeld => ?_)
 generalize w1.drew = wd at *
 refine held_take 0 (.pointer (some ⟨sb, 0, none⟩)) rfl (by kernel_rfl) (by kernel_rfl) (by kernel_rfl) (fun _ _ _ h => h) hHeld (Or.inl ⟨by rfl, fun w' hSw => by (try dsimp only at hSw); (try subst hSw); go_simp⟩) ?_
 simp only [Act.put, List.setIfInBounds_toArray, List.set_cons_zero, List.set_cons_succ]
 refine held_take 1 (.pointer (some ⟨sb, 0, none⟩)) rfl (by kernel_rfl) (by kernel_rfl) (by kernel_rfl) (fun _ _ _ h => h) hHeld (Or.inl ⟨by rfl, fun w' hSw => by (try dsimp only at hSw); (try subst hSw); go_simp⟩) ?_
 simp only [Act.put, List.setIfInBounds_toArray, List.set_cons_zero, List.set_cons_succ]
 refine held_take 2 (.pointer (some ⟨sb, 3, none⟩)) rfl (by kernel_rfl) (by kernel_rfl) (by kernel_rfl) (fun _ _ _ h => h) hHeld (Or.inl ⟨by rfl, fun w' hSw => by (try dsimp only at hSw); (try subst hSw); go_simp⟩) ?_
 simp only [Act.put, List.setIfInBounds_toArray, List.set_cons_zero, List.set_cons_succ]
 refine held_take 3 (.pointer (some ⟨rp, 0, none⟩)) rfl (by kernel_rfl) (by kernel_rfl) (by kernel_rfl) (fun _ _ _ h => h) hHeld (Or.inl ⟨by rfl, fun w' hSw => by (try dsimp only at hSw); (try subst hSw); go_simp⟩) ?_
 simp only [Act.put, List.setIfInBounds_toArray, List.set_cons_zero, List.set_cons_succ]
 refine held_take 6 (.pointer (some ⟨sb, 0, none⟩)) rfl (by kernel_rfl) (by kernel_rfl) (by kernel_rfl) (fun _ _ _ h => h) hHeld (Or.inl ⟨by rfl, fun w' hSw => by (try dsimp only at hSw); (try subst hSw); go_simp⟩) ?_
 simp only [Act.put, List.setIfInBounds_toArray, List.set_cons_zero, List.set_cons_succ]
 refine held_take 7 (.pointer (some ⟨sb, 0, none⟩)) rfl (by kernel_rfl) (by kernel_rfl) (by kernel_rfl) (fun _ _ _ h => h) hHeld (Or.inl ⟨by rfl, fun w' hSw => by (try dsimp only at hSw); (try subst hSw); go_simp⟩) ?_
 simp only [Act.put, List.setIfInBounds_toArray, List.set_cons_zero, List.set_cons_succ]
 refine held_take 8 (.pointer (some ⟨sb, 3, none⟩)) rfl (by kernel_rfl) (by kernel_rfl) (by kernel_rfl) (fun _ _ _ h => h) hHeld (Or.inl ⟨by rfl, fun w' hSw => by (try dsimp only at hSw); (try subst hSw); go_simp⟩) ?_
 simp only [Act.put, List.setIfInBounds_toArray, List.set_cons_zero, List.set_cons_succ]
 refine held_take 9 (.pointer (some ⟨rp, 0, none⟩)) rfl (by kernel_rfl) (by kernel_rfl) (by kernel_rfl) (fun _ _ _ h => h) hHeld (Or.inl ⟨by rfl, fun w' hSw => by (try dsimp only at hSw); (try subst hSw); go_simp⟩) ?_
 simp only [Act.put, List.setIfInBounds_toArray, List.set_cons_zero, List.set_cons_succ]
 refine held_step 4 rfl (by kernel_rfl) (fun K hK => ?_)
 go_simp
 refine (hfree.out _ kd).mono ?_; rintro e w2 ⟨rfl, k2⟩
 have c2 := k2.cell cd (by simp)
 have k02 := kd.trans k2
 go_wp2_with fail
 refine hK.out _ _ c2 (fun hHeld => ?_)
 clear hK K
 refine held_take 5 (.int .i64 (X - 40)) rfl (by kernel_rfl) (by kernel_rfl) (by kernel_rfl) (fun _ _ _ h => h) hHeld (Or.inl ⟨by rfl, fun w' hSw => by (try dsimp only at hSw); (try subst hSw); go_simp⟩) ?_
 simp only [Act.put, List.setIfInBounds_toArray, List.set_cons_zero, List.set_cons_succ]
 refine held_step 10 rfl (by kernel_rfl) (fun K hK => ?_)
 go_simp
 refine (hund.out _ k02).mono ?_; rintro e w3 ⟨v, rfl, hne⟩
 obtain ⟨B, cb, rfl, _, _, k3, _⟩ := hne
 have e3 := k3.cell c2 (by simp)
 have k03 := k02.trans k3
 rw [← hU.out]
 go_wp2_with fail
 refine hK.out _ _ e3 (fun hHeld => ?_)
 clear hK K
 refine held_take 11 (.int .i64 (u : Int)) rfl (by kernel_rfl) (by kernel_rfl) (by kernel_rfl) (fun _ _ _ h => h) hHeld (Or.inl ⟨by rfl, fun w' hSw => by (try dsimp only at hSw); (try subst hSw); go_simp⟩) ?_
 simp only [Act.put, List.setIfInBounds_toArray, List.set_cons_zero, List.set_cons_succ]
 refine held_take 12 (.int .i64 Y) rfl (by kernel_rfl) (by kernel_rfl) (by kernel_rfl) (fun _ _ _ h => h) hHeld (Or.inl ⟨by rfl, fun w' hSw => by (try dsimp only at hSw); (try subst hSw); go_simp⟩) ?_
 simp only [Act.put, List.setIfInBounds_toArray, List.set_cons_zero, List.set_cons_succ]
 refine held_take 13 (.int .i64 Y) rfl (by kernel_rfl) (by kernel_rfl) (by kernel_rfl) (fun _ _ _ h => h) hHeld (Or.inl ⟨by rfl, fun w' hSw => by (try dsimp only at hSw); (try subst hSw); go_simp⟩) ?_
 simp only [Act.put, List.setIfInBounds_toArray, List.set_cons_zero, List.set_cons_succ]
 refine wpAnyH_done (by kernel_rfl) ?_ _
 clear hHeld
 have c43 := k03.cell c4 (by simp)
 have hl3 := hloose.kept k03 (by simp)
 have hs3 := k03.size
 replace hs3 := Lib.hid hs3
 clear hw1 hw2 cd c2 e3 kd k2 k3 k02 hMl hUl hUl0 c3 c4
 go_wp2_with (at_range; refine wpList_range_loose rfl _ rfl rfl hl3 ?_; intro w4 hrg4 k4 hs4)
 go_frame
 obtain ⟨rb, hrb⟩ : ∃ rb, rb = w3.heap.size := ⟨_, rfl⟩
 rw [← hrb] at hrg4
 simp only [← hrb]
 have hrlb : ¬ lb = rb := by have := hl3.lt; omega
 have hrb1 : w1.heap.size ≤ rb := by have := hs3.out; omega
 replace hrb := Lib.hid hrb
 replace hrb1 := Lib.hid hrb1
 clear hs4 c43 hl3
 go_loopw [3] (fun v wr => ∃ left cnt done, RangeL wr rb lb c D left cnt ∧ Hid (CollL σ.L left done) ∧ v = .int .i64 (Y - (sumF σ.M done : Int)) ∧ Only [] w1 wr) (fun _ w' => w'.rangeLeft lb rb)
 case atStart => exact ⟨_, _, [], hrg4, Lib.hid hcoll, by simp [sumF], k03.trans k4⟩
 case round =>
  clear hrg4 hcoll k4
  obtain ⟨left, cnt, done, hrg, hcoll, rfl, kr⟩ := hrel
  have hlr := hloose.kept kr (by simp)
  go_wp2_with (at_next; refine wpList_next_loose rfl _ rfl rfl hlr hrg ?_ ?_)
  ·intro hleft
   have hperm := hcoll.out.perm huniq.out hleft
   rw [sumF_perm σ.M hperm]
   clear hrg hlr hleft
   go_wp2
   go_ret
   exact ⟨rfl, kr⟩
  ·intro x q w5 cnt5 hx hq hlx hrg5 hlt5 k5 hent
   have hin := look_some hq
   have hcoll5 := hcoll.out.step huniq.out hin hlx
   have hlr5 := hrg.left_eq
   have k15 : Only [] w1 w5 := kr.then k5 (fun i hi => .inr (by simp at hi; rw [hi]; exact hrb1.out))
   have hf := hfr.out w5 k15 x hx q hq
   have hsn := sumF_snoc σ.M done (x, q)
   simp only at hsn
   have hbd : sumF σ.M done ≤ 32000000 ∧ freshN σ.M x q ≤ 32 := by
    have hmem : ∀ z ∈ done, z ∈ σ.L := fun z hz => ((hcoll.out.2 z).1 hz).1
    have h1 := hsum.out done hmem
    have h2 : done.length ≤ σ.L.length := by classical exact nodup_le done σ.L hcoll.out.1 hmem
    have h3 := hlen.out
    have h4 := hc.out
    have h5 := fresh_le σ.M x q
    have h6 := Pgs.right_len (hrt.out _ hin).1
    simp only at h6
    omega
   have hw : IntKind.i64.wrap (Y - (sumF σ.M done : Int) - (freshN σ.M x q : Int)) = Y - (sumF σ.M done : Int) - (freshN σ.M x q : Int) := by rw [IntKind.wrap_i64]; omega
   generalize vs x = vx at *
   generalize hT : sumF σ.M (done ++ [(x, q)]) = T1 at *
   generalize sumF σ.M done = T0 at *
   generalize freshN σ.M x q = fr at *
   replace hcoll5 := Lib.hid hcoll5
   replace hT := Lib.hid hT
   replace hlr5 := Lib.hid hlr5
   replace hf := Lib.hid hf
   replace hsn := Lib.hid hsn
   replace hbd := Lib.hid hbd
   clear hrg hcoll hlx k5 hin hq hlr kr
   go_wp2_with fail
   refine hf.out.mono ?_; rintro e w6 ⟨rfl, k6⟩
   have hrg6 := hrg5.kept k6 (by simp) (by simp)
   have k16 := k15.trans k6
   have hlr6 := hrg6.left_eq
   replace hlr6 := Lib.hid hlr6
   clear hrg5 k6 k15 hf
   go_wp2
   go_roundw
   case rel => exact ⟨_, cnt5, done ++ [(x, q)], hrg6, hcoll5, by have := hsn.out; rw [hT.out, this]; congr 1; omega, k16⟩
   case measure => rw [hlr6.out, hlr5.out]; exact hlt5
end
end Go.Proofs.YtmelaiefbpdifaaGreatDoor.Srv
