/- RowsOrder: the order of changes counts for nothing in the rows behind them. -/
import Derived.Test.YthpjkhmkjhgbkaaGreatDoorSame5
namespace Go.Proofs.YthpjkhmkjhgbkaaGreatDoor
open Go.RowKit Go.Maps

/-! The same changes in another order. -/
theorem hitL_perm {l m : List Ch} (hl : Fits l) (hp : m.Perm l) (k : List UInt8) : hitL m k = hitL l k := by
  cases hm : hitL m k with
  | none =>
    have hn := hitL_none hm
    symm
    exact List.find?_eq_none.2 fun c hc => by have := hn c (hp.mem_iff.2 hc); simpa using this
  | some c =>
    obtain ⟨h1, h2⟩ := hitL_some hm
    have h1' := hp.mem_iff.1 h1
    cases hx : hitL l k with
    | none => exact absurd h2 (hitL_none hx c h1')
    | some c' =>
      obtain ⟨q1, q2⟩ := hitL_some hx
      rw [hl.inj h1' q1 (h2.trans q2.symm)]
theorem Fits.perm {l m : List Ch} (h : Fits l) (hp : m.Perm l) : Fits m :=
  ⟨by rw [hp.length_eq]; exact h.few, hp.symm.pairwise h.keys (fun hab => Ne.symm hab), fun c hc => h.small c (hp.mem_iff.1 hc), fun c hc => h.empty c (hp.mem_iff.1 hc)⟩
theorem growth_perm {M : List Rw} {l m : List Ch} (hp : m.Perm l) : growthL M (newsL M m) = growthL M (newsL M l) := by
  have h1 : (newsL M m).Perm (newsL M l) := hp.filter _
  rw [growth_eq, growth_eq, newN, newN, goneN, goneN, (h1.filter _).length_eq, (h1.filter _).length_eq]
theorem puts_perm {N : Nat} {M M' M'' : List Rw} {l m : List Ch} {x y : Int} (hp : m.Perm l) (h : Puts N M l x M') (h' : Puts N M m y M'') : x = y ∧ M'.map chOf = M''.map chOf := by
  have hf : FitL m ↔ FitL l := ⟨fun h => fits_to ((fits_of h).perm hp.symm), fun h => fits_to ((fits_of h).perm hp)⟩
  have hg := growth_perm (M := M) hp
  rcases h with ⟨a1, rfl, rfl⟩ | ⟨a1, a2, rfl, rfl⟩ | ⟨a1, a2, rfl, a4, a5⟩ <;> rcases h' with ⟨b1, rfl, rfl⟩ | ⟨b1, b2, rfl, rfl⟩ | ⟨b1, b2, rfl, b4, b5⟩
  · exact ⟨rfl, rfl⟩
  · exact absurd (hf.1 b1) a1
  · exact absurd (hf.1 b1) a1
  · exact absurd (hf.2 a1) b1
  · exact ⟨rfl, rfl⟩
  · rw [hg] at b2; omega
  · exact absurd (hf.2 a1) b1
  · rw [hg] at b2; omega
  · refine ⟨rfl, chs_ext a4.sorted b4.sorted fun k => ?_⟩
    rw [a5, b5]
    unfold afterK
    rw [hitL_perm (fits_of a1) hp]

/-! Appends of whole lists. -/
section
variable {α : Type} {enc : α → List Value} {k : Nat} {w : World}
theorem els_news (hk : ∀ x, (enc x).length = k) (h0 : 0 < k) {g o : Nat} {l : List α} (h : ElsAt enc k w g o l) : ∀ j u, (encs enc l)[j]? = some u → w.cell? ((⟨g, o, none⟩ : Addr).add j) = some u := by
  intro j u hu
  rw [addr_add]
  have hj : j < l.length * k := by
    have := (List.getElem?_eq_some_iff.1 hu).1
    rwa [encs_length hk] at this
  have hi : j / k < l.length := Nat.div_lt_of_lt_mul (by rw [Nat.mul_comm]; exact hj)
  have hr : j % k < (enc l[j / k]).length := by rw [hk]; exact Nat.mod_lt _ h0
  have hv := List.getElem?_eq_getElem hr
  have e : j / k * k + j % k = j := by rw [Nat.mul_comm]; exact Nat.div_add_mod j k
  have h1 := encs_at hk l (j / k) hi (j % k) _ hv
  rw [e, hu] at h1
  injection h1 with h1
  have h2 := h (j / k) hi (j % k) _ hv
  rw [Nat.add_assoc, e, ← h1] at h2
  exact h2
theorem ElsAt.drop {g o : Nat} {l : List α} (h : ElsAt enc k w g o l) (n : Nat) : ElsAt enc k w g (o + n * k) (l.drop n) := by
  intro i hi j v hv
  have hi' : n + i < l.length := by simp at hi; omega
  simp only [List.getElem_drop] at hv
  have := h (n + i) hi' j v hv
  rwa [Nat.add_mul, ← Nat.add_assoc] at this
theorem ElsAt.take {g o : Nat} {l : List α} (h : ElsAt enc k w g o l) (n : Nat) : ElsAt enc k w g o (l.take n) := by
  intro i hi j v hv
  have hi' : i < l.length := by simp at hi; omega
  simp only [List.getElem_take] at hv
  exact h i hi' j v hv
theorem encs_append (l m : List α) : encs enc (l ++ m) = encs enc l ++ encs enc m := by simp [encs]
variable {P : Program}
/-- 'append(s, y...)'. -/
theorem wpList_append_els (hk : ∀ x, (enc x).length = k) (h0 : 0 < k) (h1 : ∀ x, ∀ v ∈ enc x, v.oneCell' = true) {ops : Array Oper} {rest : List Oper} {o : Oper} {a : Act} {Q : Exit → Act → World → Prop} (hgd : o.guard = none) (s y : Operand) (t : TypeId)
    (ho : o.op = .call { callee := .builtin .append, args := #[s, y], argTypes := #[t, t] })
    (e : TypeId) (z : Value) (bytes : Nat) (ht : P.underlying t = some (.slice e)) (hinfo : (P.info? e).map (fun i => (i.zero, i.size, i.bytes)) = some (some z, k, bytes)) (hzs : z.cells.size = k)
    (v : Value) (n : Nat) (xs : List α) (hs : a.eval s = v) (hown : w.ownsRow 0 e k v n (encs enc xs))
    (g p m c : Nat) (ys : List α) (hm : m = ys.length) (hx : a.eval y = .slice (some ⟨g, p, none⟩) m c) (hsrc : ElsAt enc k w g p ys)
    (h63 : n + m ≤ maxLen) (hbytes : (n + m) * bytes ≤ 140737488355328)
    (h : ∀ v' w', w'.ownsRow 0 e k v' (n + m) (encs enc (xs ++ ys)) → w.grownBy w' v.ownBlock → (v'.ownBlock = v.ownBlock ∨ v'.ownBlock = some w.heap.size) → wpList P ops Q rest (a.put o.dst v') w') : wpList P ops Q (o :: rest) a w := by
  subst hm
  refine wpList_plain hgd fun K hK => ?_
  obtain ⟨i, hi, hz0, hz1, hz2⟩ := info_parts hinfo
  obtain ⟨v', w', hrun, h2, h3, _, h4⟩ := run_append_own_at (P := P) w 0 t o.type e i z k bytes ht hi hz0 hz1 hz2 hzs h0 v n (encs enc xs) hown ⟨g, p, none⟩ ys.length c (encs enc ys) (encs_length hk ys) (els_news hk h0 hsrc) (encs_one h1 ys) h63 hbytes (Nat.zero_le _)
  rw [← encs_append] at h2
  unfold Oper.wp execOp
  simp only [ho, resolve, invoke, builtin, Sem.run_bind, Sem.run_pure, Result.andThen_ok, List.map_toArray, List.map_cons, List.map_nil, hs, hx, hrun]
  exact hK _ _ (h v' w' h2 h3 h4)
end

/-! Two rows beside each other. -/
theorem dis_grow {rp mb lp n : Nat} {F F' T : List Nat} (hd : ∀ i ∈ rp :: mb :: lp :: F, i ∉ T) (hT : ∀ i ∈ T, i < n) (hF : ∀ j ∈ F', j ∈ F ∨ n ≤ j) : ∀ i ∈ rp :: mb :: lp :: F', i ∉ T := fun i hi hm => by
  simp only [List.mem_cons] at hi
  rcases hi with rfl | rfl | rfl | hi
  · exact hd _ (by simp) hm
  · exact hd _ (by simp) hm
  · exact hd _ (by simp) hm
  · rcases hF i hi with h | h
    · exact hd i (by simp [h]) hm
    · have := hT i hm; omega
theorem dis_symm {S T : List Nat} (h : ∀ i ∈ S, i ∉ T) : ∀ i ∈ T, i ∉ S := fun i hi hm => h i hm hi
theorem dis_sub {rp mb lp : Nat} {F T : List Nat} (h : ∀ i ∈ rp :: mb :: lp :: F, i ∉ T) : ∀ i ∈ mb :: lp :: F, i ∉ T := fun i hi => h i (List.mem_cons_of_mem _ hi)
theorem dis_high {S T : List Nat} {n : Nat} (hS : ∀ i ∈ S, n ≤ i) (hT : ∀ i ∈ T, i < n) : ∀ i ∈ S, i ∉ T := fun i hi hm => by
  have := hS i hi
  have := hT i hm
  omega
theorem dis_new {rp mb lp n : Nat} {F F' : List Nat} (hF : ∀ j ∈ F, n ≤ j) (hF' : ∀ j ∈ F', j ∈ F ∨ n ≤ j) (h1 : n ≤ rp) (h2 : n ≤ mb) (h3 : n ≤ lp) : ∀ i ∈ rp :: mb :: lp :: F', n ≤ i := fun i hi => by
  simp only [List.mem_cons] at hi
  rcases hi with rfl | rfl | rfl | hi
  · exact h1
  · exact h2
  · exact h3
  · exact (hF' i hi).elim (hF i) id

set_option maxRecDepth 100000 in
set_option maxHeartbeats 4000000 in
theorem rowsOrder_walk (w : World) (A : Option Addr) (c : Nat) (l : List Ch) (z : Int) (hA : Els chE 3 w A l) (hok : okayC l) (hl : l.length ≤ 9223372036854775807) (hc : l.length ≤ c) :
    Calls Tryz.prog 7 #[.slice A l.length c, .int .i64 z] w fun e w' => e = .returned (.bool true) ∧ Only [] w w' := by
  have halive := fun W => alive_any W
  have hlong := fun W (k : Only [] w W) => long_any W A c l (hA.kept k (by simp)) hl
  replace halive := Lib.hid halive
  replace hlong := Lib.hid hlong
  replace hl := Lib.hid hl
  go_enter Tryz.func7, Tryz.ntmps7
  go_wp2_with fail
  refine (halive.out _).mono ?_
  rintro e w1 ⟨rfl, k1⟩
  go_wp2_with fail
  refine (hlong.out w1 k1).mono ?_
  rintro e w2 ⟨⟨r1, rfl, q1⟩, k2⟩
  have k12 := k1.trans k2
  clear k1 k2
  cases r1 with
  | true =>
    clear q1
    go_wp2_with fail
    refine (halive.out _).mono ?_
    rintro e w3 ⟨rfl, k3⟩
    have kend := k12.trans k3
    go_wp2
    go_ret
    exact ⟨rfl, kend⟩
  | false =>
  have hsh := q1 rfl
  clear q1
  have hl80 := hsh.1
  by_cases h00 : l.length = 0
  · have h00' : (l.length : Int) = 0 := by omega
    replace hsh := Lib.hid hsh
    go_wp2_with fail
    refine (halive.out _).mono ?_
    rintro e w3 ⟨rfl, k3⟩
    have kend := k12.trans k3
    go_wp2
    go_ret
    exact ⟨rfl, kend⟩
  have hl1 : 1 ≤ l.length := by omega
  have hl0 : ¬ (l.length : Int) = 0 := by omega
  obtain ⟨g, o, rfl, hg, hat⟩ := hA.get (i := 0) (by omega)
  have hat2 := hat.kept k12 (by simp)
  obtain ⟨u, hu⟩ : ∃ u : Int, u = z % 18446744073709551616 := ⟨_, rfl⟩
  have hu0 : 0 ≤ u := by omega
  have hu1 : u < 18446744073709551616 := by omega
  obtain ⟨k, hk⟩ : ∃ k : Nat, (k : Int) = u % (l.length : Int) := ⟨(u % (l.length : Int)).toNat, Int.toNat_of_nonneg (Int.emod_nonneg _ (by omega))⟩
  have hkl : k < l.length := by
    have := Int.emod_lt_of_pos u (show (0 : Int) < (l.length : Int) by omega)
    omega
  have hll : (l.length : Int) ≤ 80 := by omega
  have hlp : (0 : Int) < (l.length : Int) := by omega
  have hwu : IntKind.u64.wrap z = u := by rw [IntKind.wrap_u64, hu]
  replace hsh := Lib.hid hsh
  replace hl1 := Lib.hid hl1
  replace hl80 := Lib.hid hl80
  replace hu := Lib.hid hu
  have hk' : u % (l.length : Int) = (k : Int) := hk.symm
  clear hk
  have hdrop : (l.drop k).length = l.length - k := by simp
  have htake : (l.take k).length = k := by simp; omega
  have hkc : (k : Int) ≤ (c : Int) := by omega
  have hkI : (k : Int) < (l.length : Int) := by omega
  replace hdrop := Lib.hid hdrop
  replace htake := Lib.hid htake
  go_wp2_with (at_builtin; go_must (refine wpList_append_els chE_length (by decide) chE_one rfl (.tmp 28) (.tmp 31) 37 rfl 59 (.agg #[.string ⟨#[]⟩, .string ⟨#[]⟩, .bool false]) 40 Tryz.underlying37 info_ch rfl (.slice none 0 0) 0 [] rfl (World.ownsRow_nil _ 0 _ 3) g (o + k * 3) (l.length - k) _ (l.drop k) hdrop.out.symm rfl (hat2.drop k) ?c1 ?c2 ?go))
  case c1 => unfold maxLen; omega
  case c2 => omega
  case go =>
  intro v3 w3 hown3 hg3 hat3
  have k3 : Only [] w w3 := k12.grown hg3 (fun j hj => by simp [Value.ownBlock] at hj)
  have hnew3 : ∀ j, v3.ownBlock = some j → w.heap.size ≤ j := fun j hj => by
    rcases hat3 with h | h
    · rw [h] at hj; simp [Value.ownBlock] at hj
    · rw [h] at hj; injection hj with hj; have := k12.size; omega
  have hatt3 := hat.kept k3 (by simp)
  clear hg3 hat3 hat2
  go_wp2_with (at_builtin; go_must (refine wpList_append_els chE_length (by decide) chE_one rfl (.tmp 33) (.tmp 36) 37 rfl 59 (.agg #[.string ⟨#[]⟩, .string ⟨#[]⟩, .bool false]) 40 Tryz.underlying37 info_ch rfl v3 (l.length - k) (l.drop k) rfl hown3 g o k _ (l.take k) htake.out.symm rfl (hatt3.take k) ?d1 ?d2 ?go2))
  case d1 => unfold maxLen; omega
  case d2 => omega
  case go2 =>
  intro v4 w4 hown4 hg4 hat4
  have k4 : Only [] w w4 := k3.grown hg4 (fun j hj => .inr (hnew3 j hj))
  have hnew4 : ∀ j, v4.ownBlock = some j → w.heap.size ≤ j := fun j hj => by
    rcases hat4 with h | h
    · rw [h] at hj; exact hnew3 j hj
    · rw [h] at hj; injection hj with hj; have := k3.size; omega
  have hn : l.length - k + k = l.length := by omega
  rw [hn] at hown4
  have hrotl : (l.drop k ++ l.take k).length = l.length := by rw [List.length_append, hdrop.out, htake.out]; omega
  have hperm : (l.drop k ++ l.take k).Perm l := (List.perm_append_comm).trans (by rw [List.take_append_drop])
  generalize l.drop k ++ l.take k = rot at *
  have hokr : okayC rot := fun x hx => hok x (hperm.mem_iff.1 hx)
  rw [← hrotl] at hown4
  obtain ⟨Ar, cr, hv4, hcr, hbr, _, _⟩ := els_of_owns chE_length hown4 k4 hnew4
  subst hv4
  rw [hrotl]
  have hb4 := hA.kept k4 (by simp)
  replace hperm := Lib.hid hperm
  clear hg4 hat4 hnew4 hown4 hown3 hnew3 k3 hatt3 hn
  have hnewA := fun W (h : Only [] w4 W) => ownNew_any w4 W 60 (by decide) (by decide) h
  replace hnewA := Lib.hid hnewA
  go_wp2_with fail
  refine (hnewA.out w4 (Only.refl _ _)).mono ?_
  rintro e w5 ⟨p1, F1, rfl, hd5, k5, hF1⟩
  go_wp2_with fail
  refine (hd5.rows5 (N := 19) rfl (by decide)).mono ?_
  rintro e w6 ⟨rp1, mb1, lp1, F6, rfl, h6, _, _, _, _, _⟩
  clear hd5
  go_wp2_with fail
  refine (hnewA.out w6 h6.only).mono ?_
  rintro e w7 ⟨p2, F7, rfl, hd7, k7, hF7⟩
  have h7 := h6.keep k7
  have hlt6 : ∀ i ∈ rp1 :: mb1 :: lp1 :: F6, i < w6.heap.size := fun i hi => (h6.lt i hi).2
  clear h6
  go_wp2_with fail
  refine (hd7.rows5 (N := 19) rfl (by decide)).mono ?_
  rintro e w8 ⟨rp2, mb2, lp2, F8, rfl, h8, k8, hF8, a1, a2, a3⟩
  have k78 := k7.size
  have hdis : ∀ i ∈ rp2 :: mb2 :: lp2 :: F8, i ∉ rp1 :: mb1 :: lp1 :: F6 := dis_high (n := w6.heap.size) (dis_new hF7 (fun j hj => (hF8 j hj).imp id (fun h => by omega)) (by omega) (by omega) (by omega)) hlt6
  have h9 := h7.beside k8 h8.only (dis_high hF7 hlt6)
  clear hd7 h7
  go_wp2_with fail
  refine (halive.out _).mono ?_
  rintro e w10 ⟨rfl, k10⟩
  have hX := h9.keep k10
  have hY := h8.keep k10
  clear h9 h8 k10
  go_wp2_with fail
  refine (hX.put (some ⟨g, o, none⟩) c l (by decide) (hb4.kept hX.only (by simp)) hok hl.out hc).mono ?_
  rintro e w11 ⟨x1, M1, F11, rfl, hp1, hX1, kc1, hF11⟩
  have hY1 := hY.beside kc1 hX1.only (dis_sub (dis_symm hdis))
  have hdis1 := dis_grow (dis_symm hdis) (fun i hi => (hY.lt i hi).2) hF11
  clear hX hY kc1
  go_wp2_with fail
  rw [← hrotl]
  refine (hY1.put Ar cr rot (by decide) (hbr.kept hY1.only (by simp)) hokr (by omega) hcr).mono ?_
  rintro e w12 ⟨x2, M2, F12, rfl, hp2, hY2, kc2, _⟩
  have hX2 := hX1.beside kc2 hY2.only (dis_sub (dis_symm hdis1))
  obtain ⟨rfl, hsame⟩ := puts_perm hperm.out hp1 hp2
  have hlenM : M1.length = M2.length := by have := congrArg List.length hsame; simpa using this
  have hall1 := fun W (k : Only [] w12 W) => (hX2.keep k).all
  have hall2 := fun W (k : Only [] w12 W) => (hY2.keep k).all
  have hfree1 := fun W (k : Only [] w12 W) => (hX2.keep k).free
  have hfree2 := fun W (k : Only [] w12 W) => (hY2.keep k).free
  have hfew : (M1.map chOf).length ≤ 1048576 := by
    have h1 := hX2.good.length
    rw [List.length_map]
    omega
  rw [← hsame] at hall2
  rw [← hlenM] at hfree2
  have kall : Only [] w w12 := k4.trans hX2.only
  generalize M1.map chOf = L1 at *
  generalize ((19 : Nat) : Int) - (M1.length : Int) = fr at *
  replace hall1 := Lib.hid hall1
  replace hall2 := Lib.hid hall2
  replace hfree1 := Lib.hid hfree1
  replace hfree2 := Lib.hid hfree2
  replace hp1 := Lib.hid hp1
  replace hp2 := Lib.hid hp2
  replace hsame := Lib.hid hsame
  replace hlenM := Lib.hid hlenM
  clear hX1 hX2 hY1 hY2 kc2
  go_wp2_with fail
  refine (hall1.out _ (Only.refl _ _)).mono ?_
  rintro e w13 ⟨v13, rfl, A13, c13, rfl, _, he13, k13, _⟩
  go_wp2_with fail
  refine (hall2.out _ k13).mono ?_
  rintro e w14 ⟨v14, rfl, A14, c14, rfl, _, he14, k14, _⟩
  have k214 := k13.trans k14
  go_wp2_with fail
  refine (same5_any w14 A13 A14 c13 c14 L1 L1 (he13.kept k14 (by simp)) he14 hfew).mono ?_
  rintro e w15 ⟨⟨r, rfl, hr⟩, k15⟩
  obtain rfl : r = true := hr.2 rfl
  have k215 := k214.trans k15
  clear he13 he14 k13 k14 k15 k214 hr
  go_wp2_with fail
  refine (hfree1.out _ k215).mono ?_
  rintro e w16 ⟨rfl, k16⟩
  have k216 := k215.trans k16
  go_wp2_with fail
  refine (hfree2.out _ k216).mono ?_
  rintro e w17 ⟨rfl, k17⟩
  have kend := (kall.trans k216).trans k17
  clear k215 k216 k16 k17 kall
  go_wp2
  go_ret
  exact ⟨rfl, kend⟩
end Go.Proofs.YthpjkhmkjhgbkaaGreatDoor
