/- RowsKeeps: what is handed in is neither changed nor kept, and answers are new memory. -/
import Derived.Test.YthpjkhmkjhgbkaaGreatDoorOrder5
import Derived.Deep.Upon
namespace Go.Proofs.YthpjkhmkjhgbkaaGreatDoor
open Go.RowKit Go.Maps

section
variable {α : Type} {enc : α → List Value} {k : Nat} {w : World} {P : Program}
/-- 'append(s, y...)', y empty or not. -/
theorem wpList_append_any (hk : ∀ x, (enc x).length = k) (h0 : 0 < k) (h1 : ∀ x, ∀ v ∈ enc x, v.oneCell' = true) {ops : Array Oper} {rest : List Oper} {o : Oper} {a : Act} {Q : Exit → Act → World → Prop} (hgd : o.guard = none) (s y : Operand) (t : TypeId)
    (ho : o.op = .call { callee := .builtin .append, args := #[s, y], argTypes := #[t, t] })
    (e : TypeId) (z : Value) (bytes : Nat) (ht : P.underlying t = some (.slice e)) (hinfo : (P.info? e).map (fun i => (i.zero, i.size, i.bytes)) = some (some z, k, bytes)) (hzs : z.cells.size = k)
    (v : Value) (n : Nat) (xs : List α) (hs : a.eval s = v) (hown : w.ownsRow 0 e k v n (encs enc xs))
    (A : Option Addr) (c : Nat) (ys : List α) (hx : a.eval y = .slice A ys.length c) (hsrc : Els enc k w A ys)
    (h63 : n + ys.length ≤ maxLen) (hbytes : (n + ys.length) * bytes ≤ 140737488355328)
    (h : ∀ v' w', w'.ownsRow 0 e k v' (n + ys.length) (encs enc (xs ++ ys)) → w.grownBy w' v.ownBlock → (v'.ownBlock = v.ownBlock ∨ v'.ownBlock = some w.heap.size) → wpList P ops Q rest (a.put o.dst v') w') : wpList P ops Q (o :: rest) a w := by
  rcases hsrc with hnil | ⟨g, p, rfl, hg, hat⟩
  · subst hnil
    refine wpList_plain hgd fun K hK => ?_
    obtain ⟨i, hi, hz0, hz1, hz2⟩ := info_parts hinfo
    have hsrc : Src P i.size t (.slice A 0 c) 0 [] w := by
      cases A with
      | none => exact Src.ofNil w ht c
      | some a => exact Src.ofSlice w ht a 0 c [] (by simp) (fun j u hj => by simp at hj) (fun _ h => by cases h)
    have hrun : (Builtin.append_ #[t, t] o.type #[v, .slice A 0 c]).run P w = .ok v w := by
      rcases id hown.2 with ⟨rfl, rfl⟩ | ⟨g, cap, cur, rfl, _, _, hnc, _⟩
      · exact run_append_nothing w t t o.type e i ht hi none 0 0 (Nat.le_refl _) _ hsrc
      · exact run_append_nothing w t t o.type e i ht hi _ n cap hnc _ hsrc
    simp only [List.length_nil] at hx
    unfold Oper.wp execOp
    simp only [ho, resolve, invoke, builtin, Sem.run_bind, Sem.run_pure, Result.andThen_ok, List.map_toArray, List.map_cons, List.map_nil, hs, hx, hrun]
    exact hK _ _ (h v w (by simpa using hown) (World.grownBy.refl _ _) (.inl rfl))
  · exact wpList_append_els hk h0 h1 hgd s y t ho e z bytes ht hinfo hzs v n xs hs hown g p ys.length c ys rfl hx hat h63 hbytes h
end

theorem chs_set : ∀ (l : List Ch) (k : Nat) (y : Ch), encs chE (l.set k y) = (((encs chE l).set (k * 3) (.string (strOf y.key))).set (k * 3 + 1) (.string (strOf y.val))).set (k * 3 + 2) (.bool y.gone)
  | [], k, y => by simp [encs]
  | x :: r, 0, y => by simp [encs, chE]
  | x :: r, k + 1, y => by
    have ih := chs_set r k y
    have e1 : (k + 1) * 3 = k * 3 + 1 + 1 + 1 := by omega
    have hc : ∀ z t, encs chE (z :: t) = .string (strOf z.key) :: .string (strOf z.val) :: .bool z.gone :: encs chE t := fun z t => by simp [encs, chE]
    rw [List.set_cons_succ, hc, hc, ih, e1]
    simp only [List.set_cons_succ]

theorem block_lt {w : World} {p : Addr} {v : Value} (h : w.cell? p = some v) : p.block < w.heap.size := by
  apply Decidable.byContradiction
  intro hn
  have hx : w.heap[p.block]? = none := Array.getElem?_eq_none (by omega)
  unfold World.cell? at h
  rw [hx] at h
  simp at h
theorem Only.frozen {S : List Nat} {w w' : World} (h : Only S w w') {p : Addr} (hp : p.block < w.heap.size) (hS : p.block ∉ S) : w'.frozen? p = w.frozen? p := by
  unfold World.frozen?
  rw [h.block p.block hp hS]
/-- Cells that may be written. -/
def Open3 (w : World) (g o n : Nat) : Prop := ∀ i, i < n → (w.cell? ⟨g, o + i, none⟩).isSome = true ∧ w.frozen? ⟨g, o + i, none⟩ = false
theorem Open3.put {w : World} {g o n : Nat} (h : Open3 w g o n) (i : Nat) (u : Value) : Open3 (w.setCell ⟨g, i, none⟩ u) g o n := fun j hj =>
  ⟨World.isSome_setCells g [u] i w ⟨g, o + j, none⟩ (h j hj).1, (World.frozen?_setCells g [u] i w ⟨g, o + j, none⟩).trans (h j hj).2⟩
theorem Open3.drew {w : World} {g o n : Nat} (h : Open3 w g o n) (q : Nat) : Open3 (w.drewN q) g o n := fun j hj => by
  have := h j hj
  simpa using this
theorem Open3.at {w : World} {g o n : Nat} (h : Open3 w g o n) {i : Nat} (hi : i < n) : ∃ v, w.cell? ⟨g, o + i, none⟩ = some v := Option.isSome_iff_exists.1 (h i hi).1
theorem there_of {w : World} {A : Option Addr} {c : Nat} {l : List Ch} {g o : Nat} (hA : A = some ⟨g, o, none⟩) (h : Els chE 3 w A l) (ht : Thaw 3 w (.slice A l.length c) l.length) : Open3 w g o (l.length * 3) := fun i hi => by
  have h3 : i / 3 < l.length := by omega
  have e : o + i / 3 * 3 + i % 3 = o + i := by omega
  obtain ⟨g', o', hA', _, hat⟩ := h.get h3
  rw [hA] at hA'
  injection hA' with hA'
  injection hA' with h1 h2
  subst h1
  subst h2
  have hr : i % 3 < (chE l[i / 3]).length := by rw [chE_length]; omega
  have hc := hat (i / 3) h3 (i % 3) _ (List.getElem?_eq_getElem hr)
  have hf := ht g o _ _ (by rw [hA]) (i / 3) (i % 3) h3 (by omega)
  rw [e] at hc hf
  exact ⟨by rw [hc]; rfl, hf⟩
theorem there_ex {w : World} {A : Option Addr} {c : Nat} {l : List Ch} (h : Els chE 3 w A l) (ht : Thaw 3 w (.slice A l.length c) l.length) : l = [] ∨ ∃ g o, A = some ⟨g, o, none⟩ ∧ Open3 w g o (l.length * 3) := by
  rcases id h with hn | ⟨g, o, hA, _, _⟩
  · exact .inl hn
  · exact .inr ⟨g, o, hA, there_of hA h ht⟩

set_option maxRecDepth 100000 in
set_option maxHeartbeats 4000000 in
theorem rowsKeeps_walk (w : World) (A : Option Addr) (c : Nat) (l : List Ch) (more : ByteArray) (hA : Els chE 3 w A l) (hok : okayC l) (hl : l.length ≤ 9223372036854775807) (hms : more.size ≤ 9223372036854775807) :
    Calls Tryz.prog 8 #[.slice A l.length c, .string more] w fun e w' => e = .returned (.bool true) ∧ Only [] w w' := by
  have halive := fun W => alive_any W
  have hlong := fun W (k : Only [] w W) => long_any W A c l (hA.kept k (by simp)) hl
  replace halive := Lib.hid halive
  replace hlong := Lib.hid hlong
  replace hl := Lib.hid hl
  go_enter Tryz.func8, Tryz.ntmps8
  go_wp2_with fail
  refine (halive.out _).mono ?_
  rintro e w1 ⟨rfl, k1⟩
  go_wp2_with fail
  refine (hlong.out w1 k1).mono ?_
  rintro e w2 ⟨⟨r1, rfl, q1⟩, k2⟩
  have k12 := k1.trans k2
  clear k1 k2
  cases r1 with
  | true =>
    clear q1
    go_wp2_with fail
    refine (halive.out _).mono ?_
    rintro e w3 ⟨rfl, k3⟩
    have kend := k12.trans k3
    go_wp2
    go_ret
    exact ⟨rfl, kend⟩
  | false =>
  have hsh := q1 rfl
  clear q1
  have hl80 := hsh.1
  by_cases hbig : (200 : Int) < (more.size : Int)
  · replace hsh := Lib.hid hsh
    clear hms
    go_wp2_with fail
    refine (halive.out _).mono ?_
    rintro e w3 ⟨rfl, k3⟩
    have kend := k12.trans k3
    go_wp2
    go_ret
    exact ⟨rfl, kend⟩
  have hll : (l.length : Int) ≤ 80 := by omega
  have hA2 := hA.kept k12 (by simp)
  have hnew := ownNew_any w2 w2 60 (by decide) (by decide) (Only.refl _ _)
  replace hnew := Lib.hid hnew
  replace hsh := Lib.hid hsh
  replace hl80 := Lib.hid hl80
  go_wp2_with fail
  refine hnew.out.mono ?_
  rintro e w3 ⟨p, F, rfl, hd3, _, _⟩
  go_wp2_with fail
  refine (hd3.rows5 (N := 19) rfl (by decide)).mono ?_
  rintro e w4 ⟨rp, mb, lp, F4, rfl, h4, _, _, _, _, _⟩
  clear hd3 hnew
  have hb5 : (w4.alloc (.cells #[] 59)).ownsRow 0 59 3 (.slice (some ⟨w4.heap.size, 0, none⟩) 0 0) 0 (encs chE []) := World.ownsRow_made w4 #[] 0 (Nat.zero_le _) (by decide) rfl
  have k5 : Only [] w4 (w4.alloc (.cells #[] 59)) := (Only.refl [] w4).alloc _
  have hA5 := hA2.kept (h4.only.trans k5) (by simp)
  go_wp2_with (at_builtin; go_must (refine wpList_append_any chE_length (by decide) chE_one rfl (.tmp 30) (.tmp 31) 37 rfl 59 (.agg #[.string ⟨#[]⟩, .string ⟨#[]⟩, .bool false]) 40 Tryz.underlying37 info_ch rfl (.slice (some ⟨w4.heap.size, 0, none⟩) 0 0) 0 [] rfl hb5 A c l rfl hA5 ?c1 ?c2 ?go))
  case c1 => unfold maxLen; omega
  case c2 => omega
  case go =>
  intro v6 w6 hown6 hg6 hat6
  have k46 : Only [] w4 w6 := k5.grown hg6 (fun j hj => by simp only [Value.ownBlock, Option.some.injEq] at hj; exact .inr (by omega))
  have hnew6 : ∀ j, v6.ownBlock = some j → w4.heap.size ≤ j := fun j hj => by
    rcases hat6 with h | h
    · rw [h] at hj; simp only [Value.ownBlock, Option.some.injEq] at hj; omega
    · rw [h] at hj; injection hj with hj; have := k5.size; omega
  obtain ⟨A6, c6, hv6, hc6, he6, _, _⟩ := els_of_owns chE_length hown6 k46 hnew6
  subst hv6
  have h6 := h4.keep k46
  have hlt6 : ∀ j, (Value.slice A6 l.length c6).ownBlock = some j → j < w6.heap.size := fun j hj => (hown6.lt j hj).2
  have hT4 : ∀ i ∈ rp :: mb :: lp :: F4, i < w4.heap.size := fun i hi => (h4.lt i hi).2
  have hw24 := h4.only.size
  clear hg6 hat6 hb5 k5 h4 hA5
  go_wp2_with fail
  refine (h6.put A6 c6 l (by decide) he6 hok hl.out hc6).mono ?_
  rintro e w7 ⟨x, M, F7, rfl, hp, h7, k7, hF7⟩
  have hown7 := ownsRow_kept' hown6 k7 (fun j hj hm => by
    have := hnew6 j hj
    have := hT4 j (by simp only [List.mem_cons] at hm ⊢; exact .inr hm)
    omega)
  have hT7 : ∀ i ∈ rp :: mb :: lp :: F7, i < w4.heap.size ∨ w6.heap.size ≤ i := fun i hi => by
    simp only [List.mem_cons] at hi
    rcases hi with rfl | rfl | rfl | hi
    · exact .inl (hT4 _ (by simp))
    · exact .inl (hT4 _ (by simp))
    · exact .inl (hT4 _ (by simp))
    · exact (hF7 i hi).imp (fun h => hT4 i (by simp [h])) id
  obtain ⟨S6, hS6, hS6'⟩ : ∃ S6 : List Nat, (∀ j, (Value.slice A6 l.length c6).ownBlock = some j → j ∈ S6) ∧ ∀ i ∈ S6, w4.heap.size ≤ i ∧ i < w6.heap.size :=
    ⟨(Value.slice A6 l.length c6).ownBlock.toList, fun j hj => Option.mem_toList.2 hj, fun i hi => ⟨hnew6 i (Option.mem_toList.1 hi), hlt6 i (Option.mem_toList.1 hi)⟩⟩
  have hA7 := hA2.kept h7.only (by simp)
  have hA7' : ∀ a, A = some a → l = [] ∨ a.block < w4.heap.size := fun a ha => by
    rcases id hA2 with hn | ⟨g, o, hAA, hg, _⟩
    · exact .inl hn
    · rw [ha] at hAA
      injection hAA with hAA
      subst hAA
      have := k46.size
      have := h7.only.size
      exact .inr (by simp only; have := h6.only.size; have := (h6.lt rp (by simp)).1; have h40 := hT4 rp (by simp); omega)
  replace hS6' := Lib.hid hS6'
  replace hT7 := Lib.hid hT7
  replace hA7' := Lib.hid hA7'
  clear hown6 he6 h6 hT4 hlt6 hnew6 k7 hF7 hA2 k46
  go_wp2_with fail
  go_loopw [9] (fun i wr => ∃ (k : Nat) (cur : List Ch), k ≤ l.length ∧ i = .int .i64 k ∧ cur.length = l.length ∧ Hid (∀ j, k ≤ j → cur[j]? = l[j]?) ∧ wr.ownsRow 0 59 3 (.slice A6 l.length c6) l.length (encs chE cur) ∧ Only S6 w7 wr) (fun i _ => l.length - (intOf i).toNat)
  case atStart => exact ⟨0, l, Nat.zero_le _, rfl, rfl, fun _ _ => rfl, hown7, Only.refl _ _⟩
  case round =>
    clear hown7
    obtain ⟨k, cur, hk, rfl, hcl, hcur, hown, honly⟩ := hrel
    by_cases hlt : k < l.length
    · obtain ⟨g6, c6', heq, _, _⟩ := hown.form (by omega)
      injection heq with heq1 _ heq3
      subst heq1
      subst heq3
      have hx : l[k]? = some l[k] := List.getElem?_eq_getElem hlt
      have hkc : k < cur.length := by omega
      have hcx : cur[k] = l[k] := by
        have := hcur.out k (Nat.le_refl _)
        rw [hx, List.getElem?_eq_getElem hkc] at this
        injection this
      obtain ⟨g, o, rfl, hg, hat⟩ := hA7.get hlt
      have hgS : g ∉ S6 := fun hm => by
        rcases hA7'.out _ rfl with h | h
        · rw [h] at hlt; simp at hlt
        · have := (hS6'.out g hm).1
          simp only at h
          omega
      obtain ⟨d0, d1, d2⟩ := chs_at (hat.kept honly hgS) hlt
      have c0 := hown.cells rfl _ _ (encs_at chE_length cur k hkc 0 _ rfl)
      have c1 := hown.cells rfl _ _ (encs_at chE_length cur k hkc 1 _ rfl)
      have c2 := hown.cells rfl _ _ (encs_at chE_length cur k hkc 2 _ rfl)
      rw [addr_add, Nat.zero_add, hcx] at c0 c1 c2
      rw [Nat.add_zero] at c0
      generalize l[k] = x at *
      obtain ⟨xk, xv, xg⟩ := x
      simp only at c0 c1 c2 d0 d1 d2
      generalize strOf xk = ks at *
      generalize strOf xv = vs at *
      have hf0 := ownsRow_free hown (k * 3)
      have hf1 := ownsRow_free hown (k * 3 + 1)
      have hf2 := ownsRow_free hown (k * 3 + 2)
      replace hx := Lib.hid hx
      replace hcx := Lib.hid hcx
      have hgs : g6 ∈ S6 := hS6 g6 rfl
      clear hat hA7
      go_wp2
      go_quiet (fail)
      go_wp2
      go_roundw
      have kq : Only [] wr (wr.drewN nq) := (Only.refl [] wr).drewN nq
      have hown2 := ownsRow_set (i := k * 3 + 2) (ownsRow_set (i := k * 3 + 1) (ownsRow_set (i := k * 3) (ownsRow_kept' hown kq (by simp)) (.string more)) (.string more)) (.bool false)
      case rel =>
        refine ⟨k + 1, cur.set k ⟨more.data.toList, more.data.toList, false⟩, by omega, by go_num, by simp [hcl], fun j hj => ?_, ?_, ?_⟩
        · rw [List.getElem?_set, if_neg (by omega)]
          exact hcur.out j (by omega)
        · rw [chs_set, strOf_toList]
          exact hown2
        · exact (((honly.trans (kq.more (by simp))).setCell (.inl hgs) _).setCell (.inl hgs) _).setCell (.inl hgs) _
      case measure => simp [intOf]; omega
    · have hge : (l.length : Int) ≤ k := by omega
      obtain ⟨wq, rfl⟩ : ∃ wq, wq = wr := ⟨wr, rfl⟩
      have kwr : Only [] w2 wq := h7.only.then honly (fun i hi => .inr (by have := (hS6'.out i hi).1; omega))
      have h8 := h7.beside honly kwr (fun i hi hm => by
        have h1 := hS6'.out i hi
        have h2 := hT7.out i hm
        omega)
      have hall := fun W (k : Only [] wq W) => (h8.keep k).allT
      have hfew : (M.map chOf).length ≤ 1000 := by
        have h1 := h8.good.length
        rw [List.length_map]
        omega
      have hxx : x = 0 ∨ (¬ x = 0 ∧ (M.map chOf).length = 0) := by
        rcases hp with ⟨_, rfl, rfl⟩ | ⟨_, _, rfl, rfl⟩ | ⟨_, _, h, _⟩
        · exact .inr ⟨by decide, rfl⟩
        · exact .inr ⟨by decide, rfl⟩
        · exact .inl h
      generalize hallR : M.map chOf = L at *
      have hfewI : (L.length : Int) ≤ 1000 := by omega
      replace hall := Lib.hid hall
      replace hp := Lib.hid hp
      replace hT7 := Lib.hid hT7
      have hT8 : Hid (∀ i ∈ rp :: mb :: lp :: F7, i < wq.heap.size) := fun i hi => (h8.lt i hi).2
      clear hown honly h7 kwr hA7 hcur
      go_wp2_with fail
      refine (hall.out _ (Only.refl _ _)).mono ?_
      rintro e w9 ⟨v9, rfl, ⟨A9, c9, rfl, hc9, he9, k9, hn9⟩, ht9⟩
      have hth := there_ex he9 ht9
      clear ht9 he9
      go_wp2_with fail
      refine (hall.out _ k9).mono ?_
      rintro e w10 ⟨v10, rfl, ⟨A10, c10, rfl, hc10, he10, k10, hn10⟩, _⟩
      have h10 := (h8.keep k9).keep k10
      have hth10 : L = [] ∨ ∃ g o, A9 = some ⟨g, o, none⟩ ∧ g < w9.heap.size ∧ Open3 w10 g o (L.length * 3) := by
        rcases hth with h | ⟨g, o, hA9, h⟩
        · exact .inl h
        · by_cases hL : L.length = 0
          · exact .inl (List.eq_nil_of_length_eq_zero hL)
          · obtain ⟨v, hv⟩ := h.at (i := 0) (by omega)
            have hgl : g < w9.heap.size := block_lt hv
            exact .inr ⟨g, o, hA9, hgl, fun i hi => by
              obtain ⟨u, hu⟩ := h.at hi
              exact ⟨by rw [k10.cell hu (by simp)]; rfl, (k10.frozen hgl (by simp)).trans (h i hi).2⟩⟩
      obtain ⟨S9, hS9, hS9'⟩ : ∃ S9 : List Nat, (∀ a, A9 = some a → a.block < w9.heap.size → a.block ∈ S9) ∧ ∀ i ∈ S9, wq.heap.size ≤ i ∧ i < w9.heap.size := by
        cases A9 with
        | none => exact ⟨[], (fun a ha => by cases ha), by simp⟩
        | some a =>
          by_cases hb : a.block < w9.heap.size
          · exact ⟨[a.block], fun a' ha _ => by injection ha with ha; subst ha; simp, fun i hi => by simp only [List.mem_singleton] at hi; subst hi; exact ⟨hn9 a rfl, hb⟩⟩
          · exact ⟨[], fun a' ha h => by injection ha with ha; subst ha; exact absurd h hb, by simp⟩
      replace hS9' := Lib.hid hS9'
      replace hn10 := Lib.hid hn10
      replace hn9 := Lib.hid hn9
      clear h8 hth
      go_wp2_with fail
      go_loopw [12] (fun i wz => ∃ k : Nat, k ≤ L.length ∧ i = .int .i64 k ∧ (L = [] ∨ ∃ g o, A9 = some ⟨g, o, none⟩ ∧ g < w9.heap.size ∧ Open3 wz g o (L.length * 3)) ∧ Only S9 w10 wz) (fun i _ => L.length - (intOf i).toNat)
      case atStart => exact ⟨0, Nat.zero_le _, rfl, hth10, Only.refl _ _⟩
      case round =>
        clear hth10
        obtain ⟨k', hk', rfl, hth, honly⟩ := hrel
        by_cases hlt' : k' < L.length
        · rcases hth with hn | ⟨g, o, rfl, hgl, hth⟩
          · rw [hn] at hlt'; simp at hlt'
          obtain ⟨u0, c0⟩ := hth.at (i := k' * 3) (by omega)
          obtain ⟨u1, c1⟩ := hth.at (i := k' * 3 + 1) (by omega)
          obtain ⟨u2, c2⟩ := hth.at (i := k' * 3 + 2) (by omega)
          have f0 := (hth (k' * 3) (by omega)).2
          have f1 := (hth (k' * 3 + 1) (by omega)).2
          have f2 := (hth (k' * 3 + 2) (by omega)).2
          rw [← Nat.add_assoc] at c1 c2 f1 f2
          have hgs : g ∈ S9 := hS9 _ rfl hgl
          go_wp2
          go_roundw
          case rel =>
            refine ⟨k' + 1, by omega, by go_num, .inr ⟨g, o, rfl, hgl, ?_⟩, ?_⟩
            · exact ((hth.put _ _).put _ _).put _ _
            · exact ((honly.setCell (.inl hgs) _).setCell (.inl hgs) _).setCell (.inl hgs) _
          case measure => simp [intOf]; omega
        · have hge' : (L.length : Int) ≤ k' := by omega
          have hws : w2.heap.size ≤ wq.heap.size := by have h1 := (h10.lt rp (by simp)).1; have h2 := hT8.out rp (by simp); omega
          have kwz : Only [] w2 wr := h10.only.then honly (fun i hi => .inr (by have := (hS9'.out i hi).1; omega))
          have h11 := h10.beside honly kwz (fun i hi hm => by
            have h1 := (hS9'.out i hi).1
            have h2 := hT8.out i hm
            omega)
          have he11 := he10.kept honly (fun a ha hm => by
            have h1 := (hS9'.out _ hm).2
            have h2 := hn10.out a ha
            omega)
          have hall2 := fun W (k : Only [] wr W) => (h11.keep k).all
          have kall : Only [] w wr := k12.trans kwz
          rw [hallR] at hall2
          replace hall2 := Lib.hid hall2
          clear h10 h11 honly hth he10 kwz
          go_wp2_with fail
          refine (halive.out _).mono ?_
          rintro e w12 ⟨rfl, k12'⟩
          go_wp2_with fail
          refine (hall2.out _ k12').mono ?_
          rintro e w13 ⟨v13, rfl, A13, c13, rfl, _, he13, k13, _⟩
          have k1213 := k12'.trans k13
          go_wp2_with fail
          refine (same5_any w13 A10 A13 c10 c13 L L (he11.kept k1213 (by simp)) he13 (by omega)).mono ?_
          rintro e w14 ⟨⟨r, rfl, hr⟩, k14⟩
          obtain rfl : r = true := hr.2 rfl
          have kend := kall.trans (k1213.trans k14)
          clear he11 he13 k12' k13 k1213 k14 hr kall
          rcases hxx with rfl | ⟨hx0, hL0⟩
          · go_wp2
            go_ret
            exact ⟨rfl, kend⟩
          · have hL0' : (L.length : Int) = 0 := by omega
            go_wp2
            go_ret
            exact ⟨rfl, kend⟩
end Go.Proofs.YthpjkhmkjhgbkaaGreatDoor
