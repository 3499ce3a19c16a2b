/- A row of holders of the call's own: appended to, copied into, cleared (of the library's slices functions: Clone, Delete, Insert). -/
import Derived.Test.YtnmmdnecojgccaaOp12
import Derived.Lib.AppendZerosOnto
import Derived.Lib.AppendZeros
import Derived.Lib.Overlaps
import Derived.Laws.IdiomCopy
import Derived.Lib.SliceRun
import Derived.Deep.Upon
namespace Go.Proofs.Ytnmmdnecojgccaa
open Go.RowKit

section
variable {α : Type} {enc : α → List Value} {k : Nat} {w : World}
theorem els_news (hk : ∀ x, (enc x).length = k) (h0 : 0 < k) {g o : Nat} {l : List α} (h : ElsAt enc k w g o l) : ∀ j u, (encs enc l)[j]? = some u → w.cell? ((⟨g, o, none⟩ : Addr).add j) = some u := by
  intro j u hu
  rw [addr_add]
  have hj : j < l.length * k := by
    have := (List.getElem?_eq_some_iff.1 hu).1
    rwa [encs_length hk] at this
  have hi : j / k < l.length := Nat.div_lt_of_lt_mul (by rw [Nat.mul_comm]; exact hj)
  have hr : j % k < (enc l[j / k]).length := by rw [hk]; exact Nat.mod_lt _ h0
  have hv := List.getElem?_eq_getElem hr
  have e : j / k * k + j % k = j := by rw [Nat.mul_comm]; exact Nat.div_add_mod j k
  have h1 := encs_at hk l (j / k) hi (j % k) _ hv
  rw [e, hu] at h1
  injection h1 with h1
  have h2 := h (j / k) hi (j % k) _ hv
  rw [Nat.add_assoc, e, ← h1] at h2
  exact h2
theorem encs_append (l m : List α) : encs enc (l ++ m) = encs enc l ++ encs enc m := by simp [encs]
variable {P : Program}
/-- 'append(s, y...)'. -/
theorem wpList_append_els (hk : ∀ x, (enc x).length = k) (h0 : 0 < k) (h1 : ∀ x, ∀ v ∈ enc x, v.oneCell' = true) {ops : Array Oper} {rest : List Oper} {o : Oper} {a : Act} {Q : Exit → Act → World → Prop} (hgd : o.guard = none) (s y : Operand) (t : TypeId)
    (ho : o.op = .call { callee := .builtin .append, args := #[s, y], argTypes := #[t, t] })
    (e : TypeId) (z : Value) (bytes : Nat) (ht : P.underlying t = some (.slice e)) (hinfo : (P.info? e).map (fun i => (i.zero, i.size, i.bytes)) = some (some z, k, bytes)) (hzs : z.cells.size = k)
    (v : Value) (n : Nat) (xs : List α) (hs : a.eval s = v) (hown : w.ownsRow 0 e k v n (encs enc xs))
    (g p m c : Nat) (ys : List α) (hm : m = ys.length) (hx : a.eval y = .slice (some ⟨g, p, none⟩) m c) (hsrc : ElsAt enc k w g p ys)
    (h63 : n + m ≤ maxLen) (hbytes : (n + m) * bytes ≤ 140737488355328)
    (h : ∀ v' w', w'.ownsRow 0 e k v' (n + m) (encs enc (xs ++ ys)) → w.grownBy w' v.ownBlock → (v'.ownBlock = v.ownBlock ∨ v'.ownBlock = some w.heap.size) → wpList P ops Q rest (a.put o.dst v') w') : wpList P ops Q (o :: rest) a w := by
  subst hm
  refine wpList_plain hgd fun K hK => ?_
  obtain ⟨i, hi, hz0, hz1, hz2⟩ := info_parts hinfo
  obtain ⟨v', w', hrun, h2, h3, _, h4⟩ := run_append_own_at (P := P) w 0 t o.type e i z k bytes ht hi hz0 hz1 hz2 hzs h0 v n (encs enc xs) hown ⟨g, p, none⟩ ys.length c (encs enc ys) (encs_length hk ys) (els_news hk h0 hsrc) (encs_one h1 ys) h63 hbytes (Nat.zero_le _)
  rw [← encs_append] at h2
  unfold Oper.wp execOp
  simp only [ho, resolve, invoke, builtin, Sem.run_bind, Sem.run_pure, Result.andThen_ok, List.map_toArray, List.map_cons, List.map_nil, hs, hx, hrun]
  exact hK _ _ (h v' w' h2 h3 h4)
/-- .. y empty or not. -/
theorem wpList_append_any (hk : ∀ x, (enc x).length = k) (h0 : 0 < k) (h1 : ∀ x, ∀ v ∈ enc x, v.oneCell' = true) {ops : Array Oper} {rest : List Oper} {o : Oper} {a : Act} {Q : Exit → Act → World → Prop} (hgd : o.guard = none) (s y : Operand) (t : TypeId)
    (ho : o.op = .call { callee := .builtin .append, args := #[s, y], argTypes := #[t, t] })
    (e : TypeId) (z : Value) (bytes : Nat) (ht : P.underlying t = some (.slice e)) (hinfo : (P.info? e).map (fun i => (i.zero, i.size, i.bytes)) = some (some z, k, bytes)) (hzs : z.cells.size = k)
    (v : Value) (n : Nat) (xs : List α) (hs : a.eval s = v) (hown : w.ownsRow 0 e k v n (encs enc xs))
    (A : Option Addr) (c : Nat) (ys : List α) (hx : a.eval y = .slice A ys.length c) (hsrc : Els enc k w A ys)
    (h63 : n + ys.length ≤ maxLen) (hbytes : (n + ys.length) * bytes ≤ 140737488355328)
    (h : ∀ v' w', w'.ownsRow 0 e k v' (n + ys.length) (encs enc (xs ++ ys)) → w.grownBy w' v.ownBlock → (v'.ownBlock = v.ownBlock ∨ v'.ownBlock = some w.heap.size) → wpList P ops Q rest (a.put o.dst v') w') : wpList P ops Q (o :: rest) a w := by
  rcases hsrc with hnil | ⟨g, p, rfl, hg, hat⟩
  · subst hnil
    refine wpList_plain hgd fun K hK => ?_
    obtain ⟨i, hi, hz0, hz1, hz2⟩ := info_parts hinfo
    have hsrc : Src P i.size t (.slice A 0 c) 0 [] w := by
      cases A with
      | none => exact Src.ofNil w ht c
      | some a => exact Src.ofSlice w ht a 0 c [] (by simp) (fun j u hj => by simp at hj) (fun _ h => by cases h)
    have hrun : (Builtin.append_ #[t, t] o.type #[v, .slice A 0 c]).run P w = .ok v w := by
      rcases id hown.2 with ⟨rfl, rfl⟩ | ⟨g, cap, cur, rfl, _, _, hnc, _⟩
      · exact run_append_nothing w t t o.type e i ht hi none 0 0 (Nat.le_refl _) _ hsrc
      · exact run_append_nothing w t t o.type e i ht hi _ n cap hnc _ hsrc
    simp only [List.length_nil] at hx
    unfold Oper.wp execOp
    simp only [ho, resolve, invoke, builtin, Sem.run_bind, Sem.run_pure, Result.andThen_ok, List.map_toArray, List.map_cons, List.map_nil, hs, hx, hrun]
    exact hK _ _ (h v w (by simpa using hown) (World.grownBy.refl _ _) (.inl rfl))
  · exact wpList_append_els hk h0 h1 hgd s y t ho e z bytes ht hinfo hzs v n xs hs hown g p ys.length c ys rfl hx hat h63 hbytes h
end
theorem own_empty {w : World} {e : TypeId} {k g : Nat} (h : Blk w g e #[]) : w.ownsRow 0 e k (.slice (some ⟨g, 0, none⟩) 0 0) 0 [] :=
  ⟨by simp, .inr ⟨g, 0, #[], rfl, Nat.zero_le _, h, Nat.le_refl _, Nat.zero_le _, by simp, by simp⟩⟩


/-- A row with other cells from o on. -/
def ins (cur : Array Value) (o : Nat) (vs : List Value) : Array Value := (cur.toList.take o ++ vs ++ cur.toList.drop (o + vs.length)).toArray
theorem ins_size {cur : Array Value} {o : Nat} {vs : List Value} (h : o + vs.length ≤ cur.size) : (ins cur o vs).size = cur.size := by
  simp only [ins, List.size_toArray, List.length_append, List.length_take, List.length_drop, Array.length_toList]
  omega
theorem ins_two {A : Array Value} {E1 E2 T X : List Value} (hA : A.toList = E1 ++ (E2 ++ T)) (hT : X.length ≤ T.length) : ∃ T', (ins (ins A (E1.length + X.length) E2) E1.length X).toList = E1 ++ X ++ E2 ++ T' := by
  refine ⟨A.toList.drop (E1.length + X.length + E2.length), ?_⟩
  have h1 : A.toList.take (E1.length + X.length) = E1 ++ (E2 ++ T).take X.length := by
    rw [hA, List.take_append, List.take_of_length_le (l := E1) (by omega)]
    congr 2
    omega
  have hy : ((E2 ++ T).take X.length).length = X.length := by simp; omega
  generalize (E2 ++ T).take X.length = Y at *
  unfold ins
  simp only [h1]
  have h2 : (E1 ++ Y ++ E2 ++ A.toList.drop (E1.length + X.length + E2.length)).take E1.length = E1 := by
    rw [List.append_assoc, List.append_assoc, List.take_left]
  have h3 : (E1 ++ Y ++ E2 ++ A.toList.drop (E1.length + X.length + E2.length)).drop (E1.length + X.length) = E2 ++ A.toList.drop (E1.length + X.length + E2.length) := by
    rw [List.append_assoc, show E1.length + X.length = (E1 ++ Y).length by simp [hy], List.drop_left]
  simp only [h2, h3]
  simp
theorem ins_next {A : Array Value} {E1 T X E2 : List Value} (hA : A.toList = E1 ++ T) : ∃ T', (ins (ins A E1.length X) (E1.length + X.length) E2).toList = E1 ++ X ++ E2 ++ T' := by
  refine ⟨(ins A E1.length X).toList.drop (E1.length + X.length + E2.length), ?_⟩
  have h1 : (ins A E1.length X).toList.take (E1.length + X.length) = E1 ++ X := by
    unfold ins
    simp only [hA, List.take_left]
    rw [show E1.length + X.length = (E1 ++ X).length by simp, List.take_left]
  have e : ∀ (B : Array Value) (o : Nat) (vs : List Value), (ins B o vs).toList = B.toList.take o ++ vs ++ B.toList.drop (o + vs.length) := fun _ _ _ => rfl
  rw [e, h1]
section
variable {P : Program} {w : World} {g o : Nat} {cur : Array Value} {vs : List Value}
theorem Blk.ins (h : Blk w g 47 cur) (o : Nat) (vs : List Value) : Blk (w.setRow g (ins cur o vs)) g 47 (ins cur o vs) := setRow_heap w g cur _ 47 _ h
theorem Only.row (w : World) (g : Nat) (c : Array Value) : Only [g] w (w.setRow g c) := (Only.refl [g] w).setRow (.inl (by simp)) _
end
theorem run_copy_ops (w : World) (ty : TypeId) (g o dLen dCap : Nat) (a : Addr) (sLen sCap : Nat) (cur : Array Value) (cs : List Value)
    (hg : Blk w g 47 cur) (hn : cs.length = Nat.min sLen dLen * 2)
    (hsrc : ∀ j v, cs[j]? = some v → w.cell? (a.add j) = some v) (hfit : o + cs.length ≤ cur.size) (h1 : ∀ v ∈ cs, v.oneCell' = true) :
    (Builtin.copy_ #[23, 23] ty #[.slice (some ⟨g, o, none⟩) dLen dCap, .slice (some a) sLen sCap]).run Try.prog w = .ok (goInt (Nat.min sLen dLen)) (w.setRow g (ins cur o cs)) := by
  have hf := run_firstCells_some (P := Try.prog) w 2 (Nat.min sLen dLen) a sLen sCap cs hn hsrc
  have hst := run_storeCells_at Try.prog g o 47 cs 0 cur w hg (by simpa using hfit) h1
  simp only [Nat.add_zero] at hst
  simp only [Builtin.copy_, Sem.run_bind, run_underlying Try.underlying23, Result.andThen_ok, Builtin.lenOf, Sem.run_pure, size_hol', hf, hst, List.getElem?_toArray, List.getElem?_cons_zero, List.getElem?_cons_succ]
  rfl
theorem run_append_ops (w : World) (ty : TypeId) (g n c : Nat) (a : Addr) (m mc : Nat) (cur : Array Value) (cs : List Value)
    (hg : Blk w g 47 cur) (hn : cs.length = m * 2) (hsrc : ∀ j v, cs[j]? = some v → w.cell? (a.add j) = some v) (hroom : n + m ≤ c) (hfit : n * 2 + cs.length ≤ cur.size) (h1 : ∀ v ∈ cs, v.oneCell' = true) :
    (Builtin.append_ #[23, 23] ty #[.slice (some ⟨g, 0, none⟩) n c, .slice (some a) m mc]).run Try.prog w = .ok (.slice (some ⟨g, 0, none⟩) (n + m) c) (w.setRow g (ins cur (n * 2) cs)) := by
  obtain ⟨i, hi, hz0, hz1, hz2⟩ := info_parts info_hol
  have := run_append_room (P := Try.prog) w 23 ty 47 i Try.underlying23 hi g n c cur hg a m mc cs (by rw [hz1]; exact hn) hsrc h1 hroom (by rw [hz1]; exact hfit)
  rw [hz1] at this
  exact this
def zeroE : List Value := [.int .u32 0, .int .u32 0]
theorem zeroValue_op : ∀ w, (zeroValue 47).run Try.prog w = .ok (.agg #[.int .u32 0, .int .u32 0]) w := Try.zeroValue47
theorem run_clear_op (w : World) (ty : TypeId) (g o c : Nat) (cur : Array Value) (hg : Blk w g 47 cur) (hfit : o + 2 ≤ cur.size) :
    (Builtin.clear_ #[23] ty #[.slice (some ⟨g, o, none⟩) 1 c]).run Try.prog w = .ok (.tuple #[]) (w.setRow g (ins cur o zeroE)) := by
  have hst := run_storeCells_at Try.prog g o 47 zeroE 0 cur w hg (by simpa [zeroE] using hfit) (by simp [zeroE, Value.oneCell'])
  simp only [Nat.add_zero] at hst
  have hzc : (Builtin.zeroCells (Value.agg #[.int .u32 0, .int .u32 0]).cells 1).toList = zeroE := by kernel_rfl
  simp only [Builtin.clear_, Sem.run_bind, run_underlying Try.underlying23, Result.andThen_ok, Sem.run_pure, zeroValue_op, hzc, hst, List.getElem?_toArray, List.getElem?_cons_zero]
  rfl
/-- A list that lies in blocks S, or in what was made since w. -/
structure Hs (S : List Nat) (w w' : World) (v : Value) (l : List Hol) : Prop where
  own : w'.ownsRow 0 47 2 v l.length (encs holE l)
  new : ∀ g, v.ownBlock = some g → g ∈ S ∨ w.heap.size ≤ g
  only : Only S w w'
/-- What is answered: such a list. -/
def HsAns (S : List Nat) (w w' : World) (e : Ending) (l : List Hol) : Prop := ∃ v, e = .returned v ∧ Hs S w w' v l
section
variable {S : List Nat} {w w1 w2 : World} {v v' : Value} {l : List Hol}
theorem Hs.start (h : Only S w w1) : Hs S w w1 (.slice none 0 0) [] := ⟨⟨by simp [encs], .inl ⟨rfl, rfl⟩⟩, fun g hg => by simp [Value.ownBlock] at hg, h⟩
theorem Hs.keep (h : Hs S w w1 v l) {T : List Nat} (kk : Only T w1 w2) (hT : ∀ i ∈ T, i ∈ S ∨ w.heap.size ≤ i) (hv : ∀ g, v.ownBlock = some g → g ∉ T) : Hs S w w2 v l := ⟨ownsRow_kept' h.own kk hv, h.new, h.only.then kk hT⟩
theorem Hs.kept (h : Hs S w w1 v l) (kk : Only [] w1 w2) : Hs S w w2 v l := h.keep kk (by simp) (by simp)
theorem Hs.pushed (h : Hs S w w1 v l) {x : Hol} (h1 : w2.ownsRow 0 47 2 v' (l.length + 1) (encs holE (l ++ [x]))) (h2 : w1.grownBy w2 v.ownBlock) (h3 : v'.ownBlock = v.ownBlock ∨ v'.ownBlock = some w1.heap.size) : Hs S w w2 v' (l ++ [x]) := by
  refine ⟨by rw [List.length_append]; exact h1, fun g hg => ?_, h.only.grown h2 (fun j hj => h.new j hj)⟩
  rcases h3 with h3 | h3
  · exact h.new g (by rw [← h3]; exact hg)
  · rw [h3] at hg
    injection hg with hg
    have := h.only.size
    omega
theorem Hs.shape (h : Hs S w w1 v l) : ∃ A c, v = .slice A l.length c ∧ Els holE 2 w1 A l ∧ l.length ≤ c ∧ (∀ a, A = some a → a.block ∈ S ∨ w.heap.size ≤ a.block) ∧ (∀ a, A = some a → v.ownBlock = some a.block) := by
  rcases id h.own.2 with ⟨rfl, h0⟩ | ⟨g, cap, cur, rfl, hb, hg, hn, r⟩
  · have hl : l = [] := List.eq_nil_of_length_eq_zero h0
    subst hl
    exact ⟨none, 0, rfl, .inl rfl, Nat.le_refl _, by simp, by simp⟩
  · refine ⟨_, _, rfl, ?_, hn, fun a ha => ?_, fun a ha => ?_⟩
    · by_cases h0 : l = []
      · exact .inl h0
      · refine .inr ⟨g, 0, rfl, (h.own.lt g rfl).2, fun i hi j u hu => ?_⟩
        have q := h.own.cells rfl _ _ (encs_at holE_length l i hi j u hu)
        rw [addr_add, Nat.zero_add] at q
        rw [Nat.zero_add]
        exact q
    · injection ha with ha
      subst ha
      exact h.new g rfl
    · injection ha with ha
      subst ha
      rfl
/-- .. the row's block, laid open. -/
theorem Hs.row (h : Hs S w w1 v l) (hl : l ≠ []) : ∃ g c cur T, v = .slice (some ⟨g, 0, none⟩) l.length c ∧ (g ∈ S ∨ w.heap.size ≤ g) ∧ Blk w1 g 47 cur ∧ l.length ≤ c ∧ c ≤ maxLen ∧ cur.size = c * 2 ∧ cur.toList = encs holE l ++ T ∧ ElsAt holE 2 w1 g 0 l := by
  have hpos := List.length_pos_iff.2 hl
  rcases id h.own.2 with ⟨_, h0⟩ | ⟨g, cap, cur, rfl, _, hg, hn, hm, hs, ht⟩
  · omega
  · refine ⟨g, cap, cur, cur.toList.drop (l.length * 2), rfl, h.new g rfl, hg, hn, hm, hs, ?_, fun i hi j u hu => ?_⟩
    · rw [← ht, List.take_append_drop]
    · have q := h.own.cells rfl _ _ (encs_at holE_length l i hi j u hu)
      rw [addr_add, Nat.zero_add] at q
      rw [Nat.zero_add]
      exact q
/-- .. and put together again. -/
theorem Hs.of_row {g c : Nat} {cur : Array Value} {T : List Value} (hg : g ∈ S ∨ w.heap.size ≤ g) (hb : Blk w1 g 47 cur) (hc : l.length ≤ c) (hm : c ≤ maxLen) (hs : cur.size = c * 2) (ht : cur.toList = encs holE l ++ T) (hk : Only S w w1) :
    Hs S w w1 (.slice (some ⟨g, 0, none⟩) l.length c) l :=
  ⟨⟨encs_length holE_length l, .inr ⟨g, c, cur, rfl, Nat.zero_le _, hb, hc, hm, hs, by rw [ht, ← encs_length holE_length l, List.take_left]⟩⟩, fun j hj => by have hj : g = j := Option.some.inj hj; subst hj; exact hg, hk⟩
theorem Only.own {g : Nat} (h : Only S w w1) (k : Only [g] w1 w2) (hg : g ∈ S ∨ w.heap.size ≤ g) : Only S w w2 := h.then k (by intro i hi; simp at hi; subst hi; exact hg)
theorem Hs.one (h : Hs S w w1 v l) : v.oneCell' = true := by
  obtain ⟨A, c, rfl, _⟩ := h.shape
  rfl
end

set_option maxRecDepth 100000 in
set_option maxHeartbeats 2000000 in
theorem clone_any (w : World) (A : Option Addr) (c : Nat) (l : List Hol) (hb : Els holE 2 w A l) (hl : l.length ≤ 1000) :
    Calls Try.prog 34 #[.slice A l.length c] w fun e w' => HsAns [] w w' e l := by
  have hnil : ∀ W, (binOp .eql 23 (.slice A l.length c) (.slice none 0 0)).run Try.prog W = .ok (.bool A.isNone) W := fun W => Lib.run_eql_slice_nil W 23 47 _ _ _ _ _ Try.underlying23
  cases A with
  | none =>
    have h0 : l = [] := by
      rcases hb with h | ⟨g, o, h, _⟩
      · exact h
      · cases h
    subst h0
    simp only [Option.isNone_none, List.length_nil] at hnil ⊢
    go_enter Try.func34, Try.ntmps34
    go_wp2
    go_ret
    exact ⟨_, rfl, Hs.start (Only.refl [] w)⟩
  | some ad =>
    simp only [Option.isNone_some] at hnil
    have hk0 : Only [] w (w.alloc (.cells #[] 47)) := (Only.refl [] w).alloc _
    have hown : (w.alloc (.cells #[] 47)).ownsRow 0 47 2 (.slice (some ⟨w.heap.size, 0, none⟩) 0 0) 0 (encs holE []) := own_empty (Blk.new _ _ _)
    have hb2 : Els holE 2 (w.alloc (.cells #[] 47)) (some ad) l := hb.kept hk0 (by simp)
    go_enter Try.func34, Try.ntmps34
    go_wp2_with (at_builtin; go_must (refine wpList_append_any holE_length (by decide) holE_one rfl _ _ 23 rfl 47 _ 8 Try.underlying23 info_hol rfl _ 0 [] rfl hown (some ad) c l rfl hb2 (by unfold maxLen; omega) (by omega) ?_); intro vv w6 h6 g6 a6)
    have hm : Hs [] w w6 vv l := by
      rw [Nat.zero_add, List.nil_append] at h6
      refine ⟨h6, fun j hj => ?_, hk0.grown g6 (fun j hj => ?_)⟩
      · rcases a6 with a6 | a6
        · rw [a6] at hj; have hj : w.heap.size = j := Option.some.inj hj; omega
        · rw [a6] at hj; injection hj with hj; simp at hj; omega
      · have hj : w.heap.size = j := Option.some.inj hj; right; omega
    replace hm := Lib.hid hm
    clear h6 g6 a6 hown hb2
    go_wp2
    go_ret
    exact ⟨_, rfl, hm.out⟩
end Go.Proofs.Ytnmmdnecojgccaa
