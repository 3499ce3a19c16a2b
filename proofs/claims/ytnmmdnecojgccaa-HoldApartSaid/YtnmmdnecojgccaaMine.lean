/- Slices of structs of k cells: in memory, made by appends (of no program). -/
import Derived.Test.YtnmmdnecojgccaaApp
import Derived.Laws.StructEq
import Derived.Deep.AppendLies
namespace Go.Proofs.Ytnmmdnecojgccaa
open Go.RowKit

theorem snoc_ind {α : Type} {p : List α → Prop} (h0 : p []) (h1 : ∀ l x, p l → p (l ++ [x])) : ∀ l, p l := fun l => by
  have h : ∀ r : List α, p r.reverse := by
    intro r
    induction r with
    | nil => exact h0
    | cons a r ih => rw [List.reverse_cons]; exact h1 _ _ ih
  have := h l.reverse
  rwa [List.reverse_reverse] at this

section
variable {α : Type}
theorem flat_len (c : Nat) : ∀ (L : List (List α)), (∀ b ∈ L, b.length = c) → L.flatten.length = L.length * c
  | [], _ => by simp
  | b :: L, h => by
    simp only [List.flatten_cons, List.length_append, List.length_cons, flat_len c L (fun x hx => h x (by simp [hx])), h b (by simp), Nat.succ_mul]
    omega

theorem flat_at (c : Nat) : ∀ (L : List (List α)) (k j : Nat) (b : List α) (v : α), (∀ b ∈ L, b.length = c) → L[k]? = some b → b[j]? = some v → L.flatten[k * c + j]? = some v
  | [], k, j, b, v, _, hk, _ => by simp at hk
  | x :: L, 0, j, b, v, h, hk, hj => by
    simp only [List.getElem?_cons_zero, Option.some.injEq] at hk
    subst hk
    have hl : j < x.length := (List.getElem?_eq_some_iff.1 hj).1
    rw [List.flatten_cons, Nat.zero_mul, Nat.zero_add, List.getElem?_append_left hl]
    exact hj
  | x :: L, k + 1, j, b, v, h, hk, hj => by
    rw [List.getElem?_cons_succ] at hk
    have hx := h x (by simp)
    rw [List.flatten_cons, List.getElem?_append_right (by rw [hx, Nat.succ_mul]; omega), hx]
    have e : (k + 1) * c + j - c = k * c + j := by rw [Nat.succ_mul]; omega
    rw [e]
    exact flat_at c L k j b v (fun y hy => h y (by simp [hy])) hk hj

theorem flat_set (c : Nat) : ∀ (L : List (List α)) (k : Nat) (b : List α), (∀ b ∈ L, b.length = c) → k < L.length → b.length = c →
    (L.set k b).flatten = L.flatten.take (k * c) ++ (b ++ L.flatten.drop (k * c + c))
  | [], k, b, _, hk, _ => by simp at hk
  | x :: L, 0, b, h, hk, hb => by
    have hx := h x (by simp)
    simp only [List.set_cons_zero, List.flatten_cons, Nat.zero_mul, List.take_zero, List.nil_append, Nat.zero_add]
    rw [List.drop_append, ← hx]
    simp
  | x :: L, k + 1, b, h, hk, hb => by
    have hx := h x (by simp)
    have t1 : (x ++ L.flatten).take (k * c + c) = x ++ L.flatten.take (k * c) := by
      rw [List.take_append, hx, List.take_of_length_le (l := x) (by omega)]
      congr 2
      omega
    have t2 : (x ++ L.flatten).drop (k * c + c + c) = L.flatten.drop (k * c + c) := by
      rw [List.drop_append, hx, List.drop_of_length_le (l := x) (by omega)]
      simp only [List.nil_append]
      congr 1
      omega
    rw [List.set_cons_succ, List.flatten_cons, flat_set c L k b (fun y hy => h y (by simp [hy])) (by simpa using hk) hb, List.flatten_cons, Nat.succ_mul, t1, t2, List.append_assoc]
end

theorem Only.set (w : World) (F : List Nat) {p i : Nat} (hp : p ∈ F) (u : Value) : Only F w (w.setCell ⟨p, i, none⟩ u) := (Only.refl F w).setCell (.inl hp) u

theorem ownsRow_kept' {S : List Nat} {w w' : World} {e : TypeId} {z : Nat} {v : Value} {n : Nat} {xs : List Value} (h : w.ownsRow 0 e z v n xs) (k : Only S w w') (hv : ∀ g, v.ownBlock = some g → g ∉ S) : w'.ownsRow 0 e z v n xs := by
  refine ⟨h.1, ?_⟩
  rcases h.2 with h0 | ⟨g, cap, cur, rfl, hb, hg, r⟩
  · exact .inl h0
  · exact .inr ⟨g, cap, cur, rfl, hb, by rw [k.block g (Array.getElem?_eq_some_iff.1 hg).1 (hv g rfl)]; exact hg, r⟩

section
variable {α : Type}
def encs (enc : α → List Value) (l : List α) : List Value := (l.map enc).flatten
def ElsAt (enc : α → List Value) (k : Nat) (w : World) (g o : Nat) (l : List α) : Prop := ∀ i (h : i < l.length) j v, (enc l[i])[j]? = some v → w.cell? ⟨g, o + i * k + j, none⟩ = some v
def Els (enc : α → List Value) (k : Nat) (w : World) (A : Option Addr) (l : List α) : Prop := l = [] ∨ ∃ g o, A = some ⟨g, o, none⟩ ∧ g < w.heap.size ∧ ElsAt enc k w g o l
variable {enc : α → List Value} {k : Nat} {w w' : World} {A : Option Addr} {l : List α}
theorem ElsAt.kept {S : List Nat} {g o : Nat} (h : ElsAt enc k w g o l) (kk : Only S w w') (hg : g ∉ S) : ElsAt enc k w' g o l := fun i hi j v hv => kk.cell (h i hi j v hv) hg
theorem Els.kept {S : List Nat} (h : Els enc k w A l) (kk : Only S w w') (hA : ∀ a, A = some a → a.block ∉ S) : Els enc k w' A l := by
  rcases h with h | ⟨g, o, rfl, hg, hc⟩
  · exact .inl h
  · exact .inr ⟨g, o, rfl, Nat.lt_of_lt_of_le hg kk.size, hc.kept kk (hA _ rfl)⟩
theorem Els.get (h : Els enc k w A l) {i : Nat} (hi : i < l.length) : ∃ g o, A = some ⟨g, o, none⟩ ∧ g < w.heap.size ∧ ElsAt enc k w g o l := by
  rcases h with rfl | h
  · simp at hi
  · exact h
theorem encs_snoc (l : List α) (x : α) : encs enc (l ++ [x]) = encs enc l ++ enc x := by simp [encs]
theorem encs_length (hk : ∀ x, (enc x).length = k) (l : List α) : (encs enc l).length = l.length * k := by
  unfold encs
  rw [flat_len k _ (by intro b hb; simp only [List.mem_map] at hb; obtain ⟨y, _, rfl⟩ := hb; exact hk y), List.length_map]
theorem encs_at (hk : ∀ x, (enc x).length = k) (l : List α) (i : Nat) (hi : i < l.length) (j : Nat) (v : Value) (hv : (enc l[i])[j]? = some v) : (encs enc l)[i * k + j]? = some v :=
  flat_at k _ i j (enc l[i]) v (by intro b hb; simp only [List.mem_map] at hb; obtain ⟨y, _, rfl⟩ := hb; exact hk y) (by simp [hi]) hv
theorem encs_one (h1 : ∀ x, ∀ v ∈ enc x, v.oneCell' = true) (l : List α) : ∀ v ∈ encs enc l, v.oneCell' = true := by
  intro v hv
  simp only [encs, List.mem_flatten, List.mem_map] at hv
  obtain ⟨b, ⟨x, _, rfl⟩, hv⟩ := hv
  exact h1 x v hv

/-- A list that a call made. -/
def NewEls (enc : α → List Value) (k : Nat) (w w' : World) (v : Value) (l : List α) : Prop :=
  ∃ A c, v = .slice A l.length c ∧ l.length ≤ c ∧ Els enc k w' A l ∧ Only [] w w' ∧ ∀ a, A = some a → w.heap.size ≤ a.block
theorem els_of_owns {e : TypeId} {v : Value} (hk : ∀ x, (enc x).length = k) (h : w'.ownsRow 0 e k v l.length (encs enc l)) (kk : Only [] w w') (hnew : ∀ g, v.ownBlock = some g → w.heap.size ≤ g) : NewEls enc k w w' v l := by
  by_cases h0 : l.length = 0
  · obtain rfl : l = [] := List.eq_nil_of_length_eq_zero h0
    rcases id h.2 with ⟨rfl, _⟩ | ⟨g, cap, cur, rfl, hb, hg, r⟩
    · exact ⟨none, 0, rfl, Nat.le_refl _, .inl rfl, kk, by simp⟩
    · exact ⟨_, _, rfl, Nat.zero_le _, .inl rfl, kk, fun a ha => by injection ha with ha; subst ha; exact hnew g rfl⟩
  · obtain ⟨g, c, rfl, _, _⟩ := h.form (by omega)
    have hc : l.length ≤ c := by
      rcases id h.2 with ⟨hv, _⟩ | ⟨g', cap, cur, hv, _, _, hnc, _⟩
      · cases hv
      · injection hv with _ _ hv
        subst hv
        exact hnc
    refine ⟨_, _, rfl, hc, .inr ⟨g, 0, rfl, (h.lt g rfl).2, fun i hi j u hu => ?_⟩, kk, fun a ha => by injection ha with ha; subst ha; exact hnew g rfl⟩
    have q := h.cells rfl _ _ (encs_at hk l i hi j u hu)
    rw [addr_add, Nat.zero_add] at q
    rw [Nat.zero_add]
    exact q

variable {P : Program}
theorem run_push (t ty e : TypeId) (z : Value) (bytes : Nat) (hk : ∀ x, (enc x).length = k) (h0 : 0 < k) (h1 : ∀ x, ∀ v ∈ enc x, v.oneCell' = true) (ht : P.underlying t = some (.slice e)) (hinfo : (P.info? e).map (fun i => (i.zero, i.size, i.bytes)) = some (some z, k, bytes))
    (hzs : z.cells.size = k) (v : Value) (n : Nat) (xs : List α) (hown : w.ownsRow 0 e k v n (encs enc xs)) (g : Nat) (x : α) (e' : TypeId) (hb : Blk w g e' (enc x).toArray) (h63 : n + 1 ≤ maxLen) (hbytes : (n + 1) * bytes ≤ 140737488355328) :
    ∃ v' w', (Builtin.append_ #[t, t] ty #[v, .slice (some ⟨g, 0, none⟩) 1 1]).run P w = .ok v' w' ∧ w'.ownsRow 0 e k v' (n + 1) (encs enc (xs ++ [x])) ∧ w.grownBy w' v.ownBlock ∧ (v'.ownBlock = v.ownBlock ∨ v'.ownBlock = some w.heap.size) := by
  obtain ⟨i, hi, hz0, hz1, hz2⟩ := info_parts hinfo
  obtain ⟨v', w', hrun, h2, h3, _, h4⟩ := run_append_own_at (P := P) w 0 t ty e i z k bytes ht hi hz0 hz1 hz2 hzs h0 v n (encs enc xs) hown ⟨g, 0, none⟩ 1 1 (enc x) (by rw [hk, Nat.one_mul])
    (fun j u hu => by rw [addr_add, Nat.zero_add, hb.cell]; simpa using hu) (h1 x) h63 hbytes (Nat.zero_le _)
  rw [← encs_snoc] at h2
  exact ⟨v', w', hrun, h2, h3, h4⟩

/-- 'append(s, x)'. -/
theorem wpList_push {ops : Array Oper} {rest : List Oper} {o : Oper} {a : Act} {Q : Exit → Act → World → Prop} (hgd : o.guard = none) (s y : Operand) (t : TypeId)
    (ho : o.op = .call { callee := .builtin .append, args := #[s, y], argTypes := #[t, t] }) (e : TypeId) (z : Value) (bytes : Nat) (hk : ∀ x, (enc x).length = k) (h0 : 0 < k) (h1 : ∀ x, ∀ v ∈ enc x, v.oneCell' = true)
    (ht : P.underlying t = some (.slice e)) (hinfo : (P.info? e).map (fun i => (i.zero, i.size, i.bytes)) = some (some z, k, bytes)) (hzs : z.cells.size = k)
    (v : Value) (n : Nat) (xs : List α) (hs : a.eval s = v) (hown : w.ownsRow 0 e k v n (encs enc xs)) (g : Nat) (x : α) (e' : TypeId) (hy : a.eval y = .slice (some ⟨g, 0, none⟩) 1 1) (hb : Blk w g e' (enc x).toArray)
    (h63 : n + 1 ≤ maxLen) (hbytes : (n + 1) * bytes ≤ 140737488355328)
    (h : ∀ v' w', w'.ownsRow 0 e k v' (n + 1) (encs enc (xs ++ [x])) → w.grownBy w' v.ownBlock → (v'.ownBlock = v.ownBlock ∨ v'.ownBlock = some w.heap.size) → wpList P ops Q rest (a.put o.dst v') w') : wpList P ops Q (o :: rest) a w := by
  refine wpList_plain hgd fun K hK => ?_
  obtain ⟨v', w', hrun, h2, h3, h4⟩ := run_push (P := P) t o.type e z bytes hk h0 h1 ht hinfo hzs v n xs hown g x e' hb h63 hbytes
  unfold Oper.wp execOp
  simp only [ho, resolve, invoke, builtin, Sem.run_bind, Sem.run_pure, Result.andThen_ok, List.map_toArray, List.map_cons, List.map_nil, hs, hy, hrun]
  exact hK _ _ (h v' w' h2 h3 h4)
/-- .. as a step of a region that draws its order. -/
theorem step_push {ops : Array Oper} {o : Oper} {a : Act} {K : Act → World → Prop} {Q : Exit → Act → World → Prop} {E : Prop} (hgd : o.guard = none) (s y : Operand) (t : TypeId)
    (ho : o.op = .call { callee := .builtin .append, args := #[s, y], argTypes := #[t, t] }) (e : TypeId) (z : Value) (bytes : Nat) (hk : ∀ x, (enc x).length = k) (h0 : 0 < k) (h1 : ∀ x, ∀ v ∈ enc x, v.oneCell' = true)
    (ht : P.underlying t = some (.slice e)) (hinfo : (P.info? e).map (fun i => (i.zero, i.size, i.bytes)) = some (some z, k, bytes)) (hzs : z.cells.size = k)
    (v : Value) (n : Nat) (xs : List α) (hs : a.eval s = v) (hown : w.ownsRow 0 e k v n (encs enc xs)) (g : Nat) (x : α) (e' : TypeId) (hy : a.eval y = .slice (some ⟨g, 0, none⟩) 1 1) (hb : Blk w g e' (enc x).toArray)
    (h63 : n + 1 ≤ maxLen) (hbytes : (n + 1) * bytes ≤ 140737488355328)
    (h : ∀ v' w', w'.ownsRow 0 e k v' (n + 1) (encs enc (xs ++ [x])) → w.grownBy w' v.ownBlock → (v'.ownBlock = v.ownBlock ∨ v'.ownBlock = some w.heap.size) → K (a.put o.dst v') w') :
    if Region.wanted o (yielded ops a.tmps) = true then Oper.wp P o a w K Q else E := by
  have hw : Region.wanted o (yielded ops a.tmps) = true := by simp [Region.wanted, hgd]
  rw [if_pos hw]
  obtain ⟨v', w', hrun, h2, h3, h4⟩ := run_push (P := P) t o.type e z bytes hk h0 h1 ht hinfo hzs v n xs hown g x e' hb h63 hbytes
  unfold Oper.wp execOp
  simp only [ho, resolve, invoke, builtin, Sem.run_bind, Sem.run_pure, Result.andThen_ok, List.map_toArray, List.map_cons, List.map_nil, hs, hy, hrun]
  exact h v' w' h2 h3 h4
end

/-- A list that is being made since w. -/
structure Mine {α : Type} (enc : α → List Value) (k : Nat) (e : TypeId) (w w' : World) (v : Value) (l : List α) : Prop where
  own : w'.ownsRow 0 e k v l.length (encs enc l)
  new : ∀ g, v.ownBlock = some g → w.heap.size ≤ g
  only : Only [] w w'
section
variable {α : Type} {enc : α → List Value} {k : Nat} {e : TypeId} {w w1 w2 : World} {v v' : Value} {l : List α}
theorem Mine.start (enc : α → List Value) (k : Nat) (e : TypeId) (h : Only [] w w1) : Mine enc k e w w1 (.slice none 0 0) [] := ⟨⟨by simp [encs], .inl ⟨rfl, rfl⟩⟩, fun g hg => by simp [Value.ownBlock] at hg, h⟩
theorem Mine.keep (h : Mine enc k e w w1 v l) (kk : Only [] w1 w2) : Mine enc k e w w2 v l := ⟨ownsRow_kept' h.own kk (by simp), h.new, h.only.trans kk⟩
theorem Mine.pushed (h : Mine enc k e w w1 v l) {x : α} (h1 : w2.ownsRow 0 e k v' (l.length + 1) (encs enc (l ++ [x]))) (h2 : w1.grownBy w2 v.ownBlock) (h3 : v'.ownBlock = v.ownBlock ∨ v'.ownBlock = some w1.heap.size) : Mine enc k e w w2 v' (l ++ [x]) := by
  refine ⟨by rw [List.length_append]; exact h1, fun g hg => ?_, h.only.grown h2 (fun j hj => .inr (h.new j hj))⟩
  rcases h3 with h3 | h3
  · exact h.new g (by rw [← h3]; exact hg)
  · rw [h3] at hg
    injection hg with hg
    have := h.only.size
    omega
theorem Mine.els (h : Mine enc k e w w1 v l) (hk : ∀ x, (enc x).length = k) : NewEls enc k w w1 v l := els_of_owns hk h.own h.only h.new
end

theorem ownsRow_set {w : World} {e : TypeId} {z g cap n i : Nat} {xs : List Value} (h : w.ownsRow 0 e z (.slice (some ⟨g, 0, none⟩) n cap) n xs) (u : Value) : (w.setCell ⟨g, i, none⟩ u).ownsRow 0 e z (.slice (some ⟨g, 0, none⟩) n cap) n (xs.set i u) := by
  refine ⟨by rw [List.length_set]; exact h.1, ?_⟩
  rcases h.2 with ⟨h0, _⟩ | ⟨g', cap', cur, hv, hb, hg, h1, h2, h3, h4⟩
  · cases h0
  · injection hv with hv1 _ hv3
    injection hv1 with hv1
    injection hv1 with hv1
    subst hv1
    subst hv3
    refine .inr ⟨g, cap, cur.setIfInBounds i u, rfl, hb, Blk.set hg i u, h1, h2, by simpa using h3, ?_⟩
    rw [Array.toList_setIfInBounds, List.take_set, h4]

theorem ownsRow_free {w : World} {e : TypeId} {z g cap n : Nat} {xs : List Value} (h : w.ownsRow 0 e z (.slice (some ⟨g, 0, none⟩) n cap) n xs) (i : Nat) : w.frozen? ⟨g, i, none⟩ = false := by
  rcases h.2 with ⟨h0, _⟩ | ⟨g', cap', cur, hv, hb, hg, h1, h2, h3, h4⟩
  · cases h0
  · injection hv with hv1 _ hv3
    injection hv1 with hv1
    injection hv1 with hv1
    subst hv1
    exact Blk.free hg i

theorem only_own {w w' : World} {v : Value} (h : w.grownBy w' v.ownBlock) : Only v.ownBlock.toList w w' := (Only.refl _ w).grown h (fun j hj => .inl (by simp [hj]))

theorem Mine.from {α : Type} {enc : α → List Value} {k : Nat} {e : TypeId} {w w0 w1 : World} {v : Value} {l : List α} (kk : Only [] w w0) (h : Mine enc k e w0 w1 v l) : Mine enc k e w w1 v l :=
  ⟨h.own, fun g hg => Nat.le_trans kk.size (h.new g hg), kk.trans h.only⟩

theorem Mine.shape {α : Type} {enc : α → List Value} {k : Nat} {e : TypeId} {w w1 : World} {v : Value} {l : List α} (hk : ∀ x, (enc x).length = k) (h : Mine enc k e w w1 v l) :
    ∃ A c, v = .slice A l.length c ∧ Els enc k w1 A l ∧ l.length ≤ c ∧ (∀ a, A = some a → w.heap.size ≤ a.block) ∧ (v = .slice none 0 0 ∨ ∃ g c, v = .slice (some ⟨g, 0, none⟩) l.length c) := by
  rcases id h.own.2 with ⟨rfl, h0⟩ | ⟨g, cap, cur, rfl, hb, hg, hn, r⟩
  · have hl : l = [] := List.eq_nil_of_length_eq_zero h0
    subst hl
    exact ⟨none, 0, rfl, .inl rfl, Nat.le_refl _, by simp, .inl rfl⟩
  · refine ⟨_, _, rfl, ?_, hn, fun a ha => ?_, .inr ⟨g, cap, rfl⟩⟩
    · by_cases h0 : l = []
      · exact .inl h0
      · refine .inr ⟨g, 0, rfl, (h.own.lt g rfl).2, fun i hi j u hu => ?_⟩
        have q := h.own.cells rfl _ _ (encs_at hk l i hi j u hu)
        rw [addr_add, Nat.zero_add] at q
        rw [Nat.zero_add]
        exact q
    · injection ha with ha
      subst ha
      exact h.new g rfl

end Go.Proofs.Ytnmmdnecojgccaa
