/- Appends of whole lists. -/
import Derived.Test.YtmelaiefbpdifaaGreatDoorFGf
import Derived.Deep.Upon
import Derived.Lib.SliceRun
namespace Go.Proofs.YtmelaiefbpdifaaGreatDoor.Srv
open Go.RowKit Go.Maps
section
variable {α : Type} {enc : α → List Value} {k : Nat} {w : World}
theorem els_news (hk : ∀ x, (enc x).length = k) (h0 : 0 < k) {g o : Nat} {l : List α} (h : ElsAt enc k w g o l) : ∀ j u, (encs enc l)[j]? = some u → w.cell? ((⟨g, o, none⟩ : Addr).add j) = some u := by
 intro j u hu
 rw [addr_add]
 have hj : j < l.length * k := by
  have := (List.getElem?_eq_some_iff.1 hu).1
  rwa [encs_length hk] at this
 have hi : j / k < l.length := Nat.div_lt_of_lt_mul (by rw [Nat.mul_comm]; exact hj)
 have hr : j % k < (enc l[j / k]).length := by rw [hk]; exact Nat.mod_lt _ h0
 have hv := List.getElem?_eq_getElem hr
 have e : j / k * k + j % k = j := by rw [Nat.mul_comm]; exact Nat.div_add_mod j k
 have h1 := encs_at hk l (j / k) hi (j % k) _ hv
 rw [e, hu] at h1
 injection h1 with h1
 have h2 := h (j / k) hi (j % k) _ hv
 rw [Nat.add_assoc, e, ← h1] at h2
 exact h2
theorem ElsAt.drop {g o : Nat} {l : List α} (h : ElsAt enc k w g o l) (n : Nat) : ElsAt enc k w g (o + n * k) (l.drop n) := by
 intro i hi j v hv
 have hi' : n + i < l.length := by simp at hi; omega
 simp only [List.getElem_drop] at hv
 have := h (n + i) hi' j v hv
 rwa [Nat.add_mul, ← Nat.add_assoc] at this
theorem ElsAt.take {g o : Nat} {l : List α} (h : ElsAt enc k w g o l) (n : Nat) : ElsAt enc k w g o (l.take n) := by
 intro i hi j v hv
 have hi' : i < l.length := by simp at hi; omega
 simp only [List.getElem_take] at hv
 exact h i hi' j v hv
theorem encs_append (l m : List α) : encs enc (l ++ m) = encs enc l ++ encs enc m := by simp [encs]
variable {P : Program}
theorem wpList_append_els (hk : ∀ x, (enc x).length = k) (h0 : 0 < k) (h1 : ∀ x, ∀ v ∈ enc x, v.oneCell' = true) {ops : Array Oper} {rest : List Oper} {o : Oper} {a : Act} {Q : Exit → Act → World → Prop} (hgd : o.guard = none) (s y : Operand) (t : TypeId)
  (ho : o.op = .call { callee := .builtin .append, args := #[s, y], argTypes := #[t, t] })
  (e : TypeId) (z : Value) (bytes : Nat) (ht : P.underlying t = some (.slice e)) (hinfo : (P.info? e).map (fun i => (i.zero, i.size, i.bytes)) = some (some z, k, bytes)) (hzs : z.cells.size = k)
  (v : Value) (n : Nat) (xs : List α) (hs : a.eval s = v) (hown : w.ownsRow 0 e k v n (encs enc xs))
  (g p m c : Nat) (ys : List α) (hm : m = ys.length) (hx : a.eval y = .slice (some ⟨g, p, none⟩) m c) (hsrc : ElsAt enc k w g p ys)
  (h63 : n + m ≤ maxLen) (hbytes : (n + m) * bytes ≤ 140737488355328)
  (h : ∀ v' w', w'.ownsRow 0 e k v' (n + m) (encs enc (xs ++ ys)) → w.grownBy w' v.ownBlock → (v'.ownBlock = v.ownBlock ∨ v'.ownBlock = some w.heap.size) → wpList P ops Q rest (a.put o.dst v') w') : wpList P ops Q (o :: rest) a w := by
 subst hm
 refine wpList_plain hgd fun K hK => ?_
 obtain ⟨i, hi, hz0, hz1, hz2⟩ := info_parts hinfo
 obtain ⟨v', w', hrun, h2, h3, _, h4⟩ := run_append_own_at (P := P) w 0 t o.type e i z k bytes ht hi hz0 hz1 hz2 hzs h0 v n (encs enc xs) hown ⟨g, p, none⟩ ys.length c (encs enc ys) (encs_length hk ys) (els_news hk h0 hsrc) (encs_one h1 ys) h63 hbytes (Nat.zero_le _)
 rw [← encs_append] at h2
 unfold Oper.wp execOp
 simp only [ho, resolve, invoke, builtin, Sem.run_bind, Sem.run_pure, Result.andThen_ok, List.map_toArray, List.map_cons, List.map_nil, hs, hx, hrun]
 exact hK _ _ (h v' w' h2 h3 h4)
end
section
variable {α : Type} {enc : α → List Value} {k : Nat} {w : World} {P : Program}
theorem wpList_append_any (hk : ∀ x, (enc x).length = k) (h0 : 0 < k) (h1 : ∀ x, ∀ v ∈ enc x, v.oneCell' = true) {ops : Array Oper} {rest : List Oper} {o : Oper} {a : Act} {Q : Exit → Act → World → Prop} (hgd : o.guard = none) (s y : Operand) (t : TypeId)
  (ho : o.op = .call { callee := .builtin .append, args := #[s, y], argTypes := #[t, t] })
  (e : TypeId) (z : Value) (bytes : Nat) (ht : P.underlying t = some (.slice e)) (hinfo : (P.info? e).map (fun i => (i.zero, i.size, i.bytes)) = some (some z, k, bytes)) (hzs : z.cells.size = k)
  (v : Value) (n : Nat) (xs : List α) (hs : a.eval s = v) (hown : w.ownsRow 0 e k v n (encs enc xs))
  (A : Option Addr) (c : Nat) (ys : List α) (hx : a.eval y = .slice A ys.length c) (hsrc : Els enc k w A ys)
  (h63 : n + ys.length ≤ maxLen) (hbytes : (n + ys.length) * bytes ≤ 140737488355328)
  (h : ∀ v' w', w'.ownsRow 0 e k v' (n + ys.length) (encs enc (xs ++ ys)) → w.grownBy w' v.ownBlock → (v'.ownBlock = v.ownBlock ∨ v'.ownBlock = some w.heap.size) → wpList P ops Q rest (a.put o.dst v') w') : wpList P ops Q (o :: rest) a w := by
 rcases hsrc with hnil | ⟨g, p, rfl, hg, hat⟩
 ·subst hnil
  refine wpList_plain hgd fun K hK => ?_
  obtain ⟨i, hi, hz0, hz1, hz2⟩ := info_parts hinfo
  have hsrc : Src P i.size t (.slice A 0 c) 0 [] w := by
   cases A with
   | none => exact Src.ofNil w ht c
   | some a => exact Src.ofSlice w ht a 0 c [] (by simp) (fun j u hj => by simp at hj) (fun _ h => by cases h)
  have hrun : (Builtin.append_ #[t, t] o.type #[v, .slice A 0 c]).run P w = .ok v w := by
   rcases id hown.2 with ⟨rfl, rfl⟩ | ⟨g, cap, cur, rfl, _, _, hnc, _⟩
   ·exact run_append_nothing w t t o.type e i ht hi none 0 0 (Nat.le_refl _) _ hsrc
   ·exact run_append_nothing w t t o.type e i ht hi _ n cap hnc _ hsrc
  simp only [List.length_nil] at hx
  unfold Oper.wp execOp
  simp only [ho, resolve, invoke, builtin, Sem.run_bind, Sem.run_pure, Result.andThen_ok, List.map_toArray, List.map_cons, List.map_nil, hs, hx, hrun]
  exact hK _ _ (h v w (by simpa using hown) (World.grownBy.refl _ _) (.inl rfl))
 ·exact wpList_append_els hk h0 h1 hgd s y t ho e z bytes ht hinfo hzs v n xs hs hown g p ys.length c ys rfl hx hat h63 hbytes h
end
theorem own_empty {w : World} {e : TypeId} {k g : Nat} (h : Blk w g e #[]) : w.ownsRow 0 e k (.slice (some ⟨g, 0, none⟩) 0 0) 0 [] :=
 ⟨by simp, .inr ⟨g, 0, #[], rfl, Nat.zero_le _, h, Nat.le_refl _, Nat.zero_le _, by simp, by simp⟩⟩
end Go.Proofs.YtmelaiefbpdifaaGreatDoor.Srv
