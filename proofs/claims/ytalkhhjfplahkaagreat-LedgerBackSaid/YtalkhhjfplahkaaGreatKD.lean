/- Joined: Mine, Str10, Nd10, Whole10. -/
import Derived.Test.YtalkhhjfplahkaaGreatKB
import Derived.Laws.StructEq
import Derived.Deep.AppendLies
import Derived.Deep.Slices
import Derived.Deep.Fields
import Derived.ProofKit
import Derived.Lib.Hide
import Derived.Deep.RegionHeld3
import Derived.Laws.CopyRow
import Derived.StillTailTactics
import Derived.Test.YtalkhhjfplahkaaGreatChecked
import Derived.Test.YtalkhhjfplahkaaGreatKC
import Derived.Tactics
import Derived.Tactics2
import Derived.StillTactics
import Derived.RegionTactic
import Derived.WalkKit
import Derived.Deep.MidRow
import Derived.Deep.WholeRow
import Derived.WalkLawsBesides
import Derived.WalkSpells
import Derived.Outline
import Derived.Laws.Pointers
import Derived.Laws.Small
import Derived.Laws.Build
import Derived.Laws.Cover3
import Derived.KernelRfl
import Derived.BigQuiet
import Derived.BigRegion
import Derived.OwnWalk
import Derived.LoopTactic
import Derived.Laws.ResultCell
namespace Go.Proofs.YtalkhhjfplahkaaGreat
open Go.RowKit

theorem snoc_ind {α : Type} {p : List α → Prop} (h0 : p []) (h1 : ∀ l x, p l → p (l ++ [x])) : ∀ l, p l := fun l => by
  have h : ∀ r : List α, p r.reverse := by
    intro r
    induction r with
    | nil => exact h0
    | cons a r ih => rw [List.reverse_cons]; exact h1 _ _ ih
  have := h l.reverse
  rwa [List.reverse_reverse] at this

section
variable {α : Type}
theorem flat_len (c : Nat) : ∀ (L : List (List α)), (∀ b ∈ L, b.length = c) → L.flatten.length = L.length * c
  | [], _ => by simp
  | b :: L, h => by
    simp only [List.flatten_cons, List.length_append, List.length_cons, flat_len c L (fun x hx => h x (by simp [hx])), h b (by simp), Nat.succ_mul]
    omega

theorem flat_at (c : Nat) : ∀ (L : List (List α)) (k j : Nat) (b : List α) (v : α), (∀ b ∈ L, b.length = c) → L[k]? = some b → b[j]? = some v → L.flatten[k * c + j]? = some v
  | [], k, j, b, v, _, hk, _ => by simp at hk
  | x :: L, 0, j, b, v, h, hk, hj => by
    simp only [List.getElem?_cons_zero, Option.some.injEq] at hk
    subst hk
    have hl : j < x.length := (List.getElem?_eq_some_iff.1 hj).1
    rw [List.flatten_cons, Nat.zero_mul, Nat.zero_add, List.getElem?_append_left hl]
    exact hj
  | x :: L, k + 1, j, b, v, h, hk, hj => by
    rw [List.getElem?_cons_succ] at hk
    have hx := h x (by simp)
    rw [List.flatten_cons, List.getElem?_append_right (by rw [hx, Nat.succ_mul]; omega), hx]
    have e : (k + 1) * c + j - c = k * c + j := by rw [Nat.succ_mul]; omega
    rw [e]
    exact flat_at c L k j b v (fun y hy => h y (by simp [hy])) hk hj

theorem flat_set (c : Nat) : ∀ (L : List (List α)) (k : Nat) (b : List α), (∀ b ∈ L, b.length = c) → k < L.length → b.length = c →
    (L.set k b).flatten = L.flatten.take (k * c) ++ (b ++ L.flatten.drop (k * c + c))
  | [], k, b, _, hk, _ => by simp at hk
  | x :: L, 0, b, h, hk, hb => by
    have hx := h x (by simp)
    simp only [List.set_cons_zero, List.flatten_cons, Nat.zero_mul, List.take_zero, List.nil_append, Nat.zero_add]
    rw [List.drop_append, ← hx]
    simp
  | x :: L, k + 1, b, h, hk, hb => by
    have hx := h x (by simp)
    have t1 : (x ++ L.flatten).take (k * c + c) = x ++ L.flatten.take (k * c) := by
      rw [List.take_append, hx, List.take_of_length_le (l := x) (by omega)]
      congr 2
      omega
    have t2 : (x ++ L.flatten).drop (k * c + c + c) = L.flatten.drop (k * c + c) := by
      rw [List.drop_append, hx, List.drop_of_length_le (l := x) (by omega)]
      simp only [List.nil_append]
      congr 1
      omega
    rw [List.set_cons_succ, List.flatten_cons, flat_set c L k b (fun y hy => h y (by simp [hy])) (by simpa using hk) hb, List.flatten_cons, Nat.succ_mul, t1, t2, List.append_assoc]
end

theorem Only.set (w : World) (F : List Nat) {p i : Nat} (hp : p ∈ F) (u : Value) : Only F w (w.setCell ⟨p, i, none⟩ u) := (Only.refl F w).setCell (.inl hp) u

theorem ownsRow_kept' {S : List Nat} {w w' : World} {e : TypeId} {z : Nat} {v : Value} {n : Nat} {xs : List Value} (h : w.ownsRow 0 e z v n xs) (k : Only S w w') (hv : ∀ g, v.ownBlock = some g → g ∉ S) : w'.ownsRow 0 e z v n xs := by
  refine ⟨h.1, ?_⟩
  rcases h.2 with h0 | ⟨g, cap, cur, rfl, hb, hg, r⟩
  · exact .inl h0
  · exact .inr ⟨g, cap, cur, rfl, hb, by rw [k.block g (Array.getElem?_eq_some_iff.1 hg).1 (hv g rfl)]; exact hg, r⟩

section
variable {α : Type}
def encs (enc : α → List Value) (l : List α) : List Value := (l.map enc).flatten
def ElsAt (enc : α → List Value) (k : Nat) (w : World) (g o : Nat) (l : List α) : Prop := ∀ i (h : i < l.length) j v, (enc l[i])[j]? = some v → w.cell? ⟨g, o + i * k + j, none⟩ = some v
def Els (enc : α → List Value) (k : Nat) (w : World) (A : Option Addr) (l : List α) : Prop := l = [] ∨ ∃ g o, A = some ⟨g, o, none⟩ ∧ g < w.heap.size ∧ ElsAt enc k w g o l
variable {enc : α → List Value} {k : Nat} {w w' : World} {A : Option Addr} {l : List α}
theorem ElsAt.kept {S : List Nat} {g o : Nat} (h : ElsAt enc k w g o l) (kk : Only S w w') (hg : g ∉ S) : ElsAt enc k w' g o l := fun i hi j v hv => kk.cell (h i hi j v hv) hg
theorem Els.kept {S : List Nat} (h : Els enc k w A l) (kk : Only S w w') (hA : ∀ a, A = some a → a.block ∉ S) : Els enc k w' A l := by
  rcases h with h | ⟨g, o, rfl, hg, hc⟩
  · exact .inl h
  · exact .inr ⟨g, o, rfl, Nat.lt_of_lt_of_le hg kk.size, hc.kept kk (hA _ rfl)⟩
theorem Els.get (h : Els enc k w A l) {i : Nat} (hi : i < l.length) : ∃ g o, A = some ⟨g, o, none⟩ ∧ g < w.heap.size ∧ ElsAt enc k w g o l := by
  rcases h with rfl | h
  · simp at hi
  · exact h
theorem encs_snoc (l : List α) (x : α) : encs enc (l ++ [x]) = encs enc l ++ enc x := by simp [encs]
theorem encs_length (hk : ∀ x, (enc x).length = k) (l : List α) : (encs enc l).length = l.length * k := by
  unfold encs
  rw [flat_len k _ (by intro b hb; simp only [List.mem_map] at hb; obtain ⟨y, _, rfl⟩ := hb; exact hk y), List.length_map]
theorem encs_at (hk : ∀ x, (enc x).length = k) (l : List α) (i : Nat) (hi : i < l.length) (j : Nat) (v : Value) (hv : (enc l[i])[j]? = some v) : (encs enc l)[i * k + j]? = some v :=
  flat_at k _ i j (enc l[i]) v (by intro b hb; simp only [List.mem_map] at hb; obtain ⟨y, _, rfl⟩ := hb; exact hk y) (by simp [hi]) hv
theorem encs_one (h1 : ∀ x, ∀ v ∈ enc x, v.oneCell' = true) (l : List α) : ∀ v ∈ encs enc l, v.oneCell' = true := by
  intro v hv
  simp only [encs, List.mem_flatten, List.mem_map] at hv
  obtain ⟨b, ⟨x, _, rfl⟩, hv⟩ := hv
  exact h1 x v hv

/-- A list that a call made. -/
def NewEls (enc : α → List Value) (k : Nat) (w w' : World) (v : Value) (l : List α) : Prop :=
  ∃ A c, v = .slice A l.length c ∧ l.length ≤ c ∧ Els enc k w' A l ∧ Only [] w w' ∧ ∀ a, A = some a → w.heap.size ≤ a.block
theorem els_of_owns {e : TypeId} {v : Value} (hk : ∀ x, (enc x).length = k) (h : w'.ownsRow 0 e k v l.length (encs enc l)) (kk : Only [] w w') (hnew : ∀ g, v.ownBlock = some g → w.heap.size ≤ g) : NewEls enc k w w' v l := by
  by_cases h0 : l.length = 0
  · obtain rfl : l = [] := List.eq_nil_of_length_eq_zero h0
    rcases id h.2 with ⟨rfl, _⟩ | ⟨g, cap, cur, rfl, hb, hg, r⟩
    · exact ⟨none, 0, rfl, Nat.le_refl _, .inl rfl, kk, by simp⟩
    · exact ⟨_, _, rfl, Nat.zero_le _, .inl rfl, kk, fun a ha => by injection ha with ha; subst ha; exact hnew g rfl⟩
  · obtain ⟨g, c, rfl, _, _⟩ := h.form (by omega)
    have hc : l.length ≤ c := by
      rcases id h.2 with ⟨hv, _⟩ | ⟨g', cap, cur, hv, _, _, hnc, _⟩
      · cases hv
      · injection hv with _ _ hv
        subst hv
        exact hnc
    refine ⟨_, _, rfl, hc, .inr ⟨g, 0, rfl, (h.lt g rfl).2, fun i hi j u hu => ?_⟩, kk, fun a ha => by injection ha with ha; subst ha; exact hnew g rfl⟩
    have q := h.cells rfl _ _ (encs_at hk l i hi j u hu)
    rw [addr_add, Nat.zero_add] at q
    rw [Nat.zero_add]
    exact q

variable {P : Program}
theorem run_push (t ty e : TypeId) (z : Value) (bytes : Nat) (hk : ∀ x, (enc x).length = k) (h0 : 0 < k) (h1 : ∀ x, ∀ v ∈ enc x, v.oneCell' = true) (ht : P.underlying t = some (.slice e)) (hinfo : (P.info? e).map (fun i => (i.zero, i.size, i.bytes)) = some (some z, k, bytes))
    (hzs : z.cells.size = k) (v : Value) (n : Nat) (xs : List α) (hown : w.ownsRow 0 e k v n (encs enc xs)) (g : Nat) (x : α) (e' : TypeId) (hb : Blk w g e' (enc x).toArray) (h63 : n + 1 ≤ maxLen) (hbytes : (n + 1) * bytes ≤ 140737488355328) :
    ∃ v' w', (Builtin.append_ #[t, t] ty #[v, .slice (some ⟨g, 0, none⟩) 1 1]).run P w = .ok v' w' ∧ w'.ownsRow 0 e k v' (n + 1) (encs enc (xs ++ [x])) ∧ w.grownBy w' v.ownBlock ∧ (v'.ownBlock = v.ownBlock ∨ v'.ownBlock = some w.heap.size) := by
  obtain ⟨i, hi, hz0, hz1, hz2⟩ := info_parts hinfo
  obtain ⟨v', w', hrun, h2, h3, _, h4⟩ := run_append_own_at (P := P) w 0 t ty e i z k bytes ht hi hz0 hz1 hz2 hzs h0 v n (encs enc xs) hown ⟨g, 0, none⟩ 1 1 (enc x) (by rw [hk, Nat.one_mul])
    (fun j u hu => by rw [addr_add, Nat.zero_add, hb.cell]; simpa using hu) (h1 x) h63 hbytes (Nat.zero_le _)
  rw [← encs_snoc] at h2
  exact ⟨v', w', hrun, h2, h3, h4⟩

/-- 'append(s, x)'. -/
theorem wpList_push {ops : Array Oper} {rest : List Oper} {o : Oper} {a : Act} {Q : Exit → Act → World → Prop} (hgd : o.guard = none) (s y : Operand) (t : TypeId)
    (ho : o.op = .call { callee := .builtin .append, args := #[s, y], argTypes := #[t, t] }) (e : TypeId) (z : Value) (bytes : Nat) (hk : ∀ x, (enc x).length = k) (h0 : 0 < k) (h1 : ∀ x, ∀ v ∈ enc x, v.oneCell' = true)
    (ht : P.underlying t = some (.slice e)) (hinfo : (P.info? e).map (fun i => (i.zero, i.size, i.bytes)) = some (some z, k, bytes)) (hzs : z.cells.size = k)
    (v : Value) (n : Nat) (xs : List α) (hs : a.eval s = v) (hown : w.ownsRow 0 e k v n (encs enc xs)) (g : Nat) (x : α) (e' : TypeId) (hy : a.eval y = .slice (some ⟨g, 0, none⟩) 1 1) (hb : Blk w g e' (enc x).toArray)
    (h63 : n + 1 ≤ maxLen) (hbytes : (n + 1) * bytes ≤ 140737488355328)
    (h : ∀ v' w', w'.ownsRow 0 e k v' (n + 1) (encs enc (xs ++ [x])) → w.grownBy w' v.ownBlock → (v'.ownBlock = v.ownBlock ∨ v'.ownBlock = some w.heap.size) → wpList P ops Q rest (a.put o.dst v') w') : wpList P ops Q (o :: rest) a w := by
  refine wpList_plain hgd fun K hK => ?_
  obtain ⟨v', w', hrun, h2, h3, h4⟩ := run_push (P := P) t o.type e z bytes hk h0 h1 ht hinfo hzs v n xs hown g x e' hb h63 hbytes
  unfold Oper.wp execOp
  simp only [ho, resolve, invoke, builtin, Sem.run_bind, Sem.run_pure, Result.andThen_ok, List.map_toArray, List.map_cons, List.map_nil, hs, hy, hrun]
  exact hK _ _ (h v' w' h2 h3 h4)
/-- .. as a step of a region that draws its order. -/
theorem step_push {ops : Array Oper} {o : Oper} {a : Act} {K : Act → World → Prop} {Q : Exit → Act → World → Prop} {E : Prop} (hgd : o.guard = none) (s y : Operand) (t : TypeId)
    (ho : o.op = .call { callee := .builtin .append, args := #[s, y], argTypes := #[t, t] }) (e : TypeId) (z : Value) (bytes : Nat) (hk : ∀ x, (enc x).length = k) (h0 : 0 < k) (h1 : ∀ x, ∀ v ∈ enc x, v.oneCell' = true)
    (ht : P.underlying t = some (.slice e)) (hinfo : (P.info? e).map (fun i => (i.zero, i.size, i.bytes)) = some (some z, k, bytes)) (hzs : z.cells.size = k)
    (v : Value) (n : Nat) (xs : List α) (hs : a.eval s = v) (hown : w.ownsRow 0 e k v n (encs enc xs)) (g : Nat) (x : α) (e' : TypeId) (hy : a.eval y = .slice (some ⟨g, 0, none⟩) 1 1) (hb : Blk w g e' (enc x).toArray)
    (h63 : n + 1 ≤ maxLen) (hbytes : (n + 1) * bytes ≤ 140737488355328)
    (h : ∀ v' w', w'.ownsRow 0 e k v' (n + 1) (encs enc (xs ++ [x])) → w.grownBy w' v.ownBlock → (v'.ownBlock = v.ownBlock ∨ v'.ownBlock = some w.heap.size) → K (a.put o.dst v') w') :
    if Region.wanted o (yielded ops a.tmps) = true then Oper.wp P o a w K Q else E := by
  have hw : Region.wanted o (yielded ops a.tmps) = true := by simp [Region.wanted, hgd]
  rw [if_pos hw]
  obtain ⟨v', w', hrun, h2, h3, h4⟩ := run_push (P := P) t o.type e z bytes hk h0 h1 ht hinfo hzs v n xs hown g x e' hb h63 hbytes
  unfold Oper.wp execOp
  simp only [ho, resolve, invoke, builtin, Sem.run_bind, Sem.run_pure, Result.andThen_ok, List.map_toArray, List.map_cons, List.map_nil, hs, hy, hrun]
  exact h v' w' h2 h3 h4
end

/-- A list that is being made since w. -/
structure Mine {α : Type} (enc : α → List Value) (k : Nat) (e : TypeId) (w w' : World) (v : Value) (l : List α) : Prop where
  own : w'.ownsRow 0 e k v l.length (encs enc l)
  new : ∀ g, v.ownBlock = some g → w.heap.size ≤ g
  only : Only [] w w'
section
variable {α : Type} {enc : α → List Value} {k : Nat} {e : TypeId} {w w1 w2 : World} {v v' : Value} {l : List α}
theorem Mine.start (enc : α → List Value) (k : Nat) (e : TypeId) (h : Only [] w w1) : Mine enc k e w w1 (.slice none 0 0) [] := ⟨⟨by simp [encs], .inl ⟨rfl, rfl⟩⟩, fun g hg => by simp [Value.ownBlock] at hg, h⟩
theorem Mine.keep (h : Mine enc k e w w1 v l) (kk : Only [] w1 w2) : Mine enc k e w w2 v l := ⟨ownsRow_kept' h.own kk (by simp), h.new, h.only.trans kk⟩
theorem Mine.pushed (h : Mine enc k e w w1 v l) {x : α} (h1 : w2.ownsRow 0 e k v' (l.length + 1) (encs enc (l ++ [x]))) (h2 : w1.grownBy w2 v.ownBlock) (h3 : v'.ownBlock = v.ownBlock ∨ v'.ownBlock = some w1.heap.size) : Mine enc k e w w2 v' (l ++ [x]) := by
  refine ⟨by rw [List.length_append]; exact h1, fun g hg => ?_, h.only.grown h2 (fun j hj => .inr (h.new j hj))⟩
  rcases h3 with h3 | h3
  · exact h.new g (by rw [← h3]; exact hg)
  · rw [h3] at hg
    injection hg with hg
    have := h.only.size
    omega
theorem Mine.els (h : Mine enc k e w w1 v l) (hk : ∀ x, (enc x).length = k) : NewEls enc k w w1 v l := els_of_owns hk h.own h.only h.new
end

theorem ownsRow_set {w : World} {e : TypeId} {z g cap n i : Nat} {xs : List Value} (h : w.ownsRow 0 e z (.slice (some ⟨g, 0, none⟩) n cap) n xs) (u : Value) : (w.setCell ⟨g, i, none⟩ u).ownsRow 0 e z (.slice (some ⟨g, 0, none⟩) n cap) n (xs.set i u) := by
  refine ⟨by rw [List.length_set]; exact h.1, ?_⟩
  rcases h.2 with ⟨h0, _⟩ | ⟨g', cap', cur, hv, hb, hg, h1, h2, h3, h4⟩
  · cases h0
  · injection hv with hv1 _ hv3
    injection hv1 with hv1
    injection hv1 with hv1
    subst hv1
    subst hv3
    refine .inr ⟨g, cap, cur.setIfInBounds i u, rfl, hb, Blk.set hg i u, h1, h2, by simpa using h3, ?_⟩
    rw [Array.toList_setIfInBounds, List.take_set, h4]

theorem ownsRow_free {w : World} {e : TypeId} {z g cap n : Nat} {xs : List Value} (h : w.ownsRow 0 e z (.slice (some ⟨g, 0, none⟩) n cap) n xs) (i : Nat) : w.frozen? ⟨g, i, none⟩ = false := by
  rcases h.2 with ⟨h0, _⟩ | ⟨g', cap', cur, hv, hb, hg, h1, h2, h3, h4⟩
  · cases h0
  · injection hv with hv1 _ hv3
    injection hv1 with hv1
    injection hv1 with hv1
    subst hv1
    exact Blk.free hg i

theorem only_own {w w' : World} {v : Value} (h : w.grownBy w' v.ownBlock) : Only v.ownBlock.toList w w' := (Only.refl _ w).grown h (fun j hj => .inl (by simp [hj]))

theorem Mine.from {α : Type} {enc : α → List Value} {k : Nat} {e : TypeId} {w w0 w1 : World} {v : Value} {l : List α} (kk : Only [] w w0) (h : Mine enc k e w0 w1 v l) : Mine enc k e w w1 v l :=
  ⟨h.own, fun g hg => Nat.le_trans kk.size (h.new g hg), kk.trans h.only⟩

theorem Mine.shape {α : Type} {enc : α → List Value} {k : Nat} {e : TypeId} {w w1 : World} {v : Value} {l : List α} (hk : ∀ x, (enc x).length = k) (h : Mine enc k e w w1 v l) :
    ∃ A c, v = .slice A l.length c ∧ Els enc k w1 A l ∧ l.length ≤ c ∧ (∀ a, A = some a → w.heap.size ≤ a.block) ∧ (v = .slice none 0 0 ∨ ∃ g c, v = .slice (some ⟨g, 0, none⟩) l.length c) := by
  rcases id h.own.2 with ⟨rfl, h0⟩ | ⟨g, cap, cur, rfl, hb, hg, hn, r⟩
  · have hl : l = [] := List.eq_nil_of_length_eq_zero h0
    subst hl
    exact ⟨none, 0, rfl, .inl rfl, Nat.le_refl _, by simp, .inl rfl⟩
  · refine ⟨_, _, rfl, ?_, hn, fun a ha => ?_, .inr ⟨g, cap, rfl⟩⟩
    · by_cases h0 : l = []
      · exact .inl h0
      · refine .inr ⟨g, 0, rfl, (h.own.lt g rfl).2, fun i hi j u hu => ?_⟩
        have q := h.own.cells rfl _ _ (encs_at hk l i hi j u hu)
        rw [addr_add, Nat.zero_add] at q
        rw [Nat.zero_add]
        exact q
    · injection ha with ha
      subst ha
      exact h.new g rfl

end Go.Proofs.YtalkhhjfplahkaaGreat
namespace Go.Proofs.YtalkhhjfplahkaaGreat
set_option maxRecDepth 100000
open Go.RowKit Go.WideShapes Go.ChangeShapes Go.Deep

theorem strOf_inj {a b : List UInt8} (h : strOf a = strOf b) : a = b := by
  have := congrArg (fun s : ByteArray => s.data.toList) h
  simpa [strOf] using this

theorem beq_toList (a b : List UInt8) : ((strOf a).toList == (strOf b).toList) = (a == b) := by
  rw [show (strOf a).toList = a from ByteArray.toList_mk _, show (strOf b).toList = b from ByteArray.toList_mk _]

theorem str_ne {a b : List UInt8} (h : ¬ strOf a = strOf b) : ((strOf a).toList == (strOf b).toList) = false := by
  rw [beq_toList, beq_eq_false_iff_ne]
  exact fun e => h (by rw [e])
theorem index_strOf {P : Program} (t : TypeId) (ht : P.underlying t = some .string) (bs : List UInt8) (i : Nat) (x : Int) (k : IntKind) (hx : x = i) (h : i < bs.length) :
    ∀ W : World, (Instr.index t (.string (strOf bs)) (.int k x)).run P W = .ok (.int .u8 (((bs.getD i 0).toNat : Nat) : Int)) W := by
  intro W
  subst hx
  have hs := strOf_size bs
  rw [run_index_string W t _ k _ ht, dif_pos ⟨by omega, by omega⟩]
  rw [List.getD_eq_getElem?_getD, List.getElem?_eq_getElem h]
  rfl
theorem from_strOf {P : Program} (t : TypeId) (ht : P.underlying t = some .string) (bs : List UInt8) (i : Nat) (x : Int) (k : IntKind) (hx : x = i) (h : i ≤ bs.length) :
    ∀ W : World, (Instr.slice t (.string (strOf bs)) (some (.int k x)) none none).run P W = .ok (.string (strOf (bs.drop i))) W := by
  intro W
  subst hx
  have hs := strOf_size bs
  rw [run_slice_string_from_if W t _ k _ ht, if_pos ⟨by omega, by omega⟩, hs]
  congr 2
  show (ByteArray.mk bs.toArray).extract _ _ = _
  rw [ByteArray.extract_mk, Int.toNat_natCast, List.take_of_length_le (by simp)]
  rfl

theorem upto_strOf {P : Program} (t : TypeId) (ht : P.underlying t = some .string) (bs : List UInt8) (j : Nat) (y : Int) (k : IntKind) (hy : y = j) (h : j ≤ bs.length) :
    ∀ W : World, (Instr.slice t (.string (strOf bs)) none (some (.int k y)) none).run P W = .ok (.string (strOf (bs.take j))) W := by
  intro W
  subst hy
  have hs := strOf_size bs
  rw [run_slice_string_to_if W t _ k _ ht, if_pos ⟨by omega, by omega⟩]
  congr 2
  show (ByteArray.mk bs.toArray).extract _ _ = _
  rw [ByteArray.extract_mk, Int.toNat_natCast]
  simp [strOf]

section
variable {H : Type} {enc : TypeId × Value → H} {P : Program} {w : World} {base : Nat} {spare : Nat → Bool} {held : Bool}

theorem addr_plain {a : Addr} {v : Value} (h : w.cell? a = some v) : a = ⟨a.block, a.off, none⟩ := by
  obtain ⟨b, o, s⟩ := a
  cases s with
  | none => rfl
  | some x =>
    unfold World.cell? at h
    split at h
    · simp at h
    · cases h

/-- A slice of structs of one-cell fields: nil, or each element's cells, and each cell's reading. -/
theorem open_structs {t e : TypeId} {fs : Array Field} {fuel : Nat} {cs : List Value} {x : DataW H × List MemPlace} (ht : P.underlying t = some (.slice e)) (he : P.underlying e = some (.struct fs))
    (hone : oneCellFields P fs = true) (hC : P.cellsOf e = fs.size) (hpos : 0 < fs.size) (h : DataW.trod enc P w base spare held fuel t cs = some x) :
    cs = [.slice none 0 0] ∨ ∃ (A : Option Addr) (len cap : Nat), cs = [.slice A len cap] ∧ (len ≤ maxLen ∧ len ≤ cap) ∧
      (len = 0 ∨ ∃ g o, A = some ⟨g, o, none⟩ ∧ g < w.heap.size ∧ ∀ i, i < len → ∀ (j : Nat) (f : Field), fs[j]? = some f →
        ∃ (n : Nat) (v : Value) (y : DataW H × List MemPlace), w.cell? ⟨g, o + i * fs.size + j, none⟩ = some v ∧ DataW.trod enc P w base spare held n f.type [v] = some y) := by
  rcases open_slice ht h with h0 | ⟨a, len, cap, m, n, D, Pl, hcs, hb, hl, hm, hmm, _, hi⟩
  · exact .inl h0.1
  right
  refine ⟨some a, len, cap, hcs, ⟨by omega, hl⟩, ?_⟩
  by_cases hz : len = 0
  · exact .inl hz
  right
  have hlm : ∀ i, i < len → i < m := fun i hi' => by rw [hmm]; split <;> omega
  have cell0 : ∃ v, w.cell? a = some v := by
    obtain ⟨cs', hc, _⟩ := hi 0 (hlm 0 (by omega))
    obtain ⟨_, hcl, hat⟩ := World.cells?_some hc
    have := hat 0 (by omega)
    rw [Nat.zero_mul] at this
    have hadd : (a.add 0).add 0 = a := by simp [Addr.add]
    rw [hadd] at this
    exact ⟨_, this.trans (List.getElem?_eq_getElem (by omega))⟩
  obtain ⟨v0, hv0⟩ := cell0
  have hap := addr_plain hv0
  refine ⟨a.block, a.off, by rw [← hap], World.block_lt_of_cell? w a hv0, fun i hil j f hj => ?_⟩
  obtain ⟨cs', hc, ht'⟩ := hi i (hlm i hil)
  obtain ⟨ys, n', _, _, hlen', hyl, hf⟩ := DataW.trod_struct he ht'
  obtain ⟨_, hcl, hat⟩ := World.cells?_some hc
  obtain ⟨ho, hk⟩ := hone_of hone j f hj
  have hjl : j < fs.size := (Array.getElem?_eq_some_iff.1 hj).1
  have hcell := hat j (by omega)
  have hcj : j < cs'.length := by omega
  have h1 := hf j f hj
  rw [ho, hk, List.drop_eq_getElem_cons hcj] at h1
  refine ⟨n', cs'[j], ys[j]'(by omega), ?_, ?_⟩
  · rw [hap, addr_add, hC, addr_add, List.getElem?_eq_getElem hcj] at hcell
    exact hcell
  · rw [List.getElem?_eq_getElem (by omega)] at h1
    exact h1

end

def Says (P : Prop) (e : Ending) : Prop := ∃ r : Bool, e = .returned (.bool r) ∧ (r = true ↔ P)
theorem Says.no {P : Prop} (h : ¬ P) : Says P (.returned (.bool false)) := ⟨false, rfl, by simp [h]⟩
theorem Says.yes {P : Prop} (h : P) : Says P (.returned (.bool true)) := ⟨true, rfl, by simp [h]⟩

end Go.Proofs.YtalkhhjfplahkaaGreat
namespace Go.Proofs.YtalkhhjfplahkaaGreat
set_option maxRecDepth 100000
open Go.RowKit

def intOf : Value → Int
  | .int _ x => x
  | _ => 0

def ndE (x : Nd) : List Value := [.int .u32 x.id, .int .u32 x.par, .string (strOf x.name), .bool x.dir, .int .u32 x.size]
def ndV (x : Nd) : Value := .agg #[.int .u32 x.id, .int .u32 x.par, .string (strOf x.name), .bool x.dir, .int .u32 x.size]
theorem ndE_length (x : Nd) : (ndE x).length = 5 := rfl
theorem ndE_one (x : Nd) : ∀ v ∈ ndE x, v.oneCell' = true := by
  intro v hv
  simp [ndE] at hv
  rcases hv with rfl | rfl | rfl | rfl | rfl <;> rfl
theorem info_nd : (Tryz.prog.info? 42).map (fun i => (i.zero, i.size, i.bytes)) = some (some (.agg #[.int .u32 0, .int .u32 0, .string ⟨#[]⟩, .bool false, .int .u32 0]), 5, 32) := by kernel_rfl
theorem nds_at {w : World} {g o : Nat} {l : List Nd} (h : ElsAt ndE 5 w g o l) {i : Nat} (hi : i < l.length) :
    w.cell? ⟨g, o + i * 5, none⟩ = some (.int .u32 l[i].id) ∧ w.cell? ⟨g, o + i * 5 + 1, none⟩ = some (.int .u32 l[i].par) ∧ w.cell? ⟨g, o + i * 5 + 2, none⟩ = some (.string (strOf l[i].name)) ∧ w.cell? ⟨g, o + i * 5 + 3, none⟩ = some (.bool l[i].dir) ∧ w.cell? ⟨g, o + i * 5 + 4, none⟩ = some (.int .u32 l[i].size) :=
  ⟨by simpa using h i hi 0 _ rfl, h i hi 1 _ rfl, h i hi 2 _ rfl, h i hi 3 _ rfl, h i hi 4 _ rfl⟩
theorem strOf_nil : strOf [] = ⟨#[]⟩ := rfl
theorem ndV_zero : ndV zeroN = .agg #[.int .u32 0, .int .u32 0, .string ⟨#[]⟩, .bool false, .int .u32 0] := rfl

/-- What lies ahead of a number. -/
def posN (l : List Nd) (i : Int) : Nat := l.countP (fun x => decide (x.id < i))
theorem posN_le (l : List Nd) (i : Int) : posN l i ≤ l.length := List.countP_le_length
theorem posN_iff {l : List Nd} (h : l.Pairwise (fun a b => a.id < b.id)) {i : Int} : ∀ {j : Nat} {x : Nd}, l[j]? = some x → (x.id < i ↔ j < posN l i) := by
  induction l with
  | nil => intro j x hx; simp at hx
  | cons a r ih =>
    rw [List.pairwise_cons] at h
    intro j x hx
    unfold posN
    rw [List.countP_cons]
    cases j with
    | zero =>
      simp only [List.getElem?_cons_zero, Option.some.injEq] at hx
      subst hx
      by_cases e : a.id < i
      · simp [e]
      · have h0 : r.countP (fun x => decide (x.id < i)) = 0 := by
          rw [List.countP_eq_zero]
          intro y hy
          have := h.1 y hy
          simp
          omega
        simp [e]
        intro y hy
        have := h.1 y hy
        omega
    | succ j =>
      simp only [List.getElem?_cons_succ] at hx
      have := ih h.2 hx
      unfold posN at this
      by_cases e : a.id < i
      · simp [e]
        omega
      · have hax := h.1 x (List.mem_of_getElem? hx)
        have h0 : r.countP (fun x => decide (x.id < i)) = 0 := by
          rw [List.countP_eq_zero]
          intro y hy
          have := h.1 y hy
          simp
          omega
        simp [e]
        omega
theorem getI_pos {l : List Nd} (h : l.Pairwise (fun a b => a.id < b.id)) {i : Int} {x : Nd} (hx : getI l i = some x) : l[posN l i]? = some x := by
  obtain ⟨h1, h2⟩ := getI_mem hx
  obtain ⟨j, hj, rfl⟩ := List.getElem_of_mem h1
  have hjx : l[j]? = some l[j] := List.getElem?_eq_getElem hj
  have hn : ¬ j < posN l i := fun e => by have := (posN_iff h hjx).2 e; omega
  have hp : posN l i ≤ j := by omega
  have hp' : l[posN l i]? = some (l[posN l i]'(by omega)) := List.getElem?_eq_getElem (by omega)
  rw [hp']
  congr 1
  have h3 : ¬ (l[posN l i]'(by omega)).id < i := fun e => by have := (posN_iff h hp').1 e; omega
  rcases Nat.lt_or_eq_of_le hp with e | e
  · have := (List.pairwise_iff_getElem.1 h) (posN l i) j (by omega) hj e
    omega
  · simp only [← e]
theorem getI_at {l : List Nd} {i : Int} (h : l.Pairwise (fun a b => a.id < b.id)) : getI l i = match l[posN l i]? with | some x => if x.id = i then some x else none | none => none := by
  cases hg : getI l i with
  | some x => rw [getI_pos h hg]; simp [(getI_mem hg).2]
  | none =>
    cases hp : l[posN l i]? with
    | none => rfl
    | some x => simp [getI_none hg x (List.mem_of_getElem? hp)]

def cmpI (a b : Int) : Int := if a < b then -1 else if b < a then 1 else 0
theorem nan_any (w : World) (a : Int) : Calls Tryz.prog 114 #[.int .u32 a] w fun e w' => e = .returned (.bool false) ∧ w' = w := by
  go_enter Tryz.func114, Tryz.ntmps114
  go_wp2
  go_ret
  exact ⟨rfl, rfl⟩
theorem cmp_any (w : World) (a b : Int) : Calls Tryz.prog 105 #[.int .u32 a, .int .u32 b] w fun e w' => e = .returned (.int .i64 (cmpI a b)) ∧ w' = w := by
  unfold cmpI
  by_cases h : a < b
  · rw [if_pos h]
    go_enter Tryz.func105, Tryz.ntmps105
    go_wp2_with fail
    refine (nan_any _ _).mono ?_; rintro e w1 ⟨rfl, rfl⟩
    go_wp2_with fail
    refine (nan_any _ _).mono ?_; rintro e w1 ⟨rfl, rfl⟩
    go_wp2
    go_ret
    exact ⟨rfl, rfl⟩
  · rw [if_neg h]
    by_cases h2 : b < a
    · rw [if_pos h2]
      go_enter Tryz.func105, Tryz.ntmps105
      go_wp2_with fail
      refine (nan_any _ _).mono ?_; rintro e w1 ⟨rfl, rfl⟩
      go_wp2_with fail
      refine (nan_any _ _).mono ?_; rintro e w1 ⟨rfl, rfl⟩
      go_wp2
      go_ret
      exact ⟨rfl, rfl⟩
    · rw [if_neg h2]
      go_enter Tryz.func105, Tryz.ntmps105
      go_wp2_with fail
      refine (nan_any _ _).mono ?_; rintro e w1 ⟨rfl, rfl⟩
      go_wp2_with fail
      refine (nan_any _ _).mono ?_; rintro e w1 ⟨rfl, rfl⟩
      go_wp2
      go_ret
      exact ⟨rfl, rfl⟩
theorem by_id (w : World) (x : Nd) (b : Int) : Calls Tryz.prog 112 #[ndV x, .int .u32 b] w fun e w' => e = .returned (.int .i64 (cmpI x.id b)) ∧ Only [] w w' := by
  obtain ⟨i, p, n, d, s⟩ := x
  unfold ndV
  simp only
  go_enter Tryz.func112, Tryz.ntmps112
  go_wp2_with fail
  refine (cmp_any _ _ _).mono ?_; rintro e w1 ⟨rfl, rfl⟩
  go_wp2
  go_ret
  exact ⟨rfl, (Only.refl [] w).alloc _⟩

set_option maxRecDepth 100000 in
set_option maxHeartbeats 2000000 in
theorem search_any (w : World) (A : Option Addr) (c : Nat) (l : List Nd) (i : Int) (hb : Els ndE 5 w A l) (hr : l.Pairwise (fun a b => a.id < b.id)) (hl : l.length ≤ 1048576) :
    Calls Tryz.prog 111 #[.slice A l.length c, .int .u32 i, .func (.func 112) #[] #[]] w fun e w' => e = .returned (.tuple #[.int .i64 (posN l i : Nat), .bool (getI l i).isSome]) ∧ Only [] w w' := by
  have hlI : (l.length : Int) ≤ 1048576 := by omega
  have hp := posN_le l i
  have hat := getI_at (i := i) hr
  have hiff := fun (j : Nat) (x : Nd) => posN_iff hr (i := i) (j := j) (x := x)
  generalize getI l i = gi at *
  generalize posN l i = p at *
  replace hat := Lib.hid hat
  replace hiff := Lib.hid hiff
  replace hr := Lib.hid hr
  go_enter Tryz.func111, Tryz.ntmps111
  go_wp2_with fail
  go_loopw [9, 10] (fun a b wr => ∃ lo hi : Nat, a = .int .i64 lo ∧ b = .int .i64 hi ∧ lo ≤ p ∧ p ≤ hi ∧ hi ≤ l.length ∧ Only [] w wr) (fun a b _ => (intOf b - intOf a).toNat)
  case atStart => exact ⟨0, l.length, rfl, rfl, Nat.zero_le _, hp, Nat.le_refl _, Only.refl _ _⟩
  case round =>
    obtain ⟨lo, hi, rfl, rfl, h1, h2, h3, hk⟩ := hrel
    by_cases hlt : lo < hi
    · have hm : (lo + hi) / 2 < l.length := by omega
      obtain ⟨g, o, rfl, hg, hca⟩ := hb.get hm
      obtain ⟨c0, c1, c2, c3, c4⟩ := nds_at (hca.kept hk (by simp)) hm
      have hx : l[(lo + hi) / 2]? = some l[(lo + hi) / 2] := List.getElem?_eq_getElem hm
      have hpx := hiff.out _ _ hx
      have hc := fun W => by_id W l[(lo + hi) / 2] i
      generalize l[(lo + hi) / 2] = x at *
      obtain ⟨xi, xp, xn, xd, xs⟩ := x
      simp only [ndV] at c0 c1 c2 c3 c4 hpx hc
      replace hx := Lib.hid hx
      replace hc := Lib.hid hc
      by_cases hlow : xi < i
      · have hq := hpx.1 hlow
        have hcm : cmpI xi i = -1 := by simp [cmpI, hlow]
        rw [hcm] at hc
        clear hca hpx
        go_wp2_with fail
        refine (hc.out _).mono ?_; rintro e w3 ⟨rfl, k3⟩
        go_wp2_with fail
        go_roundw
        case rel => exact ⟨(lo + hi) / 2 + 1, hi, by go_num, rfl, by omega, h2, h3, hk.trans k3⟩
        case measure => simp [intOf]; omega
      · have hq : ¬ (lo + hi) / 2 < p := fun e => hlow (hpx.2 e)
        have hcm : ¬ cmpI xi i < 0 := by unfold cmpI; rw [if_neg hlow]; split <;> omega
        generalize cmpI xi i = cc at *
        clear hca hpx
        go_wp2_with fail
        refine (hc.out _).mono ?_; rintro e w3 ⟨rfl, k3⟩
        go_wp2_with fail
        go_roundw
        case rel => exact ⟨lo, (lo + hi) / 2, rfl, by go_num, h1, by omega, by omega, hk.trans k3⟩
        case measure => simp [intOf]; omega
    · obtain rfl : lo = p := by omega
      obtain rfl : lo = hi := by omega
      by_cases hn : lo < l.length
      · obtain ⟨g, o, rfl, hg, hca⟩ := hb.get hn
        obtain ⟨c0, c1, c2, c3, c4⟩ := nds_at (hca.kept hk (by simp)) hn
        have hx : l[lo]? = some l[lo] := List.getElem?_eq_getElem hn
        have hc := fun W => by_id W l[lo] i
        have hga := hat.out
        rw [hx] at hga
        generalize l[lo] = x at *
        obtain ⟨xi, xp, xn, xd, xs⟩ := x
        simp only [ndV] at c0 c1 c2 c3 c4 hc hga
        have hres : (cmpI xi i == 0) = gi.isSome := by
          rw [hga]
          unfold cmpI
          by_cases e : xi = i
          · simp [e]
          · rw [if_neg e]
            split
            · rfl
            · split
              · rfl
              · omega
        have hres' : decide (cmpI xi i = 0) = gi.isSome := by rw [← hres]; rfl
        replace hx := Lib.hid hx
        replace hc := Lib.hid hc
        clear hga hca
        generalize cmpI xi i = cc at *
        go_wp2_with fail
        refine (hc.out _).mono ?_; rintro e w3 ⟨rfl, k3⟩
        go_wp2
        go_ret2
        exact ⟨by simp, hk.trans k3⟩
      · have hga := hat.out
        rw [List.getElem?_eq_none (by omega)] at hga
        subst hga
        go_wp2
        go_ret2
        exact ⟨rfl, hk⟩

theorem place_any (w : World) (A : Option Addr) (c : Nat) (l : List Nd) (i : Int) (hb : Els ndE 5 w A l) (hr : l.Pairwise (fun a b => a.id < b.id)) (hl : l.length ≤ 1048576) :
    Calls Tryz.prog 96 #[.slice A l.length c, .int .u32 i] w fun e w' => e = .returned (.tuple #[.int .i64 (posN l i : Nat), .bool (getI l i).isSome]) ∧ Only [] w w' := by
  have hs := fun W (k : Only [] w W) => search_any W A c l i (hb.kept k (by simp)) hr hl
  replace hs := Lib.hid hs
  go_enter Tryz.func96, Tryz.ntmps96
  go_wp2_with fail
  refine (hs.out _ (Only.refl _ _)).mono ?_; rintro e w3 ⟨rfl, k3⟩
  go_wp2
  go_ret2
  exact ⟨rfl, k3⟩
end Go.Proofs.YtalkhhjfplahkaaGreat
namespace Go.Proofs.YtalkhhjfplahkaaGreat
set_option maxRecDepth 100000
open Go.RowKit

section
variable {P : Program} {ops : Array Oper} {rest : List Oper} {o : Oper} {a : Act} {w : World} {Q : Exit → Act → World → Prop}
end

def ndA (x : Nd) : Array Value := #[.int .u32 x.id, .int .u32 x.par, .string (strOf x.name), .bool x.dir, .int .u32 x.size]
theorem size_nd : (Tryz.prog.info? 42).map (·.size) = some 5 := by kernel_rfl
theorem ndA_zero : ndA zeroN = #[.int .u32 0, .int .u32 0, .string ⟨#[]⟩, .bool false, .int .u32 0] := rfl
/-- A boxed inode. -/
abbrev Bx (w : World) (g : Nat) (x : Nd) : Prop := Blk w g 42 (ndA x)
theorem Bx.cells {w : World} {g : Nat} {x : Nd} (h : Bx w g x) : w.cell? ⟨g, 0, none⟩ = some (.int .u32 x.id) ∧ w.cell? ⟨g, 1, none⟩ = some (.int .u32 x.par) ∧ w.cell? ⟨g, 2, none⟩ = some (.string (strOf x.name)) ∧ w.cell? ⟨g, 3, none⟩ = some (.bool x.dir) ∧ w.cell? ⟨g, 4, none⟩ = some (.int .u32 x.size) :=
  ⟨h.cell 0, h.cell 1, h.cell 2, h.cell 3, h.cell 4⟩
theorem Bx.kept {S : List Nat} {w w' : World} {g : Nat} {x : Nd} (h : Bx w g x) (k : Only S w w') (hg : g ∉ S) : Bx w' g x := Blk.kept h k hg
theorem Bx.alloc {w : World} {g : Nat} {x : Nd} (h : Bx w g x) (o : Obj) : Bx (w.alloc o) g x := Blk.alloc h o
theorem Bx.new (w : World) (x : Nd) : Bx (w.alloc (.cells #[.int .u32 x.id, .int .u32 x.par, .string (strOf x.name), .bool x.dir, .int .u32 x.size] 42)) w.heap.size x := Blk.new _ _ _
theorem Bx.zero (w : World) : Bx (w.alloc (.cells #[.int .u32 0, .int .u32 0, .string ⟨#[]⟩, .bool false, .int .u32 0] 42)) w.heap.size zeroN := Blk.new _ _ _
section
variable {ops : Array Oper} {rest : List Oper} {o : Oper} {a : Act} {w : World} {Q : Exit → Act → World → Prop}
theorem wpList_load_nd (p : Nd) (hw : Region.wanted o (yielded ops a.tmps) = true) (x : Operand) (ho : o.op = .load 42 x) (g : Nat) (hx : a.eval x = .pointer (some ⟨g, 0, none⟩)) (hb : Blk w g 42 (ndA p))
    (h : wpList Tryz.prog ops Q rest (a.put o.dst (ndV p)) w) : wpList Tryz.prog ops Q (o :: rest) a w :=
  wpList_load_blk hw 42 x ho g hx (ndA p).toList _ hb Tryz.underlying42 rfl size_nd h
theorem wpList_store_nd (p q : Nd) (hw : Region.wanted o (yielded ops a.tmps) = true) (x y : Operand) (ho : o.op = .store 42 x y) (g : Nat) (hx : a.eval x = .pointer (some ⟨g, 0, none⟩)) (hy : a.eval y = ndV p) (hb : Blk w g 42 (ndA q))
    (h : ∀ w', Blk w' g 42 (ndA p) → Only [g] w w' → wpList Tryz.prog ops Q rest (a.put o.dst undef) w') : wpList Tryz.prog ops Q (o :: rest) a w :=
  wpList_store_blk hw 42 x y ho g _ _ hx hy hb size_nd rfl (by simp [Value.oneCell']) h
end
theorem results_nd {fn : Func} {p u : Tmp} (h : fn.results = #[.cell p 42, .tmp u]) (tmps : Array Value) (w : World) (g : Nat) (hp : tmps.getD p undef = .pointer (some ⟨g, 0, none⟩)) (q : Nd) (hb : Blk w g 42 (ndA q)) (v : Value) (hv : tmps.getD u undef = v) :
    (results fn tmps).run Tryz.prog w = .ok (.tuple #[ndV q, v]) w := by
  subst hv
  have hl := run_loadVar_mid (P := Tryz.prog) w g 0 42 (ndA q).toList _ (Blk.range9 hb) Tryz.underlying42 rfl size_nd
  rw [results_cell_tmp h, hp]
  simp only [asAddr, Sem.run_pure, Result.andThen_ok, hl]
  rfl


end Go.Proofs.YtalkhhjfplahkaaGreat
