/- A tree with one more is a tree; what is found in it. -/
import Derived.Test.YteiekfccfddmjaaDoorRrm10
namespace Go.Proofs.YteiekfccfddmjaaDoor

theorem pw_ins {α : Type} {R : α → α → Prop} {l : List α} {x : α} {n : Nat} (h : l.Pairwise R) (h1 : ∀ y ∈ l.take n, R y x) (h2 : ∀ y ∈ l.drop n, R x y) : (l.take n ++ x :: l.drop n).Pairwise R := by
  have h' := h
  rw [← List.take_append_drop n l] at h'
  rw [List.pairwise_append] at h' ⊢
  refine ⟨h'.1, List.pairwise_cons.2 ⟨h2, h'.2.1⟩, fun u hu v hv => ?_⟩
  rcases List.mem_cons.1 hv with rfl | hv
  · exact h1 u hu
  · exact h'.2.2 u hu v hv
/-- With one more, in its place. -/
def addT (t : List Nd) (x : Nd) : List Nd := t.take (posN t x.id) ++ x :: t.drop (posN t x.id)
section
variable {t : List Nd} {x : Nd}
theorem ins_mem {n : Nat} {y : Nd} : y ∈ t.take n ++ x :: t.drop n ↔ y = x ∨ y ∈ t := by
  have e : y ∈ t ↔ y ∈ t.take n ∨ y ∈ t.drop n := by rw [← List.mem_append, List.take_append_drop]
  rw [e]
  simp only [List.mem_append, List.mem_cons]
  constructor
  · rintro (h | h | h)
    · exact .inr (.inl h)
    · exact .inl h
    · exact .inr (.inr h)
  · rintro (h | h | h)
    · exact .inr (.inl h)
    · exact .inl h
    · exact .inr (.inr h)
theorem addT_mem {y : Nd} : y ∈ addT t x ↔ y = x ∨ y ∈ t := ins_mem
theorem addT_rise (hr : t.Pairwise (fun a b => a.id < b.id)) (hn : ∀ y ∈ t, y.id ≠ x.id) : (addT t x).Pairwise (fun a b => a.id < b.id) := by
  refine pw_ins hr (fun y hy => ?_) (fun y hy => ?_)
  · obtain ⟨j, hj⟩ := List.mem_iff_getElem?.1 hy
    rw [List.getElem?_take] at hj
    split at hj
    · exact (posN_iff hr hj).2 (by assumption)
    · cases hj
  · obtain ⟨j, hj⟩ := List.mem_iff_getElem?.1 hy
    rw [List.getElem?_drop] at hj
    have h1 := posN_iff hr (i := x.id) hj
    have h2 := hn y (List.mem_of_getElem? hj)
    have h3 : ¬ y.id < x.id := fun q => by have := h1.1 q; omega
    omega
theorem addT_get (hr : t.Pairwise (fun a b => a.id < b.id)) (hn : ∀ y ∈ t, y.id ≠ x.id) (i : Int) : getI (addT t x) i = if i = x.id then some x else getI t i := by
  have hr' := addT_rise hr hn
  by_cases h : i = x.id
  · rw [if_pos h, h]
    exact getI_of hr' (addT_mem.2 (.inl rfl))
  · rw [if_neg h]
    cases hg : getI t i with
    | none =>
      refine getI_none_of fun y hy => ?_
      rcases addT_mem.1 hy with rfl | hy
      · exact fun e => h e.symm
      · exact getI_none hg y hy
    | some y =>
      obtain ⟨h1, h2⟩ := getI_mem hg
      exact (getI_iff hr').2 ⟨addT_mem.2 (.inr h1), h2⟩
theorem addT_par (hr : t.Pairwise (fun a b => a.id < b.id)) (hn : ∀ y ∈ t, y.id ≠ x.id) : parF (addT t x) = upd (parF t) x.id x.par := by
  funext i
  rw [parF, addT_get hr hn, upd]
  by_cases h : i = x.id
  · rw [if_pos h, if_pos h]; rfl
  · rw [if_neg h, if_neg h]; rfl
theorem addT_kids (e : Int) : kidsN (addT t x) e = kidsN t e + if x.par = e then 1 else 0 := by
  have h : kidsN t e = (t.take (posN t x.id)).countP (fun x => x.par == e) + (t.drop (posN t x.id)).countP (fun x => x.par == e) := by
    rw [← List.countP_append, List.take_append_drop]; rfl
  rw [h]
  unfold kidsN addT
  rw [List.countP_append, List.countP_cons]
  by_cases hp : x.par = e
  · simp [hp]; omega
  · simp [hp]
theorem addT_length : (addT t x).length = t.length + 1 := by
  unfold addT
  simp
  omega
theorem addT_tail (h : Tree t) (hid : 1 < x.id) : addT t x = rootN :: (t.tail.take (posN t x.id - 1) ++ x :: t.tail.drop (posN t x.id - 1)) := by
  have h1 := (posN_iff h.rise (i := x.id) h.get0).1 (by simpa [rootN] using hid)
  obtain ⟨m, hm⟩ : ∃ m, posN t x.id = m + 1 := ⟨posN t x.id - 1, by omega⟩
  unfold addT
  rw [hm]
  have e := h.cons
  generalize t.tail = r at *
  subst e
  simp
/-- What a new one must be. -/
structure NewOk (t : List Nd) (x : Nd) (D : Nd) (k : Nat) : Prop where
  tree : Tree t
  id : 1 < x.id
  free : getI t x.id = none
  mem : D ∈ t
  dir : D.dir = true
  par : x.par = D.id
  kid : kidN t D.id x.name = none
  len : t.length ≠ 40
  few : kidsN t D.id < 12
  name : nmB x.name = true
  size : szB x = true
  up : up (parF t) k D.id = some 1
  deep : k < 6
variable {D : Nd} {k : Nat}
theorem NewOk.no (h : NewOk t x D k) : ∀ y ∈ t, y.id ≠ x.id := getI_none h.free
theorem NewOk.away (h : NewOk t x D k) {y : Nd} (hy : y ∈ t) (j : Nat) : Go.Proofs.YteiekfccfddmjaaDoor.up (parF t) j y.id ≠ some x.id := fun e => by
  rcases h.tree.up_mem j ⟨y, hy, rfl⟩ e with h0 | ⟨z, hz, h1⟩
  · have := h.id; omega
  · exact h.no z hz h1
theorem NewOk.add (h : NewOk t x D k) : Tree (addT t x) := by
  have hT := h.tree
  have hr := hT.rise
  have hn := h.no
  have htl := addT_tail hT h.id
  have htm : ∀ y, y ∈ (addT t x).tail ↔ y = x ∨ y ∈ t.tail := fun y => by rw [htl, List.tail_cons]; exact ins_mem
  have hdx : D.id ≠ x.id := hn D h.mem
  have hup : ∀ y ∈ t, ∀ j, Go.Proofs.YteiekfccfddmjaaDoor.up (parF (addT t x)) j y.id = Go.Proofs.YteiekfccfddmjaaDoor.up (parF t) j y.id := fun y hy j => by
    rw [addT_par hr hn]
    exact upd_out j y.id fun m _ => h.away hy m
  refine ⟨by rw [htl]; rfl, by have := hT.len; have := h.len; rw [addT_length]; omega, addT_rise hr hn, fun y hy => ?_, fun y hy => ?_, fun y hy => ?_, fun y hy => ?_, ?_, fun y hy => ?_⟩
  · rcases (htm y).1 hy with rfl | hy
    · exact h.name
    · exact hT.name y hy
  · rcases (htm y).1 hy with rfl | hy
    · exact h.size
    · exact hT.size y hy
  · rcases (htm y).1 hy with rfl | hy
    · refine ⟨D, ?_, h.dir⟩
      rw [addT_get hr hn, h.par, if_neg hdx]
      exact hT.get h.mem
    · obtain ⟨p, hp, hpd⟩ := hT.dirs y hy
      refine ⟨p, ?_, hpd⟩
      rw [addT_get hr hn, if_neg (fun e => by rw [e, h.free] at hp; cases hp)]
      exact hp
  · rcases addT_mem.1 hy with rfl | hy
    · refine ⟨k + 1, by have := h.deep; omega, ?_⟩
      rw [Go.Proofs.YteiekfccfddmjaaDoor.up, addT_par hr hn, upd_self, Option.bind_some, ← addT_par hr hn, h.par, hup D h.mem]
      exact h.up
    · obtain ⟨m, hm, hu⟩ := hT.deep y hy
      exact ⟨m, hm, by rw [hup y hy]; exact hu⟩
  · rw [htl, List.tail_cons]
    have hno : ∀ y ∈ t.tail, ¬ (y.par = x.par ∧ y.name = x.name) := fun y hy e => kidN_none h.kid y (List.mem_of_mem_tail hy) ⟨by rw [← h.par]; exact e.1, e.2⟩
    exact pw_ins hT.uniq (fun y hy => hno y (List.mem_of_mem_take hy)) (fun y hy e => hno y (List.mem_of_mem_drop hy) ⟨e.1.symm, e.2.symm⟩)
  · rw [addT_kids]
    by_cases hp : x.par = y.par
    · rw [if_pos hp, ← hp, h.par]
      have := h.few
      omega
    · rw [if_neg hp]
      rcases (htm y).1 hy with rfl | hy
      · exact absurd rfl hp
      · exact hT.kids y hy
theorem NewOk.kid_old (h : NewOk t x D k) {d : Int} {s : List UInt8} (hd : 1 ≤ d) {y : Nd} (hk : kidN t d s = some y) : kidN (addT t x) d s = some y := by
  have h1 := (h.tree.kid_iff hd).1 hk
  exact (h.add.kid_iff hd).2 ⟨addT_mem.2 (.inr h1.1), h1.2⟩
/-- What was found is found. -/
theorem NewOk.walk (h : NewOk t x D k) : ∀ (names : List (List UInt8)) (y : Nd), y ∈ t → (walkR t y names).2 = 0 → walkR (addT t x) y names = walkR t y names
  | [], y, _, _ => rfl
  | s :: r, y, hy, he => by
    simp only [walkR] at he ⊢
    cases hd : y.dir with
    | false => rw [hd] at he; simp at he
    | true =>
      rw [hd] at he
      simp only [if_true] at he ⊢
      cases hk : kidN t y.id s with
      | none => rw [hk] at he; simp at he
      | some z =>
        rw [hk] at he
        rw [h.kid_old (h.tree.pos hy) hk]
        exact h.walk r z (kidN_mem hk).1 he
/-- What is found and was not is the new one. -/
theorem NewOk.walk_new (h : NewOk t x D k) : ∀ (names : List (List UInt8)) (y : Nd), y ∈ t → (walkR (addT t x) y names).2 = 0 → (walkR t y names).2 ≠ 0 → (walkR (addT t x) y names).1.id = x.id
  | [], y, _, _, hn => absurd rfl hn
  | s :: r, y, hy, he, hn => by
    simp only [walkR] at he hn ⊢
    cases hd : y.dir with
    | false => rw [hd] at he; simp at he
    | true =>
      rw [hd] at he hn
      simp only [if_true] at he hn ⊢
      cases hk : kidN (addT t x) y.id s with
      | none => rw [hk] at he; simp at he
      | some z =>
        rw [hk] at he
        simp only at he ⊢
        obtain ⟨h1, h2, h3⟩ := kidN_mem hk
        rcases addT_mem.1 h1 with rfl | h1
        · cases r with
          | nil => rfl
          | cons s' r' =>
            simp only [walkR] at he
            cases hzd : z.dir with
            | false => rw [hzd] at he; simp at he
            | true =>
              rw [hzd] at he
              simp only [if_true] at he
              have hno : kidN (addT t z) z.id s' = none := kidN_none_of fun u hu e => by
                rcases addT_mem.1 hu with rfl | hu
                · have := h.par; have := h.no D h.mem; have := e.1; omega
                · rcases h.tree.mem hu with rfl | hut
                  · have h9 := e.1; have := h.id; simp only [rootN] at h9; omega
                  · obtain ⟨p, hp, _⟩ := h.tree.dirs u hut
                    rw [e.1, h.free] at hp
                    cases hp
              rw [hno] at he
              simp at he
        · have hkt : kidN t y.id s = some z := (h.tree.kid_iff (h.tree.pos hy)).2 ⟨h1, h2, h3⟩
          rw [hkt] at hn
          exact h.walk_new r z h1 he hn
/-- The new one is found. -/
theorem NewOk.found (h : NewOk t x D k) {q : List (List UInt8)} (hq : walkR t rootN q = (D, 0)) : walkR (addT t x) rootN (q ++ [x.name]) = (x, 0) := by
  have h1 := h.walk q rootN h.tree.root_mem (by rw [hq])
  rw [walkR_app _ _ _ _ (by rw [h1, hq]), h1, hq]
  simp only [walkR, h.dir, if_true]
  rw [(h.add.kid_iff (h.tree.pos h.mem)).2 ⟨addT_mem.2 (.inl rfl), h.par, rfl⟩]
theorem NewOk.take (h : NewOk t x D k) : (addT t x).take (posN (addT t x) x.id) ++ (addT t x).drop (posN (addT t x) x.id + 1) = t := by
  have hle := posN_le t x.id
  have hl : (t.take (posN t x.id)).length = posN t x.id := by rw [List.length_take]; omega
  have hx : (addT t x)[posN t x.id]? = some x := by
    unfold addT
    rw [List.getElem?_append_right (by omega), hl]
    simp
  rw [posN_of (addT_rise h.tree.rise h.no) hx]
  unfold addT
  rw [List.take_append_of_le_length (by omega), List.take_of_length_le (by omega), List.drop_append, hl, List.drop_of_length_le (by omega), Nat.add_sub_cancel_left]
  simp
theorem NewOk.lone (h : NewOk t x D k) : kidsN (addT t x) x.id = 0 := by
  unfold kidsN
  rw [List.countP_eq_zero]
  intro u hu e
  have e : u.par = x.id := by simpa using e
  rcases addT_mem.1 hu with rfl | hu
  · have := h.par; have := h.no D h.mem; omega
  · rcases h.tree.mem hu with rfl | hut
    · have := h.id; simp [rootN] at e; omega
    · obtain ⟨p, hp, _⟩ := h.tree.dirs u hut
      rw [e, h.free] at hp
      cases hp
end
theorem walk_up {t : List Nd} (h : Tree t) : ∀ (names : List (List UInt8)) (x : Nd), x ∈ t → (walkR t x names).2 = 0 → up (parF t) names.length (walkR t x names).1.id = some x.id
  | [], x, _, _ => rfl
  | s :: r, x, hx, he => by
    simp only [walkR] at he ⊢
    cases hd : x.dir with
    | false => rw [hd] at he; simp at he
    | true =>
      rw [hd] at he
      simp only [if_true] at he ⊢
      cases hk : kidN t x.id s with
      | none => rw [hk] at he; simp at he
      | some y =>
        rw [hk] at he
        simp only at he ⊢
        obtain ⟨h1, h2, _⟩ := kidN_mem hk
        rw [List.length_cons, up_snoc, walk_up h r y h1 he, Option.bind_some, h.parF_of h1, h2]
end Go.Proofs.YteiekfccfddmjaaDoor
