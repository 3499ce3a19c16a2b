/- What Make answers; what is found then. -/
import Derived.Test.YteiekfccfddmjaaDoorStay1
namespace Go.Proofs.YteiekfccfddmjaaDoor

theorem makeR_cases (t : List Nd) (p : List UInt8) (id : Int) (dir : Bool) : ((makeR t p id dir).1 = [] ∧ (makeR t p id dir).2 ≠ 0) ∨ ∃ D nm q k, splitL p = some (q ++ [nm]) ∧ walkR t rootN q = (D, 0) ∧ NewOk t ⟨id, D.id, nm, dir, 0⟩ D k ∧ makeR t p id dir = (addT t ⟨id, D.id, nm, dir, 0⟩, 0) := by
  have hme := fun hT : Tree t => spotR_mem hT (namesOf t p)
  have hnm := spotR_name (t := t) (names := namesOf t p)
  unfold makeR
  by_cases he : errOf t p = 0
  rotate_left
  · rw [if_pos he]; exact .inl ⟨rfl, he⟩
  rw [if_neg (fun h => h he)]
  obtain ⟨hT, hsp⟩ := errOf_tree he
  by_cases hs : (spotR t (namesOf t p)).2.2 = 0
  rotate_left
  · rw [if_pos hs]; exact .inl ⟨rfl, hs⟩
  rw [if_neg (fun h => h hs)]
  obtain ⟨q, hq⟩ := hnm hs
  obtain ⟨hm, hd⟩ := hme hT hs
  have hs' := hs
  have hS : (spotR t (namesOf t p)).1 = (walkR t rootN q).1 ∧ (walkR t rootN q).2 = 0 := by
    rw [hq, spotR_last] at hs' ⊢
    by_cases h1 : (walkR t rootN q).2 = 0
    · rw [if_pos h1] at hs' ⊢
      by_cases h2 : (walkR t rootN q).1.dir = true
      · rw [if_pos h2]; exact ⟨rfl, h1⟩
      · rw [if_neg h2] at hs'; cases hs'
    · rw [if_neg h1] at hs'; exact absurd hs' h1
  generalize spotR t (namesOf t p) = S at *
  obtain ⟨D, nm, es⟩ := S
  simp only at hs hm hd hS hq ⊢
  by_cases hk : (kidN t D.id nm).isSome = true
  · rw [if_pos hk]; exact .inl ⟨rfl, by simp⟩
  rw [if_neg hk]
  by_cases h4 : t.length = 40 ∨ 12 ≤ kidsN t D.id
  · rw [if_pos h4]; exact .inl ⟨rfl, by simp⟩
  rw [if_neg h4]
  by_cases hi : id ≤ 1 ∨ (getI t id).isSome = true
  · rw [if_pos hi]; exact .inl ⟨rfl, by simp⟩
  rw [if_neg hi]
  refine .inr ⟨D, nm, q, q.length, by rw [hsp, hq], by rw [hS.1, ← hS.2], ⟨hT, ?_, ?_, hm, hd, rfl, ?_, fun e => h4 (.inl e), ?_, ?_, ?_, ?_, ?_⟩, rfl⟩
  · have : ¬ id ≤ 1 := fun e => hi (.inl e)
    simp only; omega
  · cases hg : getI t id with
    | none => rfl
    | some y => exact absurd (.inr (by rw [hg]; rfl)) hi
  · cases hg : kidN t D.id nm with
    | none => rfl
    | some y => rw [hg] at hk; simp at hk
  · have : ¬ 12 ≤ kidsN t D.id := fun e => h4 (.inr e)
    omega
  · exact splitL_names hsp nm (by rw [hq]; simp)
  · cases dir <;> rfl
  · have := walk_up hT q rootN hT.root_mem hS.2
    rw [← hS.1] at this
    exact this
  · have := splitL_le hsp
    rw [hq] at this
    simp at this
    omega
theorem findR_of {t : List Nd} {p : List UInt8} {ns : List (List UInt8)} (hT : Tree t) (hs : splitL p = some ns) : findR t p = walkR t rootN ns := by
  have he : errOf t p = 0 := by rw [errOf, if_pos hT, hs]; rfl
  rw [findR, if_pos he, namesOf, if_pos hT, hs]
  rfl
theorem findR_bad {t : List Nd} {p : List UInt8} (hT : Tree t) (hs : splitL p = none) : findR t p = (zeroN, 9) := by
  have he : errOf t p = 9 := by rw [errOf, if_pos hT, hs]; rfl
  rw [findR, if_neg (by rw [he]; decide), he]
section
variable {t : List Nd} {x D : Nd} {k : Nat}
theorem NewOk.find (h : NewOk t x D k) {p : List UInt8} {q : List (List UInt8)} (hs : splitL p = some (q ++ [x.name])) (hq : walkR t rootN q = (D, 0)) : findR (addT t x) p = (x, 0) := by
  rw [findR_of h.add hs, h.found hq]
theorem NewOk.find_old (h : NewOk t x D k) (o : List UInt8) (he : (findR t o).2 = 0) : findR (addT t x) o = findR t o := by
  cases hs : splitL o with
  | none => rw [findR_bad h.tree hs] at he; cases he
  | some ns =>
    rw [findR_of h.tree hs] at he ⊢
    rw [findR_of h.add hs]
    exact h.walk ns rootN h.tree.root_mem he
theorem NewOk.find_new (h : NewOk t x D k) (o : List UInt8) (he : (findR (addT t x) o).2 = 0) (hn : (findR t o).2 ≠ 0) : (findR (addT t x) o).1.id = x.id := by
  cases hs : splitL o with
  | none => rw [findR_bad h.add hs] at he; cases he
  | some ns =>
    rw [findR_of h.tree hs] at hn
    rw [findR_of h.add hs] at he ⊢
    exact h.walk_new ns rootN h.tree.root_mem he hn
theorem NewOk.remove (h : NewOk t x D k) {p : List UInt8} {q : List (List UInt8)} (hs : splitL p = some (q ++ [x.name])) (hq : walkR t rootN q = (D, 0)) : removeR (addT t x) p x.dir = (t, x, 0) := by
  have hf := h.find hs hq
  have hkp : keptR (addT t x) x x.dir = 0 := by
    have h1 : x.id ≠ 1 := by have := h.id; omega
    rw [keptR, if_neg h1, h.lone]
    cases hd : x.dir <;> simp
  rw [removeR, hf]
  simp only [ne_eq, not_true, if_false]
  rw [hkp]
  simp only [not_true, if_false]
  rw [h.take]
theorem addT_le : (addT t x).length = t.length + 1 := addT_length
end
end Go.Proofs.YteiekfccfddmjaaDoor
