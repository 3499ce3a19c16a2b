/- A tree with one elsewhere is a tree; what is found in it; and back. -/
import Derived.Test.YteiekfccfddmjaaDoorStay2
import Derived.Test.YteiekfccfddmjaaDoorRen10
namespace Go.Proofs.YteiekfccfddmjaaDoor

/-- One elsewhere, in its place. -/
def movT (t : List Nd) (n : Nd) (d : Int) (s : List UInt8) : List Nd := t.set (posN t n.id) { n with par := d, name := s }
structure MovOk (t : List Nd) (n D : Nd) (s : List UInt8) (k : Nat) : Prop where
  tree : Tree t
  mem : n ∈ t
  id : n.id ≠ 1
  dmem : D ∈ t
  dir : D.dir = true
  out : ¬ Ins t n.id D.id
  kid : kidN t D.id s = none
  few : D.id ≠ n.par → kidsN t D.id < 12
  name : nmB s = true
  up : up (parF t) k D.id = some 1
  high : k + 1 + hgtN t n ≤ 6
theorem hgt_ge {t : List Nd} (n : Nd) : ∀ (l : List Nd) (m : Nat), m ≤ l.foldl (hgtF t n) m ∧ ∀ x ∈ l, insB t n.id x.id = true → depN t x - depN t n ≤ l.foldl (hgtF t n) m
  | [], m => ⟨Nat.le_refl _, fun x hx => by simp at hx⟩
  | a :: r, m => by
    obtain ⟨h1, h2⟩ := hgt_ge n r (hgtF t n m a)
    have h3 : m ≤ hgtF t n m a := by unfold hgtF; split <;> omega
    refine ⟨Nat.le_trans h3 h1, fun x hx hi => ?_⟩
    rcases List.mem_cons.1 hx with rfl | hx
    · refine Nat.le_trans ?_ h1
      unfold hgtF
      rw [if_pos hi]
      omega
    · exact h2 x hx hi
theorem hgt_le {t : List Nd} (n : Nd) {b : Nat} : ∀ (l : List Nd) (m : Nat), m ≤ b → (∀ x ∈ l, insB t n.id x.id = true → depN t x - depN t n ≤ b) → l.foldl (hgtF t n) m ≤ b
  | [], m, h, _ => h
  | a :: r, m, h, hx => by
    refine hgt_le n r _ ?_ (fun x h1 h2 => hx x (by simp [h1]) h2)
    unfold hgtF
    split
    · rename_i hi
      have := hx a (by simp) hi
      omega
    · exact h
theorem tail_iff {l : List Nd} (h0 : l.head? = some rootN) (hr : l.Pairwise (fun a b => a.id < b.id)) {y : Nd} : y ∈ l.tail ↔ y ∈ l ∧ y.id ≠ 1 := by
  cases l with
  | nil => simp at h0
  | cons a r =>
    simp only [List.head?_cons, Option.some.injEq] at h0
    subst h0
    rw [List.pairwise_cons] at hr
    simp only [List.tail_cons, List.mem_cons]
    constructor
    · intro h
      have := hr.1 y h
      exact ⟨.inr h, fun e => by rw [e] at this; simp [rootN] at this⟩
    · rintro ⟨rfl | h, e⟩
      · exact absurd rfl e
      · exact h
section
variable {t : List Nd} {n D : Nd} {s : List UInt8} {k : Nat}
theorem MovOk.at (h : MovOk t n D s k) : t[posN t n.id]? = some n := getI_pos h.tree.rise (h.tree.get h.mem)
theorem MovOk.get? (h : MovOk t n D s k) (i : Nat) : (movT t n D.id s)[i]? = if i = posN t n.id then some { n with par := D.id, name := s } else t[i]? := by
  have hlt := (List.getElem?_eq_some_iff.1 h.at).1
  unfold movT
  by_cases hi : i = posN t n.id
  · rw [if_pos hi, hi, List.getElem?_set_self hlt]
  · rw [if_neg hi, List.getElem?_set_ne (fun e => hi e.symm)]
theorem MovOk.mem_iff (h : MovOk t n D s k) {y : Nd} : y ∈ movT t n D.id s ↔ y = { n with par := D.id, name := s } ∨ (y ∈ t ∧ y.id ≠ n.id) := by
  constructor
  · intro hy
    obtain ⟨i, hi⟩ := List.mem_iff_getElem?.1 hy
    rw [h.get?] at hi
    by_cases e : i = posN t n.id
    · rw [if_pos e] at hi
      injection hi with hi
      exact .inl hi.symm
    · rw [if_neg e] at hi
      refine .inr ⟨List.mem_of_getElem? hi, fun q => e ?_⟩
      rw [← posN_of h.tree.rise hi, q]
  · rintro (rfl | ⟨hy, hne⟩)
    · exact List.mem_iff_getElem?.2 ⟨posN t n.id, by rw [h.get?, if_pos rfl]⟩
    · obtain ⟨i, hi⟩ := List.mem_iff_getElem?.1 hy
      refine List.mem_iff_getElem?.2 ⟨i, ?_⟩
      rw [h.get?, if_neg, hi]
      intro e
      rw [e, h.at] at hi
      injection hi with hi
      exact hne (by rw [hi])
theorem MovOk.ids (h : MovOk t n D s k) : (movT t n D.id s).map Nd.id = t.map Nd.id := by
  apply List.ext_getElem?
  intro i
  rw [List.getElem?_map, List.getElem?_map, h.get?]
  by_cases e : i = posN t n.id
  · rw [if_pos e, e, h.at]; rfl
  · rw [if_neg e]
theorem MovOk.rise (h : MovOk t n D s k) : (movT t n D.id s).Pairwise (fun a b => a.id < b.id) := by
  have h1 := List.pairwise_map (f := Nd.id) (R := fun a b => a < b) (l := t) |>.2 h.tree.rise
  rw [← h.ids] at h1
  exact List.pairwise_map.1 h1
theorem MovOk.ne (h : MovOk t n D s k) : D.id ≠ n.id := fun e => h.out ⟨0, by simp [Go.Proofs.YteiekfccfddmjaaDoor.up, e]⟩
theorem MovOk.getI (h : MovOk t n D s k) (i : Int) : getI (movT t n D.id s) i = if i = n.id then some { n with par := D.id, name := s } else getI t i := by
  by_cases e : i = n.id
  · rw [if_pos e]
    exact (getI_iff h.rise).2 ⟨h.mem_iff.2 (.inl rfl), e.symm⟩
  · rw [if_neg e]
    cases hg : Go.Proofs.YteiekfccfddmjaaDoor.getI t i with
    | none =>
      refine getI_none_of fun y hy => ?_
      rcases h.mem_iff.1 hy with rfl | ⟨hy, _⟩
      · exact fun q => e q.symm
      · exact getI_none hg y hy
    | some y =>
      obtain ⟨h1, h2⟩ := getI_mem hg
      exact (getI_iff h.rise).2 ⟨h.mem_iff.2 (.inr ⟨h1, by rw [h2]; exact e⟩), h2⟩
theorem MovOk.par (h : MovOk t n D s k) : parF (movT t n D.id s) = upd (parF t) n.id D.id := by
  funext i
  rw [parF, h.getI, upd]
  by_cases e : i = n.id
  · rw [if_pos e, if_pos e]; rfl
  · rw [if_neg e, if_neg e]; rfl
theorem MovOk.head (h : MovOk t n D s k) : (movT t n D.id s).head? = some rootN := by
  rw [List.head?_eq_getElem?, h.get?, if_neg, h.tree.get0]
  intro e
  have h1 := h.at
  rw [← e, h.tree.get0] at h1
  injection h1 with h1
  exact h.id (by rw [← h1]; rfl)
theorem MovOk.tail (h : MovOk t n D s k) {y : Nd} : y ∈ (movT t n D.id s).tail ↔ y = { n with par := D.id, name := s } ∨ (y ∈ t.tail ∧ y.id ≠ n.id) := by
  rw [tail_iff h.head h.rise, h.mem_iff, tail_iff h.tree.head h.tree.rise]
  constructor
  · rintro ⟨rfl | ⟨h1, h2⟩, h3⟩
    · exact .inl rfl
    · exact .inr ⟨⟨h1, h3⟩, h2⟩
  · rintro (rfl | ⟨⟨h1, h3⟩, h2⟩)
    · exact ⟨.inl rfl, h.id⟩
    · exact ⟨.inr ⟨h1, h2⟩, h3⟩
/-- Outside what is moved nothing turns. -/
theorem MovOk.apart (h : MovOk t n D s k) {y : Int} (hy : ¬ Ins t n.id y) (j : Nat) : Go.Proofs.YteiekfccfddmjaaDoor.up (parF (movT t n D.id s)) j y = Go.Proofs.YteiekfccfddmjaaDoor.up (parF t) j y := by
  rw [h.par]
  exact upd_out j y fun m _ e => hy ⟨m, e⟩
theorem MovOk.npos (h : MovOk t n D s k) : 1 ≤ n.id := h.tree.pos h.mem
/-- Inside, the way to the moved one is as it was. -/
theorem MovOk.way (h : MovOk t n D s k) {y : Nd} (hy : y ∈ t) {j : Nat} (hj : Go.Proofs.YteiekfccfddmjaaDoor.up (parF t) j y.id = some n.id) : Go.Proofs.YteiekfccfddmjaaDoor.up (parF (movT t n D.id s)) j y.id = some n.id := by
  have hn := h.npos
  obtain ⟨a, ha, hu⟩ := h.tree.depth hy
  obtain ⟨h1, h2⟩ := up_split h.tree.par1 h.tree.par0 hu hj (by omega)
  rw [h.par, upd_out j y.id, hj]
  intro m hm e
  obtain ⟨h3, h4⟩ := up_split h.tree.par1 h.tree.par0 hu e (by omega)
  have := up_uniq h.tree.par1 h.tree.par0 h2 h4
  omega
theorem MovOk.deep (h : MovOk t n D s k) {y : Nd} (hy : y ∈ t) {j : Nat} (hj : Go.Proofs.YteiekfccfddmjaaDoor.up (parF t) j y.id = some n.id) : Go.Proofs.YteiekfccfddmjaaDoor.up (parF (movT t n D.id s)) (j + (k + 1)) y.id = some 1 ∧ j + (k + 1) ≤ 6 := by
  have hn := h.npos
  refine ⟨?_, ?_⟩
  · rw [up_add, h.way hy hj, Option.bind_some, Go.Proofs.YteiekfccfddmjaaDoor.up]
    have e : parF (movT t n D.id s) n.id = some D.id := by rw [h.par, upd_self]
    rw [e, Option.bind_some, h.apart h.out]
    exact h.up
  · obtain ⟨a, ha, hu⟩ := h.tree.depth hy
    obtain ⟨h1, h2⟩ := up_split h.tree.par1 h.tree.par0 hu hj (by omega)
    have hi : insB t n.id y.id = true := (insB_iff h.tree ⟨y, hy, rfl⟩ (by omega)).2 ⟨j, hj⟩
    have hg := (hgt_ge n t 0).2 y hy hi
    rw [(depN_of h.tree hy hu).1, (depN_of h.tree h.mem h2).1] at hg
    have hh := h.high
    unfold hgtN at hh
    omega
theorem MovOk.kids (h : MovOk t n D s k) (e : Int) : kidsN (movT t n D.id s) e = kidsN t e - (if n.par = e then 1 else 0) + (if D.id = e then 1 else 0) := by
  have hlt := (List.getElem?_eq_some_iff.1 h.at).1
  have hn : t[posN t n.id] = n := (List.getElem?_eq_some_iff.1 h.at).2
  unfold kidsN movT
  rw [List.countP_set hlt, hn]
  simp
theorem MovOk.move (h : MovOk t n D s k) : Tree (movT t n D.id s) := by
  have hT := h.tree
  refine ⟨h.head, by rw [movT, List.length_set]; exact hT.len, h.rise, fun y hy => ?_, fun y hy => ?_, fun y hy => ?_, fun y hy => ?_, ?_, fun y hy => ?_⟩
  · rcases h.tail.1 hy with rfl | ⟨hy, _⟩
    · exact h.name
    · exact hT.name y hy
  · rcases h.tail.1 hy with rfl | ⟨hy, _⟩
    · exact hT.size n (hT.tail_of h.mem h.id)
    · exact hT.size y hy
  · rcases h.tail.1 hy with rfl | ⟨hy, _⟩
    · refine ⟨D, ?_, h.dir⟩
      rw [h.getI, if_neg h.ne]
      exact hT.get h.dmem
    · obtain ⟨p, hp, hpd⟩ := hT.dirs y hy
      by_cases e : y.par = n.id
      · refine ⟨_, by rw [h.getI, if_pos e], ?_⟩
        rw [e, hT.get h.mem] at hp
        injection hp with hp
        rw [← hp] at hpd
        exact hpd
      · exact ⟨p, by rw [h.getI, if_neg e]; exact hp, hpd⟩
  · rcases h.mem_iff.1 hy with rfl | ⟨hy, _⟩
    · obtain ⟨h1, h2⟩ := h.deep h.mem (j := 0) rfl
      exact ⟨_, h2, h1⟩
    · by_cases hi : Ins t n.id y.id
      · obtain ⟨j, hj⟩ := hi
        obtain ⟨h1, h2⟩ := h.deep hy hj
        exact ⟨_, h2, h1⟩
      · obtain ⟨m, hm, hu⟩ := hT.deep y hy
        exact ⟨m, hm, by rw [h.apart hi]; exact hu⟩
  · have hno : ∀ y ∈ t, ¬ (y.par = D.id ∧ y.name = s) := kidN_none h.kid
    have hp : 1 ≤ posN t n.id := by
      rcases Nat.eq_zero_or_pos (posN t n.id) with e | e
      · have h1 := h.at
        rw [e, hT.get0] at h1
        injection h1 with h1
        exact absurd (by rw [← h1]; rfl) h.id
      · exact e
    have hg : ∀ i, (movT t n D.id s).tail[i]? = if i + 1 = posN t n.id then some { n with par := D.id, name := s } else t.tail[i]? := fun i => by
      rw [List.getElem?_tail, List.getElem?_tail, h.get?]
    rw [List.pairwise_iff_getElem]
    intro i j hi hj hij
    have gi := hg i
    have gj := hg j
    rw [List.getElem?_eq_getElem hi] at gi
    rw [List.getElem?_eq_getElem hj] at gj
    generalize (movT t n D.id s).tail[i] = u at *
    generalize (movT t n D.id s).tail[j] = v at *
    by_cases ei : i + 1 = posN t n.id
    · rw [if_pos ei] at gi
      rw [if_neg (by omega)] at gj
      injection gi with gi
      subst gi
      exact fun e => hno v (List.mem_of_mem_tail (List.mem_of_getElem? gj.symm)) ⟨e.1.symm, e.2.symm⟩
    · rw [if_neg ei] at gi
      by_cases ej : j + 1 = posN t n.id
      · rw [if_pos ej] at gj
        injection gj with gj
        subst gj
        exact fun e => hno u (List.mem_of_mem_tail (List.mem_of_getElem? gi.symm)) ⟨e.1, e.2⟩
      · rw [if_neg ej] at gj
        obtain ⟨qi, ri⟩ := List.getElem?_eq_some_iff.1 gi.symm
        obtain ⟨qj, rj⟩ := List.getElem?_eq_some_iff.1 gj.symm
        have := List.pairwise_iff_getElem.1 hT.uniq i j qi qj hij
        rw [ri, rj] at this
        exact this
  · rw [h.kids]
    rcases h.tail.1 hy with rfl | ⟨hy, _⟩
    · simp only
      have h1 := hT.kids_le (hT.pos h.dmem)
      by_cases e : n.par = D.id
      · rw [if_pos e]
        have : 0 < kidsN t D.id := List.countP_pos_iff.2 ⟨n, h.mem, by simpa using e⟩
        simp; omega
      · rw [if_neg e]
        have := h.few (fun q => e q.symm)
        simp; omega
    · have h1 := hT.kids y hy
      by_cases e : D.id = y.par
      · by_cases e2 : n.par = y.par
        · have : 0 < kidsN t y.par := List.countP_pos_iff.2 ⟨n, h.mem, by simpa using e2⟩
          rw [if_pos e2, if_pos e]; omega
        · have := h.few (fun q => e2 (by rw [← q, e]))
          rw [if_neg e2, if_pos e, ← e]; omega
      · rw [if_neg e]; omega
end
end Go.Proofs.YteiekfccfddmjaaDoor
