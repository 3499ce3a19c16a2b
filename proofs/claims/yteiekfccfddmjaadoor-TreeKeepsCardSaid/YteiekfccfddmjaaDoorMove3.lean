/- The document's Rename in plain words: out of its place and into it again, and how deep all lies then. -/
import Derived.Test.YteiekfccfddmjaaDoorMove2
namespace Go.Proofs.YteiekfccfddmjaaDoor

/-- What is moved where, whatever its height. -/
structure MovPre (t : List Nd) (n D : Nd) (s : List UInt8) (k : Nat) : Prop where
  tree : Tree t
  mem : n ∈ t
  id : n.id ≠ 1
  dmem : D ∈ t
  out : ¬ Ins t n.id D.id
  up : up (parF t) k D.id = some 1
section
variable {t : List Nd} {n D : Nd} {s : List UInt8} {k : Nat}
theorem MovPre.at (h : MovPre t n D s k) : t[posN t n.id]? = some n := getI_pos h.tree.rise (h.tree.get h.mem)
theorem MovPre.get? (h : MovPre t n D s k) (i : Nat) : (movT t n D.id s)[i]? = if i = posN t n.id then some { n with par := D.id, name := s } else t[i]? := by
  have hlt := (List.getElem?_eq_some_iff.1 h.at).1
  unfold movT
  by_cases hi : i = posN t n.id
  · rw [if_pos hi, hi, List.getElem?_set_self hlt]
  · rw [if_neg hi, List.getElem?_set_ne (fun e => hi e.symm)]
theorem MovPre.mem_iff (h : MovPre t n D s k) {y : Nd} : y ∈ movT t n D.id s ↔ y = { n with par := D.id, name := s } ∨ (y ∈ t ∧ y.id ≠ n.id) := by
  constructor
  · intro hy
    obtain ⟨i, hi⟩ := List.mem_iff_getElem?.1 hy
    rw [h.get?] at hi
    by_cases e : i = posN t n.id
    · rw [if_pos e] at hi
      injection hi with hi
      exact .inl hi.symm
    · rw [if_neg e] at hi
      refine .inr ⟨List.mem_of_getElem? hi, fun q => e ?_⟩
      rw [← posN_of h.tree.rise hi, q]
  · rintro (rfl | ⟨hy, hne⟩)
    · exact List.mem_iff_getElem?.2 ⟨posN t n.id, by rw [h.get?, if_pos rfl]⟩
    · obtain ⟨i, hi⟩ := List.mem_iff_getElem?.1 hy
      refine List.mem_iff_getElem?.2 ⟨i, ?_⟩
      rw [h.get?, if_neg, hi]
      intro e
      rw [e, h.at] at hi
      injection hi with hi
      exact hne (by rw [hi])
theorem MovPre.ids (h : MovPre t n D s k) : (movT t n D.id s).map Nd.id = t.map Nd.id := by
  apply List.ext_getElem?
  intro i
  rw [List.getElem?_map, List.getElem?_map, h.get?]
  by_cases e : i = posN t n.id
  · rw [if_pos e, e, h.at]; rfl
  · rw [if_neg e]
theorem MovPre.rise (h : MovPre t n D s k) : (movT t n D.id s).Pairwise (fun a b => a.id < b.id) := by
  have h1 := List.pairwise_map (f := Nd.id) (R := fun a b => a < b) (l := t) |>.2 h.tree.rise
  rw [← h.ids] at h1
  exact List.pairwise_map.1 h1
theorem MovPre.ne (h : MovPre t n D s k) : D.id ≠ n.id := fun e => h.out ⟨0, by simp [Go.Proofs.YteiekfccfddmjaaDoor.up, e]⟩
theorem MovPre.getI (h : MovPre t n D s k) (i : Int) : getI (movT t n D.id s) i = if i = n.id then some { n with par := D.id, name := s } else getI t i := by
  by_cases e : i = n.id
  · rw [if_pos e]
    exact (getI_iff h.rise).2 ⟨h.mem_iff.2 (.inl rfl), e.symm⟩
  · rw [if_neg e]
    cases hg : Go.Proofs.YteiekfccfddmjaaDoor.getI t i with
    | none =>
      refine getI_none_of fun y hy => ?_
      rcases h.mem_iff.1 hy with rfl | ⟨hy, _⟩
      · exact fun q => e q.symm
      · exact getI_none hg y hy
    | some y =>
      obtain ⟨h1, h2⟩ := getI_mem hg
      exact (getI_iff h.rise).2 ⟨h.mem_iff.2 (.inr ⟨h1, by rw [h2]; exact e⟩), h2⟩
theorem MovPre.par (h : MovPre t n D s k) : parF (movT t n D.id s) = upd (parF t) n.id D.id := by
  funext i
  rw [parF, h.getI, upd]
  by_cases e : i = n.id
  · rw [if_pos e, if_pos e]; rfl
  · rw [if_neg e, if_neg e]; rfl
theorem MovPre.head (h : MovPre t n D s k) : (movT t n D.id s).head? = some rootN := by
  rw [List.head?_eq_getElem?, h.get?, if_neg, h.tree.get0]
  intro e
  have h1 := h.at
  rw [← e, h.tree.get0] at h1
  injection h1 with h1
  exact h.id (by rw [← h1]; rfl)
theorem MovPre.tail (h : MovPre t n D s k) {y : Nd} : y ∈ (movT t n D.id s).tail ↔ y = { n with par := D.id, name := s } ∨ (y ∈ t.tail ∧ y.id ≠ n.id) := by
  rw [tail_iff h.head h.rise, h.mem_iff, tail_iff h.tree.head h.tree.rise]
  constructor
  · rintro ⟨rfl | ⟨h1, h2⟩, h3⟩
    · exact .inl rfl
    · exact .inr ⟨⟨h1, h3⟩, h2⟩
  · rintro (rfl | ⟨⟨h1, h3⟩, h2⟩)
    · exact ⟨.inl rfl, h.id⟩
    · exact ⟨.inr ⟨h1, h2⟩, h3⟩
/-- Outside what is moved nothing turns. -/
theorem MovPre.apart (h : MovPre t n D s k) {y : Int} (hy : ¬ Ins t n.id y) (j : Nat) : Go.Proofs.YteiekfccfddmjaaDoor.up (parF (movT t n D.id s)) j y = Go.Proofs.YteiekfccfddmjaaDoor.up (parF t) j y := by
  rw [h.par]
  exact upd_out j y fun m _ e => hy ⟨m, e⟩
theorem MovPre.npos (h : MovPre t n D s k) : 1 ≤ n.id := h.tree.pos h.mem
/-- Inside, the way to the moved one is as it was. -/
theorem MovPre.way (h : MovPre t n D s k) {y : Nd} (hy : y ∈ t) {j : Nat} (hj : Go.Proofs.YteiekfccfddmjaaDoor.up (parF t) j y.id = some n.id) : Go.Proofs.YteiekfccfddmjaaDoor.up (parF (movT t n D.id s)) j y.id = some n.id := by
  have hn := h.npos
  obtain ⟨a, ha, hu⟩ := h.tree.depth hy
  obtain ⟨h1, h2⟩ := up_split h.tree.par1 h.tree.par0 hu hj (by omega)
  rw [h.par, upd_out j y.id, hj]
  intro m hm e
  obtain ⟨h3, h4⟩ := up_split h.tree.par1 h.tree.par0 hu e (by omega)
  have := up_uniq h.tree.par1 h.tree.par0 h2 h4
  omega
theorem MovPre.deep (h : MovPre t n D s k) {y : Nd} (hy : y ∈ t) {j : Nat} (hj : Go.Proofs.YteiekfccfddmjaaDoor.up (parF t) j y.id = some n.id) : Go.Proofs.YteiekfccfddmjaaDoor.up (parF (movT t n D.id s)) (j + (k + 1)) y.id = some 1 := by
  rw [up_add, h.way hy hj, Option.bind_some, Go.Proofs.YteiekfccfddmjaaDoor.up]
  have e : parF (movT t n D.id s) n.id = some D.id := by rw [h.par, upd_self]
  rw [e, Option.bind_some, h.apart h.out]
  exact h.up
theorem dpR_lift {o : List Nd} (hg : ∀ x ∈ o, getI o x.id = some x) (h1 : parF o 1 = some 0) (h0 : parF o 0 = none) : ∀ (f : Nat) (x : Nd) (k : Nat), x ∈ o → Go.Proofs.YteiekfccfddmjaaDoor.up (parF o) k x.id = some 1 → dpR o f x = if k ≤ f then some k else none
  | 0, x, k, hx, hk => by
    by_cases e : x.id = 1
    · have := up_uniq h1 h0 hk (b := 0) (by rw [e]; rfl)
      subst this
      simp [dpR, e]
    · have : k ≠ 0 := fun q => by subst q; simp [Go.Proofs.YteiekfccfddmjaaDoor.up] at hk; exact e hk
      simp [dpR, e, this]
  | f + 1, x, k, hx, hk => by
    by_cases e : x.id = 1
    · have := up_uniq h1 h0 hk (b := 0) (by rw [e]; rfl)
      subst this
      simp [dpR, e]
    · cases k with
      | zero => simp [Go.Proofs.YteiekfccfddmjaaDoor.up] at hk; exact absurd hk e
      | succ k' =>
        have hp : parF o x.id = some x.par := by rw [parF, hg x hx]; rfl
        have hk' : Go.Proofs.YteiekfccfddmjaaDoor.up (parF o) k' x.par = some 1 := by rw [Go.Proofs.YteiekfccfddmjaaDoor.up, hp] at hk; simpa using hk
        obtain ⟨p, hpp⟩ : ∃ p, getI o x.par = some p := by
          cases hq : getI o x.par with
          | some p => exact ⟨p, rfl⟩
          | none =>
            have hn : parF o x.par = none := by rw [parF, hq]; rfl
            cases k' with
            | zero =>
              simp [Go.Proofs.YteiekfccfddmjaaDoor.up] at hk'
              rw [hk', h1] at hn
              cases hn
            | succ m => simp [Go.Proofs.YteiekfccfddmjaaDoor.up, hn] at hk'
        obtain ⟨hpm, hpi⟩ := getI_mem hpp
        have ih := dpR_lift hg h1 h0 f p k' hpm (by rw [hpi]; exact hk')
        simp only [dpR, e, if_false, hpp, ih]
        by_cases hf : k' ≤ f
        · rw [if_pos hf, if_pos (by omega)]; rfl
        · rw [if_neg hf, if_neg (by omega)]; rfl
theorem MovPre.dp (h : MovPre t n D s k) {x : Nd} (hx : x ∈ movT t n D.id s) {a : Nat} (ha : Go.Proofs.YteiekfccfddmjaaDoor.up (parF (movT t n D.id s)) a x.id = some 1) : (dpR (movT t n D.id s) 7 x).getD 99 ≤ 6 ↔ a ≤ 6 := by
  have hn1 : n.id ≠ 1 := h.id
  have hn0 : n.id ≠ 0 := by have := h.npos; omega
  have e := dpR_lift (fun x hx => getI_of h.rise hx) (by rw [h.par, upd_other (fun q => hn1 q.symm)]; exact h.tree.par1) (by rw [h.par, upd_other (fun q => hn0 q.symm)]; exact h.tree.par0) 7 x a hx ha
  rw [e]
  by_cases h7 : a ≤ 7
  · rw [if_pos h7]; simp
  · rw [if_neg h7]; simp; omega
theorem MovPre.high (h : MovPre t n D s k) : (∀ x ∈ movT t n D.id s, (dpR (movT t n D.id s) 7 x).getD 99 ≤ 6) ↔ k + 1 + hgtN t n ≤ 6 := by
  have hn := h.npos
  constructor
  · intro hall
    have h0 := h.deep h.mem (j := 0) rfl
    have hk := (h.dp (h.mem_iff.2 (.inl rfl)) (x := { n with par := D.id, name := s }) h0).1 (hall _ (h.mem_iff.2 (.inl rfl)))
    have := hgt_le (t := t) n (b := 6 - (k + 1)) t 0 (by omega) (fun y hy hi => by
      obtain ⟨j, hj⟩ := (insB_iff h.tree ⟨y, hy, rfl⟩ (by omega)).1 hi
      obtain ⟨a, ha, hu⟩ := h.tree.depth hy
      obtain ⟨g1, g2⟩ := up_split h.tree.par1 h.tree.par0 hu hj (by omega)
      have hd := h.deep hy hj
      have hle : j + (k + 1) ≤ 6 := by
        by_cases e : y.id = n.id
        · have : y = n := rise_inj h.tree.rise hy h.mem e
          subst this
          have hz := up_uniq h.tree.par1 h.tree.par0 hu g2
          omega
        · exact (h.dp (h.mem_iff.2 (.inr ⟨hy, e⟩)) hd).1 (hall _ (h.mem_iff.2 (.inr ⟨hy, e⟩)))
      rw [(depN_of h.tree hy hu).1, (depN_of h.tree h.mem g2).1]
      omega)
    unfold hgtN
    omega
  · intro hh x hx
    rcases h.mem_iff.1 hx with rfl | ⟨hxt, hxn⟩
    · exact (h.dp hx (h.deep h.mem (j := 0) rfl)).2 (by omega)
    · by_cases hi : Ins t n.id x.id
      · obtain ⟨j, hj⟩ := hi
        obtain ⟨a, ha, hu⟩ := h.tree.depth hxt
        obtain ⟨g1, g2⟩ := up_split h.tree.par1 h.tree.par0 hu hj (by omega)
        have hin : insB t n.id x.id = true := (insB_iff h.tree ⟨x, hxt, rfl⟩ (by omega)).2 ⟨j, hj⟩
        have hg := (hgt_ge n t 0).2 x hxt hin
        rw [(depN_of h.tree hxt hu).1, (depN_of h.tree h.mem g2).1] at hg
        refine (h.dp hx (h.deep hxt hj)).2 ?_
        unfold hgtN at hh
        omega
      · obtain ⟨a, ha, hu⟩ := h.tree.depth hxt
        exact (h.dp hx (by rw [h.apart hi]; exact hu)).2 ha
/-- Out of its place, and into it again. -/
theorem out_in {p : Nat} (hr : t.Pairwise (fun a b => a.id < b.id)) (hp : t[p]? = some n) (d : Int) :
    (t.take p ++ t.drop (p + 1)).take (posN (t.take p ++ t.drop (p + 1)) n.id) ++ { n with par := d, name := s } :: (t.take p ++ t.drop (p + 1)).drop (posN (t.take p ++ t.drop (p + 1)) n.id) = movT t n d s := by
  have hlt := (List.getElem?_eq_some_iff.1 hp).1
  have hx : t[p] = n := (List.getElem?_eq_some_iff.1 hp).2
  have hpos := posN_of hr hp
  have hsp : t = t.take p ++ n :: t.drop (p + 1) := by
    conv => lhs; rw [← List.take_append_drop p t, List.drop_eq_getElem_cons hlt, hx]
  have hc : posN (t.take p ++ t.drop (p + 1)) n.id = p := by
    have e : posN t n.id = posN (t.take p ++ n :: t.drop (p + 1)) n.id := by rw [← hsp]
    unfold posN at e ⊢
    rw [List.countP_append, List.countP_cons] at e
    rw [List.countP_append]
    simp at e
    unfold posN at hpos
    omega
  have hl : (t.take p).length = p := by rw [List.length_take]; omega
  rw [hc, List.take_left' hl, List.drop_left' hl, movT, hpos, List.set_eq_take_append_cons_drop, if_pos hlt]
end
end Go.Proofs.YteiekfccfddmjaaDoor
