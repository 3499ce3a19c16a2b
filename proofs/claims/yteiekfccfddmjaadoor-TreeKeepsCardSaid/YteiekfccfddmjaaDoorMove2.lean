/- What Rename answers; and back. -/
import Derived.Test.YteiekfccfddmjaaDoorMove1
namespace Go.Proofs.YteiekfccfddmjaaDoor

theorem walk_last {t : List Nd} {n : Nd} {s : List UInt8} : ∀ (q : List (List UInt8)) (x : Nd), walkR t x (q ++ [s]) = (n, 0) → ∃ P, walkR t x q = (P, 0) ∧ P.dir = true ∧ kidN t P.id s = some n
  | [], x, h => by
    simp only [List.nil_append, walkR] at h
    cases hd : x.dir with
    | false => rw [hd] at h; simp at h
    | true =>
      rw [hd] at h
      simp only [if_true] at h
      cases hk : kidN t x.id s with
      | none => rw [hk] at h; simp at h
      | some y =>
        rw [hk] at h
        simp only [Prod.mk.injEq, and_true] at h
        exact ⟨x, rfl, hd, by rw [hk, h]⟩
  | c :: r, x, h => by
    simp only [List.cons_append, walkR] at h ⊢
    cases hd : x.dir with
    | false => rw [hd] at h; simp at h
    | true =>
      rw [hd] at h
      simp only [if_true] at h ⊢
      cases hk : kidN t x.id c with
      | none => rw [hk] at h; simp at h
      | some y =>
        rw [hk] at h
        exact walk_last r y h
theorem renameR_eq {t : List Nd} {a b : List UInt8} {na qb : List (List UInt8)} {sb : List UInt8} {n D : Nd} (hT : Tree t) (ha : splitL a = some na) (hw : walkR t rootN na = (n, 0)) (h1 : n.id ≠ 1) (hb : splitL b = some (qb ++ [sb])) (hq : walkR t rootN qb = (D, 0)) (hd : D.dir = true) :
    renameR t a b = if insB t n.id D.id = true then (([], 1) : List Nd × Int) else match kidN t D.id sb with
      | some o => if o.id = n.id then (t, 0) else ([], 8)
      | none => if D.id ≠ n.par ∧ 12 ≤ kidsN t D.id then ([], 16) else if 6 < qb.length + 1 + hgtN t n then ([], 9) else (movT t n D.id sb, 0) := by
  have he : errOf t a = 0 := by rw [errOf, if_pos hT, ha]; rfl
  have hn : namesOf t a = na := by rw [namesOf, if_pos hT, ha]; rfl
  have hs : spotR t (qb ++ [sb]) = (D, sb, 0) := by
    rw [spotR_last, hq]
    simp [hd]
  rw [renameR, he, hn, hw, hb]
  simp only [Option.isSome_some, Option.getD_some, hs]
  rw [if_neg (by decide), if_neg (by decide), if_neg (by decide), if_neg h1, if_neg (by decide)]
  have hl : (qb ++ [sb]).length = qb.length + 1 := by simp
  rw [hl]
  rfl
theorem renameR_cases (t : List Nd) (a b : List UInt8) : ((renameR t a b).1 = [] ∧ (renameR t a b).2 ≠ 0) ∨ ∃ n D na q s, Tree t ∧ splitL a = some na ∧ walkR t rootN na = (n, 0) ∧ n.id ≠ 1 ∧ splitL b = some (q ++ [s]) ∧ walkR t rootN q = (D, 0) ∧ D.dir = true ∧ n ∈ t ∧ D ∈ t ∧ ¬ Ins t n.id D.id ∧
    ((kidN t D.id s = some n ∧ renameR t a b = (t, 0)) ∨ (MovOk t n D s q.length ∧ renameR t a b = (movT t n D.id s, 0))) := by
  by_cases he : errOf t a = 0
  rotate_left
  · rw [renameR, if_pos he]; exact .inl ⟨rfl, he⟩
  obtain ⟨hT, ha⟩ := errOf_tree he
  have h00 : ¬ errOf t a ≠ 0 := fun h => h he
  cases hb : splitL b with
  | none => rw [renameR, if_neg h00, hb]; exact .inl ⟨rfl, by simp⟩
  | some nb =>
  have hbs : ¬ (splitL b).isSome = false := by rw [hb]; simp
  have hgd : (splitL b).getD [] = nb := by rw [hb]; rfl
  generalize hna : namesOf t a = na at *
  by_cases hw : (walkR t rootN na).2 = 0
  rotate_left
  · rw [renameR, if_neg h00, if_neg hbs, hna, if_pos hw]; exact .inl ⟨rfl, hw⟩
  have hw0 : ¬ (walkR t rootN na).2 ≠ 0 := fun h => h hw
  by_cases h1 : (walkR t rootN na).1.id = 1
  · rw [renameR, if_neg h00, if_neg hbs, hna, if_neg hw0, if_pos h1]; exact .inl ⟨rfl, by simp⟩
  by_cases hs : (spotR t nb).2.2 = 0
  rotate_left
  · rw [renameR, if_neg h00, if_neg hbs, hna, if_neg hw0, if_neg h1, hgd, if_pos hs]; exact .inl ⟨rfl, hs⟩
  obtain ⟨q, hq⟩ := spotR_name hs
  obtain ⟨hDm, hDd⟩ := spotR_mem hT nb hs
  have hs' := hs
  have hS : (spotR t nb).1 = (walkR t rootN q).1 ∧ (walkR t rootN q).2 = 0 := by
    rw [hq, spotR_last] at hs' ⊢
    by_cases h1 : (walkR t rootN q).2 = 0
    · rw [if_pos h1] at hs' ⊢
      by_cases h2 : (walkR t rootN q).1.dir = true
      · rw [if_pos h2]; exact ⟨rfl, h1⟩
      · rw [if_neg h2] at hs'; cases hs'
    · rw [if_neg h1] at hs'; exact absurd hs' h1
  generalize spotR t nb = S at *
  obtain ⟨D, s, es⟩ := S
  simp only at hs hDm hDd hS hq
  have hwq : walkR t rootN q = (D, 0) := by rw [hS.1, ← hS.2]
  have hwn : walkR t rootN na = ((walkR t rootN na).1, 0) := by rw [← hw]
  have hnm := walkR_mem hT na rootN hT.root_mem hw
  generalize (walkR t rootN na).1 = n at *
  have hnp := hT.pos hnm
  rw [hq] at hb
  have heq := renameR_eq hT ha hwn h1 hb hwq hDd
  rw [heq]
  by_cases hi : insB t n.id D.id = true
  · rw [if_pos hi]; exact .inl ⟨rfl, by simp⟩
  rw [if_neg hi] at heq ⊢
  have hout : ¬ Ins t n.id D.id := fun h => hi ((insB_iff hT ⟨D, hDm, rfl⟩ (by omega)).2 h)
  cases hk : kidN t D.id s with
  | some o =>
    rw [hk] at heq
    simp only at heq ⊢
    by_cases ho : o.id = n.id
    · rw [if_pos ho] at heq ⊢
      have : o = n := rise_inj hT.rise (kidN_mem hk).1 hnm ho
      exact .inr ⟨n, D, na, q, s, hT, ha, hwn, h1, (by rw [hq]), hwq, hDd, hnm, hDm, hout, .inl ⟨by rw [hk, this], rfl⟩⟩
    · rw [if_neg ho]; exact .inl ⟨rfl, by simp⟩
  | none =>
    rw [hk] at heq
    simp only at heq ⊢
    by_cases h12 : D.id ≠ n.par ∧ 12 ≤ kidsN t D.id
    · rw [if_pos h12]; exact .inl ⟨rfl, by simp⟩
    rw [if_neg h12] at heq ⊢
    by_cases h6 : 6 < q.length + 1 + hgtN t n
    · rw [if_pos h6]; exact .inl ⟨rfl, by simp⟩
    rw [if_neg h6] at heq ⊢
    refine .inr ⟨n, D, na, q, s, hT, ha, hwn, h1, (by rw [hq]), hwq, hDd, hnm, hDm, hout, .inr ⟨⟨hT, hnm, h1, hDm, hDd, hout, hk, fun e => ?_, ?_, ?_, by omega⟩, rfl⟩⟩
    · have : ¬ 12 ≤ kidsN t D.id := fun g => h12 ⟨e, g⟩
      omega
    · exact splitL_names hb s (by simp)
    · have := walk_up hT q rootN hT.root_mem (by rw [hwq])
      rw [hwq] at this
      exact this
section
variable {t : List Nd} {n D : Nd} {s : List UInt8} {k : Nat}
theorem MovOk.walk (h : MovOk t n D s k) {z : Nd} (hz : ¬ Ins t n.id z.id) : ∀ (names : List (List UInt8)) (y : Nd), y ∈ t → y.id ≠ n.id → walkR t y names = (z, 0) → walkR (movT t n D.id s) y names = (z, 0)
  | [], y, _, _, e => e
  | c :: r, y, hy, hne, e => by
    simp only [walkR] at e ⊢
    cases hd : y.dir with
    | false => rw [hd] at e; simp at e
    | true =>
      rw [hd] at e
      simp only [if_true] at e ⊢
      cases hk : kidN t y.id c with
      | none => rw [hk] at e; simp at e
      | some u =>
        rw [hk] at e
        simp only at e
        obtain ⟨h1, h2, h3⟩ := kidN_mem hk
        have hu : u.id ≠ n.id := fun q => by
          have := walk_up h.tree r u h1 (by rw [e])
          rw [e, q] at this
          exact hz ⟨_, this⟩
        rw [(h.move.kid_iff (h.tree.pos hy)).2 ⟨h.mem_iff.2 (.inr ⟨h1, hu⟩), h2, h3⟩]
        exact h.walk hz r u h1 hu e
theorem MovOk.found (h : MovOk t n D s k) {q : List (List UInt8)} (hq : walkR t rootN q = (D, 0)) : walkR (movT t n D.id s) rootN (q ++ [s]) = ({ n with par := D.id, name := s }, 0) := by
  have h1 := h.walk h.out q rootN h.tree.root_mem (fun e => h.id e.symm) hq
  rw [walkR_app _ _ _ _ (by rw [h1]), h1]
  simp only [walkR, h.dir, if_true]
  rw [(h.move.kid_iff (h.tree.pos h.dmem)).2 ⟨h.mem_iff.2 (.inl rfl), rfl, rfl⟩]
theorem not_above {t : List Nd} (hT : Tree t) {n P : Nd} (hn : n ∈ t) (hp : n.par = P.id) : ¬ Ins t n.id P.id := by
  rintro ⟨j, hj⟩
  have hn1 := hT.pos hn
  obtain ⟨a, ha, hu⟩ := hT.depth hn
  have h1 : up (parF t) (j + 1) n.id = some n.id := by rw [up, hT.parF_of hn, Option.bind_some, hp]; exact hj
  obtain ⟨h2, h3⟩ := up_split hT.par1 hT.par0 hu h1 (by omega)
  have := up_uniq hT.par1 hT.par0 hu h3
  omega
/-- Renamed back: as it was. -/
theorem MovOk.back (h : MovOk t n D s k) {a b : List UInt8} {na q : List (List UInt8)} (ha : splitL a = some na) (hw : walkR t rootN na = (n, 0)) (hb : splitL b = some (q ++ [s])) (hq : walkR t rootN q = (D, 0)) : renameR (movT t n D.id s) b a = (t, 0) := by
  have hT := h.tree
  have hne : na ≠ [] := fun e => by rw [e] at hw; simp only [walkR, Prod.mk.injEq, and_true] at hw; exact h.id (by rw [← hw]; rfl)
  obtain ⟨q1, s1, rfl⟩ : ∃ q1 s1, na = q1 ++ [s1] := by
    rcases List.eq_nil_or_concat na with e | ⟨q1, s1, e⟩
    · exact absurd e hne
    · exact ⟨q1, s1, by rw [e, List.concat_eq_append]⟩
  obtain ⟨P, hP, hPd, hPk⟩ := walk_last q1 rootN hw
  obtain ⟨_, hnp, hnn⟩ := kidN_mem hPk
  have hPm : P ∈ t := by
    have := walkR_mem hT q1 rootN hT.root_mem (by rw [hP])
    rwa [hP] at this
  have hP1 := hT.pos hPm
  have hPo := not_above hT h.mem hnp
  have hPw := h.walk hPo q1 rootN hT.root_mem (fun e => h.id e.symm) hP
  have hn1 := h.npos
  have hPne : P.id ≠ n.id := fun e => hPo ⟨0, by simp [Go.Proofs.YteiekfccfddmjaaDoor.up, e]⟩
  have hPma : P ∈ movT t n D.id s := h.mem_iff.2 (.inr ⟨hPm, hPne⟩)
  have hfnd := h.found hq
  have hdn : Go.Proofs.YteiekfccfddmjaaDoor.up (parF t) (q1.length + 1) n.id = some 1 := by
    have := walk_up hT (q1 ++ [s1]) rootN hT.root_mem (by rw [hw])
    rw [hw] at this
    simpa [rootN] using this
  rw [renameR_eq h.move hb hfnd h.id ha hPw hPd]
  have hi : ¬ insB (movT t n D.id s) n.id P.id = true := fun e => by
    obtain ⟨j, hj⟩ := (insB_iff h.move ⟨P, hPma, rfl⟩ (by omega)).1 e
    rw [h.apart hPo] at hj
    exact hPo ⟨j, hj⟩
  have hk : kidN (movT t n D.id s) P.id s1 = none := kidN_none_of fun u hu e => by
    rcases h.mem_iff.1 hu with rfl | ⟨hu, hun⟩
    · exact kidN_none h.kid n h.mem ⟨by rw [hnp]; exact e.1.symm, by rw [hnn]; exact e.2.symm⟩
    · have := (hT.kid_iff hP1).2 ⟨hu, e.1, e.2⟩
      rw [hPk] at this
      injection this with this
      exact hun (by rw [this])
  have h12 : ¬ (P.id ≠ D.id ∧ 12 ≤ kidsN (movT t n D.id s) P.id) := fun ⟨e1, e2⟩ => by
    rw [h.kids, if_pos hnp, if_neg (fun q => e1 q.symm)] at e2
    have := hT.kids_le hP1
    omega
  have h6 : ¬ 6 < q1.length + 1 + hgtN (movT t n D.id s) { n with par := D.id, name := s } := by
    obtain ⟨a0, ha0, hu0⟩ := hT.depth h.mem
    have hd0 := up_uniq hT.par1 hT.par0 hdn hu0
    have hself := h.deep h.mem (j := 0) rfl
    have hdm : depN (movT t n D.id s) { n with par := D.id, name := s } = 0 + (k + 1) := (depN_of h.move (h.mem_iff.2 (.inl rfl)) hself.1).1
    have := hgt_le (t := movT t n D.id s) { n with par := D.id, name := s } (b := 6 - (q1.length + 1)) (movT t n D.id s) 0 (by omega) (fun x hx hin => by
      rcases h.mem_iff.1 hx with rfl | ⟨hxt, hxn⟩
      · omega
      · have hit : Ins t n.id x.id := by
          apply Classical.byContradiction
          intro hno
          obtain ⟨j, hj⟩ := (insB_iff h.move ⟨x, hx, rfl⟩ (by simp only; omega)).1 hin
          rw [h.apart hno] at hj
          exact hno ⟨j, hj⟩
        obtain ⟨j, hj⟩ := hit
        have hdx := (depN_of h.move hx (h.deep hxt hj).1).1
        obtain ⟨ax, hax, hux⟩ := hT.depth hxt
        obtain ⟨g1, g2⟩ := up_split hT.par1 hT.par0 hux hj (by omega)
        have := up_uniq hT.par1 hT.par0 hdn g2
        omega)
    unfold hgtN
    omega
  rw [if_neg hi, hk]
  simp only
  rw [if_neg h12, if_neg h6]
  have hpos : posN (movT t n D.id s) n.id = posN t n.id := by
    have := posN_of h.rise (k := posN t n.id) (x := { n with par := D.id, name := s }) (by rw [h.get?, if_pos rfl])
    exact this
  have hlast : movT (movT t n D.id s) { n with par := D.id, name := s } P.id s1 = t := by
    rw [movT, hpos]
    apply List.ext_getElem?
    intro i
    have hlt := (List.getElem?_eq_some_iff.1 h.at).1
    by_cases e : i = posN t n.id
    · subst e
      rw [List.getElem?_set_self (by rw [movT, List.length_set]; exact hlt), h.at]
      obtain ⟨n0, n1, n2, n3, n4⟩ := n
      simp only at hnp hnn
      rw [hnp, hnn]
    · rw [List.getElem?_set_ne (fun q => e q.symm), h.get?, if_neg e]
  rw [hlast]
theorem same_back {a b : List UInt8} {na q : List (List UInt8)} (hT : Tree t) (ha : splitL a = some na) (hw : walkR t rootN na = (n, 0)) (h1 : n.id ≠ 1) (hn : n ∈ t) (hb : splitL b = some (q ++ [s])) (hq : walkR t rootN q = (D, 0)) (hd : D.dir = true) (hk : kidN t D.id s = some n) : renameR t b a = (t, 0) := by
  have hwb : walkR t rootN (q ++ [s]) = (n, 0) := by
    rw [walkR_app _ _ _ _ (by rw [hq]), hq]
    simp only [walkR, hd, if_true, hk]
  have hne : na ≠ [] := fun e => by rw [e] at hw; simp only [walkR, Prod.mk.injEq, and_true] at hw; exact h1 (by rw [← hw]; rfl)
  obtain ⟨q1, s1, rfl⟩ : ∃ q1 s1, na = q1 ++ [s1] := by
    rcases List.eq_nil_or_concat na with e | ⟨q1, s1, e⟩
    · exact absurd e hne
    · exact ⟨q1, s1, by rw [e, List.concat_eq_append]⟩
  obtain ⟨P, hP, hPd, hPk⟩ := walk_last q1 rootN hw
  obtain ⟨_, hnp, hnn⟩ := kidN_mem hPk
  have hPm : P ∈ t := by
    have := walkR_mem hT q1 rootN hT.root_mem (by rw [hP])
    rwa [hP] at this
  have hPo := not_above hT hn hnp
  have hn1 := hT.pos hn
  rw [renameR_eq hT hb hwb h1 ha hP hPd, if_neg (fun e => hPo ((insB_iff hT ⟨P, hPm, rfl⟩ (by omega)).1 e)), hPk]
  simp
end
end Go.Proofs.YteiekfccfddmjaaDoor
