/- The document's plan of a commit: plain facts. -/
import Derived.Test.YthpjkhmkjhgbkaaGreatDoorPs5
namespace Go.Proofs.YthpjkhmkjhgbkaaGreatDoor
open Go.RowKit Go.Maps

/-- What the plan knows on its way. -/
structure PlanS where
  now : List Rw
  used : List Bool
  texts : List (List UInt8)
  turned : List Bool
def plan0 (N : Nat) (M : List Rw) : PlanS := ⟨M, tkL N M, List.replicate N [], List.replicate N false⟩
def pdel (st : PlanS) (c : Ch) : PlanS := if c.gone then match findR st.now c.key with
  | none => st
  | some r => ⟨delR st.now c.key, st.used.set r.at_ false, st.texts.set r.at_ [], st.turned.set r.at_ true⟩ else st
def firstF (u : List Bool) : Nat := (u.takeWhile id).length
def pput (st : PlanS) (c : Ch) : Option PlanS := if c.gone then some st else match findR st.now c.key with
  | some r => if r.val = c.val then some st else some ⟨putR st.now ⟨c.key, c.val, r.at_⟩, st.used, st.texts.set r.at_ (padD c.key c.val), st.turned.set r.at_ true⟩
  | none => if firstF st.used = st.used.length then none else
    some ⟨insR ⟨c.key, c.val, firstF st.used⟩ st.now, st.used.set (firstF st.used) true, st.texts.set (firstF st.used) (padD c.key c.val), st.turned.set (firstF st.used) true⟩
def pputs : PlanS → List Ch → Option PlanS
  | st, [] => some st
  | st, c :: r => match pput st c with
    | none => none
    | some st' => pputs st' r
def blkUp (st : PlanS) (k : Nat) : List Bk := ((List.range k).filter fun i => st.turned.getD i false).map fun i : Nat => ⟨(i : Int), st.texts.getD i []⟩
def planL (N : Nat) (M : List Rw) (l : List Ch) : Option (List Rw × List Bk) := match pputs (l.foldl pdel (plan0 N M)) l with
  | none => none
  | some st => some (st.now, blkUp st N)

theorem pputs_snoc : ∀ (l : List Ch) (st : PlanS) (c : Ch), pputs st (l ++ [c]) = match pputs st l with
    | none => none
    | some st' => pput st' c
  | [], st, c => by
    simp only [List.nil_append, pputs]
    cases pput st c <;> rfl
  | x :: r, st, c => by
    simp only [List.cons_append, pputs]
    cases pput st x with
    | none => rfl
    | some st' => exact pputs_snoc r st' c
theorem pputs_take (l : List Ch) (st : PlanS) (k : Nat) (h : k < l.length) : pputs st (l.take (k + 1)) = match pputs st (l.take k) with
    | none => none
    | some st' => pput st' l[k] := by
  rw [List.take_add_one, List.getElem?_eq_getElem h]
  exact pputs_snoc _ _ _
theorem pputs_none : ∀ (l : List Ch) (st : PlanS) (k : Nat), pputs st (l.take k) = none → pputs st l = none
  | [], st, k, h => by simpa using h
  | x :: r, st, 0, h => by simp [pputs] at h
  | x :: r, st, k + 1, h => by
    simp only [List.take_succ_cons, pputs] at h ⊢
    cases hp : pput st x with
    | none => rfl
    | some st' =>
      rw [hp] at h
      exact pputs_none r st' k h
theorem blkUp_succ (st : PlanS) (k : Nat) : blkUp st (k + 1) = if st.turned.getD k false then blkUp st k ++ [⟨(k : Int), st.texts.getD k []⟩] else blkUp st k := by
  unfold blkUp
  rw [List.range_succ, List.filter_append, List.map_append]
  cases hb : st.turned.getD k false with
  | false => rw [show [k].filter (fun i => st.turned.getD i false) = [] from List.filter_cons_of_neg (p := fun i => st.turned.getD i false) (by simp only [hb]; decide)]; simp
  | true => rw [show [k].filter (fun i => st.turned.getD i false) = [k] from List.filter_cons_of_pos (p := fun i => st.turned.getD i false) hb]; simp

/-- What always holds of it. -/
structure PGood (N B : Nat) (st : PlanS) : Prop where
  sorted : Sorted st.now
  at_lt : ∀ r ∈ st.now, r.at_ < N
  len : st.now.length ≤ B
  lenU : st.used.length = N
  lenT : st.texts.length = N
  lenV : st.turned.length = N
  small : ∀ d ∈ st.texts, d.length ≤ 248
theorem plan0_good {N : Nat} {M : List Rw} (hs : Sorted M) (ha : ∀ r ∈ M, r.at_ < N) : PGood N M.length (plan0 N M) :=
  ⟨hs, ha, Nat.le_refl _, by simp [plan0, tkL], by simp [plan0], by simp [plan0], by
    intro d hd
    have : d = [] := List.eq_of_mem_replicate hd
    rw [this]
    simp⟩
theorem mem_set_cases {α : Type} {l : List α} {i : Nat} {a x : α} (h : x ∈ l.set i a) : x ∈ l ∨ x = a := List.mem_or_eq_of_mem_set h
theorem pdel_good {N B : Nat} {st : PlanS} (h : PGood N B st) (c : Ch) : PGood N B (pdel st c) := by
  unfold pdel
  split
  · split
    · exact h
    · refine ⟨sorted_delR h.sorted _, fun r hr => h.at_lt r (mem_delR.1 hr).1, Nat.le_trans (List.length_filter_le _ _) h.len, by simp [h.lenU], by simp [h.lenT], by simp [h.lenV], fun d hd => ?_⟩
      rcases mem_set_cases hd with hd | rfl
      · exact h.small d hd
      · simp
  · exact h
theorem firstF_le (u : List Bool) : firstF u ≤ u.length := (List.takeWhile_sublist id).length_le
theorem firstF_is : ∀ (u : List Bool) (a : Nat), (∀ j, j < a → u[j]? = some true) → (u[a]? = some false ∨ a = u.length) → firstF u = a
  | [], a, h1, h2 => by
    rcases h2 with h2 | h2
    · simp at h2
    · rw [h2]; rfl
  | b :: r, 0, h1, h2 => by
    rcases h2 with h2 | h2
    · simp at h2
      subst h2
      rfl
    · simp at h2
  | b :: r, a + 1, h1, h2 => by
    have hb := h1 0 (by omega)
    simp at hb
    subst hb
    have ih := firstF_is r a (fun j hj => by have := h1 (j + 1) (by omega); simpa using this) (by simpa using h2)
    unfold firstF at ih ⊢
    simp [ih]
theorem pput_good {N B : Nat} {st st' : PlanS} (h : PGood N B st) {c : Ch} (hk : c.key.length ≤ 16) (hv : c.val.length ≤ 200) (hp : pput st c = some st') : PGood N (B + 1) st' := by
  have hpl : (padD c.key c.val).length ≤ 248 := by rw [padD_length hk hv]; omega
  unfold pput at hp
  split at hp
  · injection hp with hp; subst hp
    exact ⟨h.sorted, h.at_lt, by have := h.len; omega, h.lenU, h.lenT, h.lenV, h.small⟩
  · split at hp
    · rename_i r hf
      split at hp
      · injection hp with hp; subst hp
        exact ⟨h.sorted, h.at_lt, by have := h.len; omega, h.lenU, h.lenT, h.lenV, h.small⟩
      · injection hp with hp; subst hp
        refine ⟨sorted_putR h.sorted _, fun x hx => ?_, ?_, h.lenU, by simp [h.lenT], by simp [h.lenV], fun d hd => ?_⟩
        · rcases mem_putR.1 hx with rfl | hx
          · exact h.at_lt r (findR_mem hf).1
          · exact h.at_lt x hx.1
        · have h1 := putR_old h.sorted (x := ⟨c.key, c.val, r.at_⟩) hf
          have h2 := h.len
          show (putR st.now ⟨c.key, c.val, r.at_⟩).length ≤ B + 1
          omega
        · rcases mem_set_cases hd with hd | rfl
          · exact h.small d hd
          · exact hpl
    · rename_i hf
      split at hp
      · cases hp
      · rename_i hne
        have hfl := firstF_le st.used
        have hu := h.lenU
        injection hp with hp; subst hp
        refine ⟨sorted_insR h.sorted (findR_none.1 hf), fun x hx => ?_, ?_, by simp [hu], by simp [h.lenT], by simp [h.lenV], fun d hd => ?_⟩
        · rcases mem_insR.1 hx with rfl | hx
          · show firstF st.used < N
            omega
          · exact h.at_lt x hx
        · rw [insR_length]; have := h.len; omega
        · rcases mem_set_cases hd with hd | rfl
          · exact h.small d hd
          · exact hpl

/-! What it comes to. -/
theorem find_delF {M : List Rw} {c : Ch} {k : List UInt8} (h : c.gone = true → c.key ≠ k) : findR (delF M c) k = findR M k := by
  unfold delF
  split
  · rename_i hg
    have hne := h hg
    unfold findR delR
    induction M with
    | nil => rfl
    | cons y r ih =>
      by_cases hy : y.key = c.key
      · rw [List.filter_cons_of_neg (by simp [hy]), List.find?_cons_of_neg (by simp [hy]; exact hne), ih]
      · rw [List.filter_cons_of_pos (by simp [hy])]
        by_cases hyk : y.key = k
        · rw [List.find?_cons_of_pos (by simp [hyk]), List.find?_cons_of_pos (by simp [hyk])]
        · rw [List.find?_cons_of_neg (by simp [hyk]), List.find?_cons_of_neg (by simp [hyk]), ih]
  · rfl
theorem find_dels : ∀ (l : List Ch) (M : List Rw) (k : List UInt8), (∀ c ∈ l, c.key ≠ k) → findR (l.foldl delF M) k = findR M k
  | [], _, _, _ => rfl
  | c :: r, M, k, h => by
    rw [List.foldl_cons, find_dels r _ k (fun x hx => h x (by simp [hx])), find_delF (fun _ => h c (by simp))]
theorem find_insR (x : Rw) (k : List UInt8) (h : x.key ≠ k) : ∀ M : List Rw, findR (insR x M) k = findR M k
  | [] => by simp [insR, findR, h]
  | y :: r => by
    unfold insR
    split
    · unfold findR
      rw [List.find?_cons_of_neg (by simp [h])]
    · have ih := find_insR x k h r
      unfold findR at ih ⊢
      by_cases hy : y.key = k
      · rw [List.find?_cons_of_pos (by simp [hy]), List.find?_cons_of_pos (by simp [hy])]
      · rw [List.find?_cons_of_neg (by simp [hy]), List.find?_cons_of_neg (by simp [hy]), ih]
theorem find_putF {M : List Rw} {s : Sp} {k : List UInt8} (h : s.ch.key ≠ k) : findR (putF M s) k = findR M k := by
  unfold putF
  split
  · rfl
  · unfold putR
    rw [find_insR _ _ (by exact h)]
    have := find_delF (M := M) (c := ⟨s.ch.key, [], true⟩) (k := k) (fun _ => h)
    unfold delF at this
    rw [if_pos rfl] at this
    exact this
theorem find_puts : ∀ (S : List Sp) (M : List Rw) (k : List UInt8), (∀ s ∈ S, s.ch.key ≠ k) → findR (S.foldl putF M) k = findR M k
  | [], _, _, _ => rfl
  | c :: r, M, k, h => by
    rw [List.foldl_cons, find_puts r _ k (fun x hx => h x (by simp [hx])), find_putF (h c (by simp))]
theorem tgL_snoc (M : List Rw) (N : Nat) (L : List Ch) (c : Ch) (hc : c.gone = true) (ha : atL M c.key < N) : tgL M N (L ++ [c]) = (tgL M N L).set (atL M c.key) false := by
  unfold tgL
  refine (map_set_range ha (fun j hj => ?_)).symm
  rw [goneAt_snoc, hc]
  by_cases h : atL M c.key = j
  · subst h; simp
  · have h' : ¬ j = atL M c.key := fun e => h e.symm
    rw [if_neg h']
    have : (atL M c.key == j) = false := by simpa using h
    rw [this]
    simp
def gtL (M : List Rw) (N : Nat) (l : List Ch) : List Bool := (List.range N).map (goneAt M l)
theorem gtL_snoc (M : List Rw) (N : Nat) (L : List Ch) (c : Ch) (hc : c.gone = true) (ha : atL M c.key < N) : gtL M N (L ++ [c]) = (gtL M N L).set (atL M c.key) true := by
  unfold gtL
  refine (map_set_range ha (fun j hj => ?_)).symm
  rw [goneAt_snoc, hc]
  by_cases h : atL M c.key = j
  · subst h; simp
  · have h' : ¬ j = atL M c.key := fun e => h e.symm
    rw [if_neg h']
    have : (atL M c.key == j) = false := by simpa using h
    rw [this]
    simp
theorem goneAt_stay (M : List Rw) (L : List Ch) (c : Ch) (hc : c.gone = false) (i : Nat) : goneAt M (L ++ [c]) i = goneAt M L i := by
  rw [goneAt_snoc, hc]
  simp
theorem news_isNew {M : List Rw} {l : List Ch} {c : Ch} (h : c ∈ newsL M l) : c ∈ l ∧ isNews M c = true := List.mem_filter.1 h
theorem keys_take {l : List Ch} (h : l.Pairwise fun a b => a.key ≠ b.key) (k : Nat) (hk : k < l.length) : ∀ c ∈ l.take k, c.key ≠ l[k].key := by
  intro c hc e
  obtain ⟨i, hi, rfl⟩ := List.getElem_of_mem hc
  rw [List.length_take] at hi
  rw [List.getElem_take] at e
  exact (List.pairwise_iff_getElem.1 h) i k (by omega) hk (by omega) e

/-- Behind the removals. -/
theorem pdels_is {N : Nat} {M : List Rw} {l : List Ch} (hM : Good N M) (hl : l.Pairwise fun a b => a.key ≠ b.key) : ∀ k, k ≤ l.length →
    (l.take k).foldl pdel (plan0 N M) = ⟨(newsL M (l.take k)).foldl delF M, tgL M N (newsL M (l.take k)), List.replicate N [], gtL M N (newsL M (l.take k))⟩
  | 0, _ => by
    simp only [List.take_zero, List.foldl_nil, newsL, List.filter_nil, tgL_nil]
    unfold plan0 gtL
    congr 1
    apply List.ext_getElem
    · simp
    · intro i h1 h2
      simp [goneAt]
  | k + 1, hk => by
    have hlt : k < l.length := by omega
    have ih := pdels_is hM hl k (by omega)
    have hkt := keys_take hl k hlt
    have hfk := foldl_take pdel (plan0 N M) l k hlt
    rw [hfk, ih, newsL_take M l k hlt]
    generalize l[k] = c at *
    have hfind : findR ((newsL M (l.take k)).foldl delF M) c.key = findR M c.key := find_dels _ _ _ (fun x hx => hkt x (news_isNew hx).1)
    unfold pdel
    cases hg : c.gone with
    | false =>
      rw [if_neg (by decide)]
      split
      · rw [List.foldl_append]
        simp only [List.foldl_cons, List.foldl_nil]
        rw [show ∀ X : List Rw, delF X c = X from fun X => by unfold delF; rw [hg]; rfl]
        have e1 : tgL M N (newsL M (l.take k) ++ [c]) = tgL M N (newsL M (l.take k)) := by
          unfold tgL
          refine List.map_congr_left fun i _ => ?_
          rw [goneAt_stay _ _ _ hg]
        have e2 : gtL M N (newsL M (l.take k) ++ [c]) = gtL M N (newsL M (l.take k)) := by
          unfold gtL
          refine List.map_congr_left fun i _ => ?_
          rw [goneAt_stay _ _ _ hg]
        rw [e1, e2]
      · rfl
    | true =>
      rw [if_pos rfl, hfind]
      cases hf : findR M c.key with
      | none =>
        have hn : isNews M c = false := by unfold isNews; rw [hg, hf]; rfl
        rw [if_neg (by rw [hn]; decide)]
      | some r =>
        have hn : isNews M c = true := by unfold isNews; rw [hg, hf]; rfl
        have ha : atL M c.key = r.at_ := atL_some hf
        have haN : atL M c.key < N := by rw [ha]; exact hM.at_lt r (findR_mem hf).1
        rw [if_pos hn, List.foldl_append, tgL_snoc M N _ c hg haN, gtL_snoc M N _ c hg haN, ha]
        simp only [List.foldl_cons, List.foldl_nil]
        rw [show ∀ X : List Rw, delF X c = delR X c.key from fun X => by unfold delF; rw [hg]; rfl]
        congr 1
        apply List.ext_getElem?
        intro i
        rw [List.getElem?_set]
        split
        · rename_i hi
          subst hi
          simp only [List.length_replicate]
          rw [if_pos (by omega), List.getElem?_replicate, if_pos (by omega)]
        · rfl

def setT (T : List (List UInt8)) (s : Sp) : List (List UInt8) := T.set s.at_ (padD s.ch.key s.ch.val)
def setV (T : List Bool) (s : Sp) : List Bool := T.set s.at_ true
/-- Which blocks are taken, by those that are free. -/
def takL (N : Nat) (fr : List Nat) : List Bool := (List.range N).map fun i => !fr.contains i
theorem takL_length (N : Nat) (fr : List Nat) : (takL N fr).length = N := by simp [takL]
theorem takL_at {N : Nat} {fr : List Nat} {i : Nat} (h : i < N) : (takL N fr)[i]? = some (!fr.contains i) := by simp [takL, h]
theorem takL_first {N a : Nat} {r : List Nat} (h : (a :: r).Pairwise (· < ·)) (ha : a < N) : firstF (takL N (a :: r)) = a := by
  obtain ⟨h1, h2⟩ := List.pairwise_cons.1 h
  refine firstF_is _ _ (fun j hj => ?_) (.inl ?_)
  · rw [takL_at (by omega)]
    have : (a :: r).contains j = false := by
      rw [Bool.eq_false_iff]
      intro hm
      rcases List.mem_cons.1 (List.contains_iff_mem.1 hm) with rfl | hm
      · omega
      · have := h1 j hm; omega
    rw [this]
    rfl
  · rw [takL_at ha]
    simp
theorem takL_full (N : Nat) : firstF (takL N []) = N := by
  refine firstF_is _ _ (fun j hj => ?_) (.inr (takL_length _ _).symm)
  rw [takL_at hj]
  rfl
theorem takL_set {N a : Nat} {r : List Nat} (h : (a :: r).Pairwise (· < ·)) (ha : a < N) : (takL N (a :: r)).set a true = takL N r := by
  obtain ⟨h1, h2⟩ := List.pairwise_cons.1 h
  unfold takL
  refine map_set_range ha (fun j hj => ?_)
  by_cases hja : j = a
  · subst hja
    rw [if_pos rfl]
    have : r.contains j = false := by
      rw [Bool.eq_false_iff]
      intro hm
      have := h1 j (List.contains_iff_mem.1 hm)
      omega
    rw [this]
    rfl
  · rw [if_neg hja]
    have : (a :: r).contains j = r.contains j := by
      rw [List.contains_cons]
      have : (j == a) = false := by simpa using hja
      rw [this]
      rfl
    rw [this]
theorem free_rise (M : List Rw) (N : Nat) (l : List Ch) : (freeL M N l).Pairwise (· < ·) := by
  unfold freeL
  exact List.Pairwise.filter _ List.pairwise_lt_range
theorem tak_free (M : List Rw) (N : Nat) (l : List Ch) : takL N (freeL M N l) = tgL M N l := by
  unfold takL tgL
  refine List.map_congr_left fun i hi => ?_
  have hiN : i < N := List.mem_range.1 hi
  by_cases hm : i ∈ freeL M N l
  · have h1 := (List.mem_filter.1 hm).2
    unfold freeP at h1
    rw [List.contains_iff_mem.2 hm]
    cases hx : (hasAt M i && !goneAt M l i) with
    | false => rfl
    | true => rw [hx] at h1; cases h1
  · have h1 : (freeL M N l).contains i = false := by
      rw [Bool.eq_false_iff]
      exact fun h => hm (List.contains_iff_mem.1 h)
    rw [h1]
    have h2 : freeP M l i = false := by
      rw [Bool.eq_false_iff]
      exact fun h => hm (List.mem_filter.2 ⟨hi, h⟩)
    unfold freeP at h2
    cases hx : (hasAt M i && !goneAt M l i) with
    | false => rw [hx] at h2; cases h2
    | true => rfl
end Go.Proofs.YthpjkhmkjhgbkaaGreatDoor
