/- The document's plan of a commit is the program's: plain facts. -/
import Derived.Test.YthpjkhmkjhgbkaaGreatDoorPl5
namespace Go.Proofs.YthpjkhmkjhgbkaaGreatDoor
open Go.RowKit Go.Maps

theorem find_dels' : ∀ (l : List Ch) (M : List Rw) (k : List UInt8), (∀ c ∈ l, c.gone = true → c.key ≠ k) → findR (l.foldl delF M) k = findR M k
  | [], _, _, _ => rfl
  | c :: r, M, k, h => by
    rw [List.foldl_cons, find_dels' r _ k (fun x hx => h x (by simp [hx])), find_delF (h c (by simp))]
theorem stepsA_snoc (M : List Rw) (fr : List Nat) (L : List Ch) (c : Ch) : stepsA M fr (L ++ [c]) = stepF M (stepsA M fr L) c := by
  unfold stepsA
  rw [List.foldl_append]
  rfl
theorem newN_snoc (M : List Rw) (L : List Ch) (c : Ch) : newN M (L ++ [c]) = newN M L + if isNewC M c then 1 else 0 := by
  unfold newN
  rw [List.filter_append, List.length_append]
  congr 1
  cases h : isNewC M c <;> simp [h]
theorem steps_mem (M : List Rw) : ∀ (L : List Ch) (acc : List Sp × List Nat) (s : Sp), s ∈ (L.foldl (stepF M) acc).1 → s ∈ acc.1 ∨ s.ch ∈ L
  | [], _, _, h => .inl h
  | c :: r, acc, s, h => by
    rcases steps_mem M r _ s h with h | h
    · unfold stepF at h
      split at h
      · exact .inl h
      · split at h
        · rcases List.mem_append.1 h with h | h
          · exact .inl h
          · simp only [List.mem_singleton] at h
            subst h
            exact .inr (by simp)
        · rcases List.mem_append.1 h with h | h
          · exact .inl h
          · simp only [List.mem_singleton] at h
            subst h
            exact .inr (by simp)
    · exact .inr (by simp [h])
theorem stepsA_mem {M : List Rw} {fr : List Nat} {L : List Ch} {s : Sp} (h : s ∈ (stepsA M fr L).1) : s.ch ∈ L := by
  rcases steps_mem M L _ s h with h | h
  · cases h
  · exact h
theorem stepsA_drop (M : List Rw) (fr : List Nat) (L : List Ch) : (stepsA M fr L).2 = fr.drop (newN M L) := by
  have := stepsA_left M fr L L.length (Nat.le_refl _)
  rwa [List.take_of_length_le (Nat.le_refl _)] at this

/-- Behind the changes that lay rows. -/
def PutIs (N : Nat) (M : List Rw) (fr : List Nat) (D : List Rw) (V : List Bool) (ns : List Ch) (o : Option PlanS) : Prop :=
  (newN M ns ≤ fr.length ∧ o = some ⟨(stepsA M fr ns).1.foldl putF D, takL N (fr.drop (newN M ns)), (stepsA M fr ns).1.foldl setT (List.replicate N []), (stepsA M fr ns).1.foldl setV V⟩) ∨ (fr.length < newN M ns ∧ o = none)

theorem pputs_is {N : Nat} {M : List Rw} {l : List Ch} (hl : Fits l) (fr : List Nat) (hfr : fr.Pairwise (· < ·)) (hfN : ∀ a ∈ fr, a < N) (V : List Bool) : ∀ k, k ≤ l.length →
    PutIs N M fr ((newsL M l).foldl delF M) V (newsL M (l.take k)) (pputs ⟨(newsL M l).foldl delF M, takL N fr, List.replicate N [], V⟩ (l.take k))
  | 0, _ => .inl ⟨by simp [newsL, newN], by simp [newsL, newN, stepsA, pputs]⟩
  | k + 1, hk => by
    have hlt : k < l.length := by omega
    have ih := pputs_is (M := M) hl fr hfr hfN V k (by omega)
    have hkt := keys_take hl.keys k hlt
    have hmem := List.getElem_mem hlt
    rw [pputs_take l _ k hlt, newsL_take M l k hlt]
    generalize hc : l[k] = c at *
    generalize pputs ⟨(newsL M l).foldl delF M, takL N fr, List.replicate N [], V⟩ (l.take k) = o at *
    rcases ih with ⟨hroom, rfl⟩ | ⟨hroom, rfl⟩
    · have hSk : ∀ s ∈ (stepsA M fr (newsL M (l.take k))).1, s.ch.key ≠ c.key := fun s hs => hkt _ (news_isNew (stepsA_mem hs)).1
      have hdrop := stepsA_drop M fr (newsL M (l.take k))
      have hss : stepsA M fr (newsL M (l.take k)) = ((stepsA M fr (newsL M (l.take k))).1, fr.drop (newN M (newsL M (l.take k)))) := by rw [← hdrop]
      simp only
      cases hg : c.gone with
      | true =>
        have hp : ∀ st, pput st c = some st := fun st => by unfold pput; rw [if_pos hg]
        rw [hp]
        have hn : isNewC M c = false := by unfold isNewC; rw [hg]; rfl
        have hst : ∀ x, stepF M x c = x := fun x => by unfold stepF; rw [if_pos hg]
        split
        · unfold PutIs
          rw [newN_snoc, hn, stepsA_snoc, hst]
          exact .inl ⟨by simpa using hroom, rfl⟩
        · exact .inl ⟨hroom, rfl⟩
      | false =>
        have hfind : findR ((stepsA M fr (newsL M (l.take k))).1.foldl putF ((newsL M l).foldl delF M)) c.key = findR M c.key := by
          rw [find_puts _ _ _ hSk]
          refine find_dels' _ _ _ (fun x hx hxg e => ?_)
          have := hl.inj (news_isNew hx).1 hmem e
          subst this
          rw [hg] at hxg
          cases hxg
        unfold pput
        rw [if_neg (show ¬ c.gone = true by rw [hg]; decide)]
        simp only
        rw [hfind]
        cases hf : findR M c.key with
        | some r =>
          have hv : valL M c.key = r.val := valL_some hf
          have ha : atL M c.key = r.at_ := atL_some hf
          simp only
          by_cases he : r.val = c.val
          · have hn : isNews M c = false := by unfold isNews; rw [hg, hf, hv, he]; simp
            rw [if_pos he, if_neg (show ¬ isNews M c = true by rw [hn]; decide)]
            exact .inl ⟨hroom, rfl⟩
          · have hn : isNews M c = true := by unfold isNews; rw [hg, hf, hv]; simpa using he
            have hnc : isNewC M c = false := by unfold isNewC; rw [hg, hf]; rfl
            rw [if_neg he, if_pos hn]
            unfold PutIs
            rw [newN_snoc, hnc, stepsA_snoc, hss]
            have hst : ∀ x, stepF M x c = (x.1 ++ [⟨atL M c.key, c⟩], x.2) := fun x => by unfold stepF; rw [if_neg (by rw [hg]; decide), if_pos (by rw [hf]; rfl)]
            rw [hst]
            simp only [List.foldl_append, List.foldl_cons, List.foldl_nil]
            refine .inl ⟨by simpa using hroom, ?_⟩
            rw [ha]
            have hpf : ∀ X : List Rw, putF X ⟨r.at_, c⟩ = putR X ⟨c.key, c.val, r.at_⟩ := fun X => by unfold putF; rw [if_neg (by show ¬ c.gone = true; rw [hg]; decide)]
            rw [hpf]
            rfl
        | none =>
          have hn : isNews M c = true := by unfold isNews; rw [hg, hf]; rfl
          have hnc : isNewC M c = true := by unfold isNewC; rw [hg, hf]; rfl
          simp only
          rw [if_pos hn, takL_length]
          unfold PutIs
          rw [newN_snoc, hnc, stepsA_snoc, hss]
          have hst : ∀ x, stepF M x c = (x.1 ++ [⟨x.2.headD 0, c⟩], x.2.tail) := fun x => by unfold stepF; rw [if_neg (by rw [hg]; decide), if_neg (by rw [hf]; decide)]
          rw [hst]
          simp only [if_true]
          by_cases hlen : newN M (newsL M (l.take k)) < fr.length
          · have hd : fr.drop (newN M (newsL M (l.take k))) = fr[newN M (newsL M (l.take k))] :: fr.drop (newN M (newsL M (l.take k)) + 1) := List.drop_eq_getElem_cons hlen
            have hin : fr[newN M (newsL M (l.take k))] ∈ fr := List.getElem_mem hlen
            have hrise : (fr.drop (newN M (newsL M (l.take k)))).Pairwise (· < ·) := List.Pairwise.sublist (List.drop_sublist _ _) hfr
            rw [hd] at hrise ⊢
            have haN := hfN _ hin
            rw [takL_first hrise haN, takL_set hrise haN, if_neg (by omega)]
            simp only [List.foldl_append, List.foldl_cons, List.foldl_nil, List.headD_cons]
            refine .inl ⟨by omega, ?_⟩
            have hpf : ∀ X : List Rw, findR X c.key = none → putF X ⟨fr[newN M (newsL M (l.take k))], c⟩ = insR ⟨c.key, c.val, fr[newN M (newsL M (l.take k))]⟩ X := fun X hX => by
              unfold putF
              rw [if_neg (by show ¬ c.gone = true; rw [hg]; decide)]
              exact putR_ins hX
            rw [hpf _ (by rw [hfind]; exact hf)]
            rfl
          · have hd : fr.drop (newN M (newsL M (l.take k))) = [] := List.drop_of_length_le (by omega)
            rw [hd, takL_full, if_pos rfl]
            exact .inr ⟨by omega, rfl⟩
    · split
      · refine .inr ⟨?_, rfl⟩
        rw [newN_snoc]
        omega
      · exact .inr ⟨hroom, rfl⟩

/-- How many blocks are free. -/
theorem room_back {N : Nat} {M : List Rw} {l : List Ch} (hM : Good N M) (hg : ∀ x ∈ l, x.gone = true → (findR M x.key).isSome = true) (h : newN M l ≤ (freeL M N l).length) : growthL M l ≤ (N : Int) - (M.length : Int) := by
  have h2 : M.length = (M.filter fun r => goneKey l r.key).length + (M.filter fun r => !goneKey l r.key).length := filter_split _ _
  have h4 : ((M.filter fun r => goneKey l r.key).map Rw.key).length ≤ ((l.filter Ch.gone).map Ch.key).length := by
    refine nodup_le _ _ (nodup_map_of (List.Pairwise.filter _ hM.sorted.keys)) (fun k hk => ?_)
    obtain ⟨r, hr, rfl⟩ := List.mem_map.1 hk
    obtain ⟨c, hc, hck⟩ := List.any_eq_true.1 (List.mem_filter.1 hr).2
    simp only [Bool.and_eq_true, beq_iff_eq] at hck
    exact List.mem_map.2 ⟨c, List.mem_filter.2 ⟨hc, hck.1⟩, hck.2⟩
  have h3 : (freeL M N l ++ (M.filter fun r => !goneKey l r.key).map Rw.at_).length ≤ (List.range N).length := by
    have hst : ∀ r ∈ M.filter fun r => !goneKey l r.key, r ∈ M ∧ ∀ c ∈ l, c.gone = true → c.key ≠ r.key := fun r hr => by
      obtain ⟨hr1, hr2⟩ := List.mem_filter.1 hr
      refine ⟨hr1, fun c hc hcg e => ?_⟩
      have : goneKey l r.key = true := List.any_eq_true.2 ⟨c, hc, by rw [hcg, e]; simp⟩
      rw [this] at hr2
      cases hr2
    refine nodup_le _ _ ?_ (fun i hi => ?_)
    · rw [List.nodup_append]
      refine ⟨free_nodup _ _ _, nodup_map_of ?_, fun a ha b hb e => ?_⟩
      · refine (List.Pairwise.filter _ hM.sorted.nodup).imp_of_mem ?_
        intro a b ha hb hne e
        exact hne (hM.inj a (hst a ha).1 b (hst b hb).1 e)
      · subst e
        obtain ⟨r, hr, rfl⟩ := List.mem_map.1 hb
        exact stays_not_free hM (hst r hr).1 (hst r hr).2 hg ha
    · rcases List.mem_append.1 hi with hi | hi
      · exact List.mem_range.2 (free_iff.1 hi).1
      · obtain ⟨r, hr, rfl⟩ := List.mem_map.1 hi
        exact List.mem_range.2 (hM.at_lt r (hst r hr).1)
  have h5 := growth_eq M l
  simp only [List.length_map, List.length_range, List.length_append] at h3 h4
  have h7 : goneN l = (l.filter Ch.gone).length := rfl
  omega

/-! The blocks. -/
theorem foldT_none {i : Nat} : ∀ (S : List Sp) (T : List (List UInt8)), (∀ s ∈ S, s.at_ ≠ i) → (S.foldl setT T)[i]? = T[i]?
  | [], _, _ => rfl
  | s :: r, T, h => by
    rw [List.foldl_cons, foldT_none r _ (fun x hx => h x (by simp [hx]))]
    unfold setT
    rw [List.getElem?_set_ne (h s (by simp))]
theorem foldT_some {i : Nat} {s : Sp} : ∀ (S : List Sp) (T : List (List UInt8)), s ∈ S → s.at_ = i → (S.map Sp.at_).Nodup → i < T.length → (S.foldl setT T)[i]? = some (padD s.ch.key s.ch.val)
  | [], _, h, _, _, _ => by cases h
  | x :: r, T, h, hi, hn, hT => by
    rw [List.map_cons, List.nodup_cons] at hn
    rw [List.foldl_cons]
    rcases List.mem_cons.1 h with rfl | h
    · rw [foldT_none r _ (fun y hy e => hn.1 (List.mem_map.2 ⟨y, hy, by rw [e, hi]⟩))]
      unfold setT
      rw [hi, List.getElem?_set_self hT]
    · exact foldT_some r _ h hi hn.2 (by simpa [setT] using hT)
theorem foldV_at {i : Nat} : ∀ (S : List Sp) (T : List Bool), i < T.length → (S.foldl setV T)[i]? = some (T.getD i false || S.any fun s => s.at_ == i)
  | [], T, h => by simp [List.getD_eq_getElem?_getD, h]
  | s :: r, T, h => by
    rw [List.foldl_cons, foldV_at r _ (by simpa [setV] using h)]
    congr 1
    unfold setV
    rw [List.any_cons, List.getD_eq_getElem?_getD, List.getD_eq_getElem?_getD, List.getElem?_set]
    by_cases hs : s.at_ = i
    · subst hs
      simp [h]
    · rw [if_neg hs]
      have : (s.at_ == i) = false := by simpa using hs
      rw [this]
      simp
theorem blk_ext : ∀ {a b : List Bk}, a.Pairwise (fun x y => x.at_ < y.at_) → b.Pairwise (fun x y => x.at_ < y.at_) → (∀ x, x ∈ a ↔ x ∈ b) → a = b := by
  intro a b ha hb h
  have na : a.Nodup := ha.imp fun h e => by rw [e] at h; omega
  have nb : b.Nodup := hb.imp fun h e => by rw [e] at h; omega
  exact List.Perm.eq_of_pairwise (le := fun x y : Bk => x.at_ < y.at_) (fun x y _ _ h1 h2 => by omega) ha hb ((List.perm_ext_iff_of_nodup na nb).2 h)

theorem plan_is {N : Nat} {M : List Rw} {l : List Ch} (hM : Good N M) (hl : Fits l) :
    (planL N M l = none ∧ (N : Int) - (M.length : Int) < growthL M (newsL M l)) ∨
    (∃ now out, planL N M l = some (now, out) ∧ growthL M (newsL M l) ≤ (N : Int) - (M.length : Int) ∧ (newsL M l = [] → now = M ∧ out = []) ∧
      (newsL M l ≠ [] → out ≠ [] ∧ ∀ ss, Does N M (newsL M l) ss → ss.Pairwise (fun a b => ltS b a = false) → now = applyL M (newsL M l) ss ∧ out = ss.map bkP)) := by
  have hnf := hl.news (M := M)
  have hng := news_gone (M := M) (l := l)
  have h1 := pdels_is hM hl.keys l.length (Nat.le_refl _)
  rw [List.take_of_length_le (Nat.le_refl _), ← tak_free] at h1
  have h2 := pputs_is (M := M) (N := N) hl (freeL M N (newsL M l)) (free_rise _ _ _) (fun a ha => (free_iff.1 ha).1) (gtL M N (newsL M l)) l.length (Nat.le_refl _)
  rw [List.take_of_length_le (Nat.le_refl _), ← h1] at h2
  unfold planL
  rcases h2 with ⟨hroom, h2⟩ | ⟨hroom, h2⟩
  · rw [h2]
    refine .inr ⟨_, _, rfl, room_back hM hng hroom, fun h0 => ?_, fun h0 => ?_⟩
    · simp only [h0]
      refine ⟨rfl, ?_⟩
      unfold blkUp
      rw [List.map_eq_nil_iff, List.filter_eq_nil_iff]
      intro i hi
      have hiN := List.mem_range.1 hi
      simp [stepsA, gtL, goneAt, List.getD_eq_getElem?_getD, hiN]
    · have hraw := does_raw hM hnf hng hroom
      have key : ∀ ss, Does N M (newsL M l) ss → ss.Pairwise (fun a b => ltS b a = false) → (stepsA M (freeL M N (newsL M l)) (newsL M l)).1.foldl putF ((newsL M l).foldl delF M) = applyL M (newsL M l) ss ∧ blkUp ⟨(stepsA M (freeL M N (newsL M l)) (newsL M l)).1.foldl putF ((newsL M l).foldl delF M), takL N ((freeL M N (newsL M l)).drop (newN M (newsL M l))), (stepsA M (freeL M N (newsL M l)) (newsL M l)).1.foldl setT (List.replicate N []), (stepsA M (freeL M N (newsL M l)) (newsL M l)).1.foldl setV (gtL M N (newsL M l))⟩ N = ss.map bkP := by
        intro ss hd hsort
        have hself : rawS M N (newsL M l) = (stepsA M (freeL M N (newsL M l)) (newsL M l)).1 ++ leftG M (stepsA M (freeL M N (newsL M l)) (newsL M l)).2 (newsL M l) := rfl
        have hG : ∀ s ∈ leftG M (stepsA M (freeL M N (newsL M l)) (newsL M l)).2 (newsL M l), s.ch.gone = true := fun s hs => by
          obtain ⟨c, hc, rfl⟩ := List.mem_map.1 hs
          obtain ⟨_, h2⟩ := List.mem_filter.1 hc
          simp only [Bool.and_eq_true] at h2
          exact h2.1
        have hlaid := laid hM hnf hng hroom (newsL M l).length (Nat.le_refl _)
        rw [List.take_of_length_le (Nat.le_refl _)] at hlaid
        have hSg : ∀ s ∈ (stepsA M (freeL M N (newsL M l)) (newsL M l)).1, s.ch.gone = false := fun s hs => by
          have : s.ch ∈ (stepsA M (freeL M N (newsL M l)) (newsL M l)).1.map Sp.ch := List.mem_map.2 ⟨s, hs, rfl⟩
          rw [hlaid.chs] at this
          simpa using (List.mem_filter.1 this).2
        have hmem : ∀ s, s ∈ ss ↔ s ∈ rawS M N (newsL M l) := fun s => hd.raw.mem_iff
        have hS : ∀ s ∈ ss, s.ch.gone = false → s ∈ (stepsA M (freeL M N (newsL M l)) (newsL M l)).1 := fun s hs hsg => by
          have := (hmem s).1 hs
          rw [hself] at this
          rcases List.mem_append.1 this with h | h
          · exact h
          · rw [hG s h] at hsg; cases hsg
        have hS' : ∀ s ∈ (stepsA M (freeL M N (newsL M l)) (newsL M l)).1, s ∈ ss := fun s hs => (hmem s).2 (by rw [hself]; exact List.mem_append.2 (.inl hs))
        constructor
        · have e1 : applyL M (newsL M l) (rawS M N (newsL M l)) = (stepsA M (freeL M N (newsL M l)) (newsL M l)).1.foldl putF ((newsL M l).foldl delF M) := by
            unfold applyL
            rw [hself, List.foldl_append]
            have : ∀ (G : List Sp) (X : List Rw), (∀ s ∈ G, s.ch.gone = true) → G.foldl putF X = X := by
              intro G
              induction G with
              | nil => intro X _; rfl
              | cons g t ih =>
                intro X h
                rw [List.foldl_cons]
                have : putF X g = X := by unfold putF; rw [if_pos (h g (by simp))]
                rw [this]
                exact ih X fun s hs => h s (by simp [hs])
            exact this _ _ hG
          rw [← e1]
          refine sorted_ext (sorted_apply hM.sorted) (sorted_apply hM.sorted) fun x => ?_
          rw [mem_apply hraw, mem_apply hd]
          constructor
          · rintro (⟨s, hs, h⟩ | h)
            · exact .inl ⟨s, (hmem s).2 hs, h⟩
            · exact .inr h
          · rintro (⟨s, hs, h⟩ | h)
            · exact .inl ⟨s, (hmem s).1 hs, h⟩
            · exact .inr h
        · have hlt : ss.Pairwise fun a b => a.at_ < b.at_ := by
            have h1 := List.pairwise_map.1 (List.nodup_iff_pairwise_ne.1 hd.ats)
            refine (h1.and hsort).imp ?_
            intro a b ⟨hne, hle⟩
            have : ¬ b.at_ < a.at_ := by simpa [ltS] using hle
            omega
          have hVlen : (gtL M N (newsL M l)).length = N := by simp [gtL]
          have hturn : ∀ i, i < N → ((stepsA M (freeL M N (newsL M l)) (newsL M l)).1.foldl setV (gtL M N (newsL M l))).getD i false = (goneAt M (newsL M l) i || (stepsA M (freeL M N (newsL M l)) (newsL M l)).1.any fun s => s.at_ == i) := fun i hi => by
            rw [List.getD_eq_getElem?_getD, foldV_at _ _ (by omega)]
            have : (gtL M N (newsL M l)).getD i false = goneAt M (newsL M l) i := by simp [gtL, List.getD_eq_getElem?_getD, hi]
            rw [this]
            rfl
          have htext : ∀ s ∈ ss, ((stepsA M (freeL M N (newsL M l)) (newsL M l)).1.foldl setT (List.replicate N [])).getD s.at_ [] = (bkP s).data := fun s hs => by
            have hsN := hd.at_lt s hs
            rw [List.getD_eq_getElem?_getD]
            cases hsg : s.ch.gone with
            | false =>
              rw [foldT_some _ _ (hS s hs hsg) rfl hlaid.ats (by simpa using hsN)]
              unfold bkP
              rw [hsg]
              rfl
            | true =>
              rw [foldT_none _ _ (fun x hx e => ?_)]
              · unfold bkP
                rw [hsg]
                simp [hsN]
              · have := inj_of_nodup hd.ats (hS' x hx) hs e
                subst this
                rw [hSg x hx] at hsg
                cases hsg
          refine blk_ext ?_ ?_ ?_
          · unfold blkUp
            rw [List.pairwise_map]
            refine (List.Pairwise.filter _ List.pairwise_lt_range).imp ?_
            intro a b hab
            show (a : Int) < (b : Int)
            omega
          · rw [List.pairwise_map]
            refine hlt.imp ?_
            intro a b hab
            show (a.at_ : Int) < (b.at_ : Int)
            omega
          · intro x
            unfold blkUp
            simp only [List.mem_map, List.mem_filter, List.mem_range]
            constructor
            · rintro ⟨i, ⟨hi, ht⟩, rfl⟩
              rw [hturn i hi, Bool.or_eq_true] at ht
              have : ∃ s ∈ ss, s.at_ = i := by
                rcases ht with ht | ht
                · obtain ⟨c, hc, hca⟩ := List.any_eq_true.1 ht
                  simp only [Bool.and_eq_true, beq_iff_eq] at hca
                  obtain ⟨s, hs, he⟩ := hd.freed c hc hca.1
                  exact ⟨s, hs, by rw [he, hca.2]⟩
                · obtain ⟨s, hs, he⟩ := List.any_eq_true.1 ht
                  exact ⟨s, hS' s hs, by simpa using he⟩
              obtain ⟨s, hs, rfl⟩ := this
              exact ⟨s, hs, by rw [htext s hs]; rfl⟩
            · rintro ⟨s, hs, rfl⟩
              have hsN := hd.at_lt s hs
              refine ⟨s.at_, ⟨hsN, ?_⟩, by rw [htext s hs]; rfl⟩
              rw [hturn _ hsN, Bool.or_eq_true]
              cases hsg : s.ch.gone with
              | false => exact .inr (List.any_eq_true.2 ⟨s, hS s hs hsg, by simp⟩)
              | true => exact .inl (List.any_eq_true.2 ⟨s.ch, hd.ch_in s hs, by rw [hsg, hd.gon s hs hsg]; simp⟩)
      refine ⟨?_, key⟩
      -- the steps, sorted
      intro hout
      have hms := List.mergeSort_perm (rawS M N (newsL M l)) (fun a b => decide (a.at_ ≤ b.at_))
      have hsd : Does N M (newsL M l) ((rawS M N (newsL M l)).mergeSort fun a b => decide (a.at_ ≤ b.at_)) := hraw.perm hms
      have hsp : ((rawS M N (newsL M l)).mergeSort fun a b => decide (a.at_ ≤ b.at_)).Pairwise (fun a b => ltS b a = false) := by
        have := List.pairwise_mergeSort (le := fun a b : Sp => decide (a.at_ ≤ b.at_)) (fun a b c h1 h2 => by simp at *; omega) (fun a b => by simp; omega) (rawS M N (newsL M l))
        refine this.imp ?_
        intro a b h
        simp [ltS] at h ⊢
        omega
      have h3 := (key _ hsd hsp).2
      have h4 := right_blocks hnf hsd h0
      have h5 := h4.1
      rw [hout] at h3
      have := congrArg List.length h3
      simp at this h5
      omega
  · rw [h2]
    refine .inl ⟨rfl, ?_⟩
    refine Decidable.byContradiction fun hn => ?_
    have := room hM hnf hng (by omega)
    omega
end Go.Proofs.YthpjkhmkjhgbkaaGreatDoor
