/- What a device's data hold: the rows of a Good list; a plan's blocks lay the rows behind it. -/
import Derived.Test.YthpjkhmkjhgbkaaGreatDoorGh
namespace Go.Proofs.YthpjkhmkjhgbkaaGreatDoor
open Go.RowKit Go.Maps

/-! Round trips. -/
theorem isZeroL_zeros (n : Nat) : isZeroL (zeros n) = true := by
  unfold isZeroL
  rw [List.all_eq_true]
  intro x hx
  have : x = 0 := List.eq_of_mem_replicate hx
  subst this
  rfl
theorem rowL_back (k v : List UInt8) (n : Nat) (h1 : 1 ≤ k.length) (h2 : k.length ≤ 16) (h3 : v.length ≤ 200) : rowOfL (rowL k v ++ zeros n) = some (k, v) := by
  have e1 : scanR (rowL k v ++ zeros n) = (1, encT k ++ (encT v ++ zeros n), 0) := by
    unfold scanR rowL
    rw [List.append_assoc, List.append_assoc]
    exact rNumber_be4 1 _ (by decide)
  have e2 : scanK (rowL k v ++ zeros n) = (k, encT v ++ zeros n, 0) := by
    unfold scanK
    rw [e1]
    exact rText_encT 16 k _ (by omega) (by omega)
  have e3 : scanV (rowL k v ++ zeros n) = (v, zeros n, 0) := by
    unfold scanV
    rw [e2]
    exact rText_encT 200 v _ (by omega) (by omega)
  have hg : goodD (rowL k v ++ zeros n) = true := by
    unfold goodD
    rw [e3, e1, e2]
    simp only [isZeroL_zeros, Bool.and_true, beq_self_eq_true, Bool.true_and]
    simp [isKeyL, h1, h2]
  rw [rowOfL, if_pos hg, e2, e3]
theorem rowL_nonzero (k v : List UInt8) (r : List UInt8) : isZeroL (rowL k v ++ r) = false := by
  show isZeroL (0 :: 0 :: 0 :: 1 :: _) = false
  rfl
theorem setB_fill (x : Bk) (h : x.data.length ≤ 248) : setB x = x.data ++ zeros (248 - x.data.length) := by
  unfold setB fillL
  rw [List.take_append, List.take_of_length_le h]
  congr 1
  unfold rep zeros
  rw [List.take_replicate]
  congr 1
  omega
theorem inj_of_nodup : ∀ {l : List Sp}, (l.map Sp.at_).Nodup → ∀ {a b : Sp}, a ∈ l → b ∈ l → a.at_ = b.at_ → a = b
  | x :: r, h, a, b, ha, hb, e => by
    have h' : ¬ x.at_ ∈ r.map Sp.at_ ∧ (r.map Sp.at_).Nodup := List.nodup_cons.1 h
    rcases List.mem_cons.1 ha with rfl | ha' <;> rcases List.mem_cons.1 hb with rfl | hb'
    · rfl
    · exact absurd (List.mem_map.2 ⟨b, hb', e.symm⟩) h'.1
    · exact absurd (List.mem_map.2 ⟨a, ha', e⟩) h'.1
    · exact inj_of_nodup h'.2 ha' hb' e

/-- The data hold the rows. -/
def Lays (L : List (List UInt8)) (M : List Rw) : Prop := ∀ j d, L[j]? = some d → (isZeroL d = true ∧ ∀ r ∈ M, r.at_ ≠ j) ∨ (isZeroL d = false ∧ ∃ r ∈ M, r.at_ = j ∧ rowOfL d = some (r.key, r.val))
theorem lays_zeros {L : List (List UInt8)} (h : ∀ d ∈ L, isZeroL d = true) : Lays L [] := fun j d hd => .inl ⟨h d (List.mem_of_getElem? hd), by simp⟩
theorem loadAll_upto {L : List (List UInt8)} {M : List Rw} {N : Nat} (hG : Good N M) (hl : Lays L M) : ∀ k, k ≤ L.length → loadAll [] (L.take k) 0 = some (M.filter fun r => decide (r.at_ < k))
  | 0, _ => by
    have : (M.filter fun r => decide (r.at_ < 0)) = [] := List.filter_eq_nil_iff.2 fun r _ => by simp
    rw [this]
    rfl
  | k + 1, hk => by
    have hlt : k < L.length := hk
    have ih := loadAll_upto hG hl k (by omega)
    rw [loadAll_take hlt, ih]
    simp only
    have hs : ∀ n, Sorted (M.filter fun r => decide (r.at_ < n)) := fun n => hG.sorted.filter _
    rcases hl k _ (List.getElem?_eq_getElem hlt) with ⟨hz, hno⟩ | ⟨hz, r, hr, hat, hrow⟩
    · rw [loadR, if_pos hz]
      congr 1
      refine List.filter_congr fun r hr => ?_
      have := hno r hr
      simp only [decide_eq_decide]
      omega
    · have hf : findR (M.filter fun r => decide (r.at_ < k)) r.key = none := by
        rw [findR_none]
        intro r' hr' e
        obtain ⟨h1, h2⟩ := List.mem_filter.1 hr'
        have := hG.sorted.inj h1 hr e
        subst this
        simp at h2
        omega
      rw [loadR, if_neg (by rw [hz]; decide), hrow]
      simp only
      rw [hf]
      simp only [Option.isSome_none, Bool.false_eq_true, if_false]
      congr 1
      refine sorted_ext (sorted_putR (hs k) _) (hs (k + 1)) fun x => ?_
      rw [mem_putR]
      simp only [List.mem_filter, decide_eq_true_eq]
      have hrr : (⟨r.key, r.val, k⟩ : Rw) = r := by rw [← hat]
      rw [hrr]
      constructor
      · rintro (rfl | ⟨⟨h1, h2⟩, _⟩)
        · exact ⟨hr, by omega⟩
        · exact ⟨h1, by omega⟩
      · rintro ⟨h1, h2⟩
        by_cases hx : x = r
        · exact .inl hx
        · refine .inr ⟨⟨h1, ?_⟩, fun e => hx (hG.sorted.inj h1 hr e)⟩
          by_cases hk' : x.at_ = k
          · exact absurd (hG.inj x h1 r hr (by omega)) hx
          · omega
theorem parse_lays {L : List (List UInt8)} {M : List Rw} (hG : Good L.length M) (hl : Lays L M) : parseL L = some M := by
  have := loadAll_upto hG hl L.length (Nat.le_refl _)
  rw [List.take_length] at this
  unfold parseL
  rw [this]
  congr 1
  exact List.filter_eq_self.2 fun r hr => by simpa using hG.at_lt r hr

/-- A plan's blocks lay the rows behind it. -/
theorem lays_apply {L : List (List UInt8)} {M : List Rw} {N : Nat} {l : List Ch} {ss : List Sp} (hG : Good N M) (hl : Fits l) (hg : ∀ x ∈ l, x.gone = true → (findR M x.key).isSome = true) (hd : Does N M l ss) (h : Lays L M) : Lays (afterL L (ss.map bkOf)) (applyL M l ss) := by
  intro j d hj
  have hjl : j < L.length := by
    have := (List.getElem?_eq_some_iff.1 hj).1
    rwa [afterL_length] at this
  have hat : ∀ c ∈ l, (findR M c.key).isSome = true → ∃ r ∈ M, r.key = c.key ∧ atL M c.key = r.at_ := fun c _ hs => by
    obtain ⟨r, hr⟩ := Option.isSome_iff_exists.1 hs
    exact ⟨r, (findR_mem hr).1, (findR_mem hr).2, atL_some hr⟩
  rcases afterL_cases (ss.map bkOf) L j hjl with ⟨x, hx, hxj, he⟩ | ⟨hno, he⟩
  · obtain ⟨s, hs, rfl⟩ := List.mem_map.1 hx
    have hsj : s.at_ = j := by simpa [bkOf] using hxj
    rw [he] at hj
    injection hj with hj
    subst hj
    have hsm := hl.small _ (hd.ch_in s hs)
    cases hgone : s.ch.gone with
    | true =>
      left
      have hdat : (bkOf s).data = [] := by show dataL s.ch = []; rw [dataL, if_pos hgone]
      refine ⟨by rw [setB_fill _ (by rw [hdat]; simp), hdat]; exact isZeroL_zeros _, fun r hr e => ?_⟩
      rcases (mem_apply hd).1 hr with ⟨s', hs', hg', rfl⟩ | ⟨hrM, hne⟩
      · have hh : s'.at_ = s.at_ := by rw [hsj]; exact e
        have := inj_of_nodup hd.ats hs' hs hh
        subst this
        rw [hg'] at hgone
        cases hgone
      · obtain ⟨r0, h1, h2, h3⟩ := hat _ (hd.ch_in s hs) (hg _ (hd.ch_in s hs) hgone)
        have h4 := hd.gon s hs hgone
        have := hG.inj r hrM r0 h1 (by omega)
        subst this
        exact hne _ (hd.ch_in s hs) h2.symm
    | false =>
      right
      have hdat : (bkOf s).data = rowL s.ch.key s.ch.val := by show dataL s.ch = _; rw [dataL, if_neg (by rw [hgone]; decide)]
      have hlen : (bkOf s).data.length ≤ 248 := dataL_length hsm.2.1 hsm.2.2
      rw [setB_fill _ hlen, hdat]
      refine ⟨rowL_nonzero _ _ _, rowS s, (mem_apply hd).2 (.inl ⟨s, hs, hgone, rfl⟩), hsj, ?_⟩
      exact rowL_back _ _ _ hsm.1 hsm.2.1 hsm.2.2
  · rw [he] at hj
    have hno' : ∀ s ∈ ss, s.at_ ≠ j := fun s hs e => hno (bkOf s) (List.mem_map.2 ⟨s, hs, rfl⟩) (by simpa [bkOf] using e)
    rcases h j d hj with ⟨hz, hn⟩ | ⟨hz, r, hr, hrj, hrow⟩
    · left
      refine ⟨hz, fun r hr e => ?_⟩
      rcases (mem_apply hd).1 hr with ⟨s', hs', hg', rfl⟩ | ⟨hrM, _⟩
      · exact hno' s' hs' e
      · exact hn r hrM e
    · right
      refine ⟨hz, r, (mem_apply hd).2 (.inr ⟨hr, fun c hc e => ?_⟩), hrj, hrow⟩
      have hfr : findR M c.key = some r := by rw [e]; exact findR_of hG.sorted hr
      have hatc : atL M c.key = j := by rw [atL_some hfr]; exact hrj
      cases hgone : c.gone with
      | true =>
        obtain ⟨s, hs, hsa⟩ := hd.freed c hc hgone
        exact hno' s hs (by omega)
      | false =>
        obtain ⟨s, hs, rfl⟩ := hd.lays c hc hgone
        have := hd.old s hs hgone (by rw [hfr]; rfl)
        exact hno' s hs (by omega)
end Go.Proofs.YthpjkhmkjhgbkaaGreatDoor
