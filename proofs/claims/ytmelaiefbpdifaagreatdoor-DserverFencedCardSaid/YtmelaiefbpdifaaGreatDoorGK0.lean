/- Joined: Lay5, Cr13, Te13 -/
import Derived.Test.YtmelaiefbpdifaaGreatDoorGGh
namespace Go.Proofs.YtmelaiefbpdifaaGreatDoor
open Go.RowKit Go.Maps
theorem isZeroL_zeros (n : Nat) : isZeroL (zeros n) = true := by
 unfold isZeroL
 rw [List.all_eq_true]
 intro x hx
 have : x = 0 := List.eq_of_mem_replicate hx
 subst this
 rfl
theorem rowL_back (k v : List UInt8) (n : Nat) (h1 : 1 ≤ k.length) (h2 : k.length ≤ 16) (h3 : v.length ≤ 200) : rowOfL (rowL k v ++ zeros n) = some (k, v) := by
 have e1 : scanR (rowL k v ++ zeros n) = (1, encT k ++ (encT v ++ zeros n), 0) := by
  unfold scanR rowL
  rw [List.append_assoc, List.append_assoc]
  exact rNumber_be4 1 _ (by decide)
 have e2 : scanK (rowL k v ++ zeros n) = (k, encT v ++ zeros n, 0) := by
  unfold scanK
  rw [e1]
  exact rText_encT 16 k _ (by omega) (by omega)
 have e3 : scanV (rowL k v ++ zeros n) = (v, zeros n, 0) := by
  unfold scanV
  rw [e2]
  exact rText_encT 200 v _ (by omega) (by omega)
 have hg : goodD (rowL k v ++ zeros n) = true := by
  unfold goodD
  rw [e3, e1, e2]
  simp only [isZeroL_zeros, Bool.and_true, beq_self_eq_true, Bool.true_and]
  simp [isKeyL, h1, h2]
 rw [rowOfL, if_pos hg, e2, e3]
theorem rowL_nonzero (k v : List UInt8) (r : List UInt8) : isZeroL (rowL k v ++ r) = false := by
 show isZeroL (0 :: 0 :: 0 :: 1 :: _) = false
 rfl
theorem setB_fill (x : Bk) (h : x.data.length ≤ 248) : setB x = x.data ++ zeros (248 - x.data.length) := by
 unfold setB fillL
 rw [List.take_append, List.take_of_length_le h]
 congr 1
 unfold rep zeros
 rw [List.take_replicate]
 congr 1
 omega
theorem inj_of_nodup : ∀ {l : List Sp}, (l.map Sp.at_).Nodup → ∀ {a b : Sp}, a ∈ l → b ∈ l → a.at_ = b.at_ → a = b
 | x :: r, h, a, b, ha, hb, e => by
  have h' : ¬ x.at_ ∈ r.map Sp.at_ ∧ (r.map Sp.at_).Nodup := List.nodup_cons.1 h
  rcases List.mem_cons.1 ha with rfl | ha' <;> rcases List.mem_cons.1 hb with rfl | hb'
  ·rfl
  ·exact absurd (List.mem_map.2 ⟨b, hb', e.symm⟩) h'.1
  ·exact absurd (List.mem_map.2 ⟨a, ha', e⟩) h'.1
  ·exact inj_of_nodup h'.2 ha' hb' e
def Lays (L : List (List UInt8)) (M : List Rw) : Prop := ∀ j d, L[j]? = some d → (isZeroL d = true ∧ ∀ r ∈ M, r.at_ ≠ j) ∨ (isZeroL d = false ∧ ∃ r ∈ M, r.at_ = j ∧ rowOfL d = some (r.key, r.val))
theorem lays_zeros {L : List (List UInt8)} (h : ∀ d ∈ L, isZeroL d = true) : Lays L [] := fun j d hd => .inl ⟨h d (List.mem_of_getElem? hd), by simp⟩
theorem loadAll_upto {L : List (List UInt8)} {M : List Rw} {N : Nat} (hG : Good N M) (hl : Lays L M) : ∀ k, k ≤ L.length → loadAll [] (L.take k) 0 = some (M.filter fun r => decide (r.at_ < k))
 | 0, _ => by
  have : (M.filter fun r => decide (r.at_ < 0)) = [] := List.filter_eq_nil_iff.2 fun r _ => by simp
  rw [this]
  rfl
 | k + 1, hk => by
  have hlt : k < L.length := hk
  have ih := loadAll_upto hG hl k (by omega)
  rw [loadAll_take hlt, ih]
  simp only
  have hs : ∀ n, Sorted (M.filter fun r => decide (r.at_ < n)) := fun n => hG.sorted.filter _
  rcases hl k _ (List.getElem?_eq_getElem hlt) with ⟨hz, hno⟩ | ⟨hz, r, hr, hat, hrow⟩
  ·rw [loadR, if_pos hz]
   congr 1
   refine List.filter_congr fun r hr => ?_
   have := hno r hr
   simp only [decide_eq_decide]
   omega
  ·have hf : findR (M.filter fun r => decide (r.at_ < k)) r.key = none := by
    rw [findR_none]
    intro r' hr' e
    obtain ⟨h1, h2⟩ := List.mem_filter.1 hr'
    have := hG.sorted.inj h1 hr e
    subst this
    simp at h2
    omega
   rw [loadR, if_neg (by rw [hz]; decide), hrow]
   simp only
   rw [hf]
   simp only [Option.isSome_none, Bool.false_eq_true, if_false]
   congr 1
   refine sorted_ext (sorted_putR (hs k) _) (hs (k + 1)) fun x => ?_
   rw [mem_putR]
   simp only [List.mem_filter, decide_eq_true_eq]
   have hrr : (⟨r.key, r.val, k⟩ : Rw) = r := by rw [← hat]
   rw [hrr]
   constructor
   ·rintro (rfl | ⟨⟨h1, h2⟩, _⟩)
    ·exact ⟨hr, by omega⟩
    ·exact ⟨h1, by omega⟩
   ·rintro ⟨h1, h2⟩
    by_cases hx : x = r
    ·exact .inl hx
    ·refine .inr ⟨⟨h1, ?_⟩, fun e => hx (hG.sorted.inj h1 hr e)⟩
     by_cases hk' : x.at_ = k
     ·exact absurd (hG.inj x h1 r hr (by omega)) hx
     ·omega
theorem parse_lays {L : List (List UInt8)} {M : List Rw} (hG : Good L.length M) (hl : Lays L M) : parseL L = some M := by
 have := loadAll_upto hG hl L.length (Nat.le_refl _)
 rw [List.take_length] at this
 unfold parseL
 rw [this]
 congr 1
 exact List.filter_eq_self.2 fun r hr => by simpa using hG.at_lt r hr
theorem lays_apply {L : List (List UInt8)} {M : List Rw} {N : Nat} {l : List Ch} {ss : List Sp} (hG : Good N M) (hl : Fits l) (hg : ∀ x ∈ l, x.gone = true → (findR M x.key).isSome = true) (hd : Does N M l ss) (h : Lays L M) : Lays (afterL L (ss.map bkOf)) (applyL M l ss) := by
 intro j d hj
 have hjl : j < L.length := by
  have := (List.getElem?_eq_some_iff.1 hj).1
  rwa [afterL_length] at this
 have hat : ∀ c ∈ l, (findR M c.key).isSome = true → ∃ r ∈ M, r.key = c.key ∧ atL M c.key = r.at_ := fun c _ hs => by
  obtain ⟨r, hr⟩ := Option.isSome_iff_exists.1 hs
  exact ⟨r, (findR_mem hr).1, (findR_mem hr).2, atL_some hr⟩
 rcases afterL_cases (ss.map bkOf) L j hjl with ⟨x, hx, hxj, he⟩ | ⟨hno, he⟩
 ·obtain ⟨s, hs, rfl⟩ := List.mem_map.1 hx
  have hsj : s.at_ = j := by simpa [bkOf] using hxj
  rw [he] at hj
  injection hj with hj
  subst hj
  have hsm := hl.small _ (hd.ch_in s hs)
  cases hgone : s.ch.gone with
  | true =>
   left
   have hdat : (bkOf s).data = [] := by show dataL s.ch = []; rw [dataL, if_pos hgone]
   refine ⟨by rw [setB_fill _ (by rw [hdat]; simp), hdat]; exact isZeroL_zeros _, fun r hr e => ?_⟩
   rcases (mem_apply hd).1 hr with ⟨s', hs', hg', rfl⟩ | ⟨hrM, hne⟩
   ·have hh : s'.at_ = s.at_ := by rw [hsj]; exact e
    have := inj_of_nodup hd.ats hs' hs hh
    subst this
    rw [hg'] at hgone
    cases hgone
   ·obtain ⟨r0, h1, h2, h3⟩ := hat _ (hd.ch_in s hs) (hg _ (hd.ch_in s hs) hgone)
    have h4 := hd.gon s hs hgone
    have := hG.inj r hrM r0 h1 (by omega)
    subst this
    exact hne _ (hd.ch_in s hs) h2.symm
  | false =>
   right
   have hdat : (bkOf s).data = rowL s.ch.key s.ch.val := by show dataL s.ch = _; rw [dataL, if_neg (by rw [hgone]; decide)]
   have hlen : (bkOf s).data.length ≤ 248 := dataL_length hsm.2.1 hsm.2.2
   rw [setB_fill _ hlen, hdat]
   refine ⟨rowL_nonzero _ _ _, rowS s, (mem_apply hd).2 (.inl ⟨s, hs, hgone, rfl⟩), hsj, ?_⟩
   exact rowL_back _ _ _ hsm.1 hsm.2.1 hsm.2.2
 ·rw [he] at hj
  have hno' : ∀ s ∈ ss, s.at_ ≠ j := fun s hs e => hno (bkOf s) (List.mem_map.2 ⟨s, hs, rfl⟩) (by simpa [bkOf] using e)
  rcases h j d hj with ⟨hz, hn⟩ | ⟨hz, r, hr, hrj, hrow⟩
  ·left
   refine ⟨hz, fun r hr e => ?_⟩
   rcases (mem_apply hd).1 hr with ⟨s', hs', hg', rfl⟩ | ⟨hrM, _⟩
   ·exact hno' s' hs' e
   ·exact hn r hrM e
  ·right
   refine ⟨hz, r, (mem_apply hd).2 (.inr ⟨hr, fun c hc e => ?_⟩), hrj, hrow⟩
   have hfr : findR M c.key = some r := by rw [e]; exact findR_of hG.sorted hr
   have hatc : atL M c.key = j := by rw [atL_some hfr]; exact hrj
   cases hgone : c.gone with
   | true =>
    obtain ⟨s, hs, hsa⟩ := hd.freed c hc hgone
    exact hno' s hs (by omega)
   | false =>
    obtain ⟨s, hs, rfl⟩ := hd.lays c hc hgone
    have := hd.old s hs hgone (by rw [hfr]; rfl)
    exact hno' s hs (by omega)
end Go.Proofs.YtmelaiefbpdifaaGreatDoor
namespace Go.Proofs.YtmelaiefbpdifaaGreatDoor
open Go.RowKit Go.Maps
theorem blkB_congr {s t : St} (hf : t.firm = s.firm) (hl : t.late = s.late) (k : Nat) : blkB t k = blkB s k := by
 unfold blkB
 rw [hf, hl]
theorem blkB_noLate {s : St} (hl : s.late = []) (k : Nat) : blkB s k = s.firm.getD k [] := by
 unfold blkB
 rw [hl]
 rfl
theorem burnt_dead {s : St} (h : burns s = true) : (burnt s).dead = s.dead := by unfold burnt; rw [if_pos h]
theorem dead_burns {s : St} (h : burns s = true) : s.dead = false := by
 unfold burns at h
 cases hd : s.dead with
 | false => rfl
 | true => rw [hd] at h; simp at h
theorem settleW_any : ∀ (L : List Bk) (s : St), (∀ x ∈ L, There s.firm.length x) →
  ((settleW s L).1 = 0 ∧ (settleW s L).2.dead = false ∧ (settleW s L).2.late = [] ∧ ∀ k, k < s.firm.length → blkB (settleW s L).2 k = putL (blkB s) L k) ∨
  ((settleW s L).1 = 5 ∧ (settleW s L).2.firm = s.firm ∧ ∀ y ∈ (settleW s L).2.late, y ∈ s.late ∨ ∃ x ∈ L, y = (x.at_.toNat, x.data))
 | [], s, _ => by
  cases hb : burns s with
  | true =>
   left
   have e1 : settleW s [] = (0, settledAll (burnt s) 18446744073709551615) := by rw [settleW, barErr, barred, hb]; rfl
   rw [e1]
   refine ⟨rfl, (burnt_dead hb).trans (dead_burns hb), rfl, fun k hk => ?_⟩
   show blkB (settledAll (burnt s) _) k = blkB s k
   unfold blkB
   simp only [settledAll, nowOf_nil, burnt_firm, burnt_late]
   have := settle_all s.firm k _ (getD_get hk ([] : List UInt8)) s.late
   rw [List.getD_eq_getElem?_getD, this]
   rfl
  | false =>
   right
   have e1 : settleW s [] = (5, burnt s) := by rw [settleW, barErr, barred, hb]; rfl
   rw [e1]
   exact ⟨rfl, burnt_firm s, fun y hy => .inl (by simpa [burnt_late] using hy)⟩
 | x :: r, s, h => by
  obtain ⟨h1, h2⟩ := h x (by simp)
  have hx : (hasBlock s.firm.length x.at_ && decide (x.data.length = 256)) = true := by simp [h1, h2]
  have h0 : 0 ≤ x.at_ := by simp only [hasBlock, decide_eq_true_eq] at h1; exact h1.1
  cases hb : burns s with
  | false =>
   right
   have e1 : settleW s (x :: r) = (5, burnt s) := by
    rw [settleW, writeErr, written, hx, hb]
    rfl
   rw [e1]
   exact ⟨rfl, burnt_firm s, fun y hy => .inl (by simpa [burnt_late] using hy)⟩
  | true =>
   obtain ⟨t, ht⟩ : ∃ t : St, t = { burnt s with late := s.late ++ [(x.at_.toNat, x.data)] } := ⟨_, rfl⟩
   have e1 : settleW s (x :: r) = settleW t r := by
    rw [settleW, writeErr, written, hx, hb, ht]
    rfl
   have hfirm : t.firm = s.firm := by rw [ht]; exact burnt_firm s
   have hlate : t.late = s.late ++ [(x.at_.toNat, x.data)] := by rw [ht]
   rw [e1]
   rcases settleW_any r t (fun y hy => by rw [hfirm]; exact h y (by simp [hy])) with ⟨a1, a2, a3, a4⟩ | ⟨a1, a2, a3⟩
   ·left
    refine ⟨a1, a2, a3, fun k hk => ?_⟩
    rw [a4 k (by rw [hfirm]; exact hk), putL]
    refine putL_congr _ _ _ k ?_
    rw [← blkB_written s x h0 k]
    exact blkB_congr (s := { s with late := s.late ++ [(x.at_.toNat, x.data)] }) hfirm hlate k
   ·right
    refine ⟨a1, a2.trans hfirm, fun y hy => ?_⟩
    rcases a3 y hy with h' | ⟨z, hz, rfl⟩
    ·rw [hlate] at h'
     rcases List.mem_append.1 h' with h' | h'
     ·exact .inl h'
     ·exact .inr ⟨x, by simp, by simpa using h'⟩
    ·exact .inr ⟨z, by simp [hz], rfl⟩
theorem crash_blk (t : St) (keep k : Nat) (hk : k < t.firm.length) : blkB (crashed t keep) k = t.firm.getD k [] ∨ ∃ y ∈ t.late, y.1 = k ∧ blkB (crashed t keep) k = y.2 := by
 have e : blkB (crashed t keep) k = (settle keep t.late t.firm).getD k [] := rfl
 rw [e]
 have hl : k < (settle keep t.late t.firm).length := by rw [settle_length]; exact hk
 have h1 := getD_get hl ([] : List UInt8)
 rcases settle_mem keep t.firm k _ t.late h1 with h | h
 ·left
  rw [List.getD_eq_getElem?_getD (l := t.firm), h]
  rfl
 ·exact .inr ⟨_, h, rfl, rfl⟩
theorem crash_len (t : St) (keep : Nat) : (crashed t keep).firm.length = t.firm.length := settle_length keep t.firm t.late
theorem crash_live (t : St) (keep : Nat) : Live (crashed t keep) := ⟨rfl, by show (-1 : Int) < 0; decide⟩
theorem crash_settled {t : St} (hl : t.late = []) (keep k : Nat) : blkB (crashed t keep) k = blkB t k := by
 have e : blkB (crashed t keep) k = (settle keep t.late t.firm).getD k [] := rfl
 rw [e, hl, settle_nil, blkB_noLate hl]
def Jok (s : St) (n : Nat) : Prop := markN (blkB s 0) = n ∧ ∀ x ∈ openL s, blkB s x.at_.toNat = x.data
theorem dataS_ext {s t : St} (hl : t.firm.length = s.firm.length) (h : ∀ j, j < s.firm.length - 41 → blkB t (41 + j) = blkB s (41 + j)) : dataS t = dataS s := by
 unfold dataS
 rw [hl]
 exact List.map_congr_left fun j hj => by rw [h j (List.mem_range.1 hj)]
theorem open_old {s t : St} {n : Nat} (hN : 42 ≤ s.firm.length) (hlen : t.firm.length = s.firm.length) (ht : Live t) (hft : Fine t) (hJ : Jok s n) (h0 : blkB t 0 = blkB s 0) (hh : ∀ j, 41 + j < s.firm.length → blkB t (41 + j) = blkB s (41 + j))
  (hc : ∀ i, i < 40 → blkB t (1 + i) = blkB s (1 + i) ∨ num4 (blkB t (1 + i)) 4 = n + 1) : openErr t = 0 ∧ dataS (openSt t) = dataS s ∧ openN t = n ∧ Jok (openSt t) n := by
 obtain ⟨o1, _, o3, _, o5⟩ := openSt_live hft ht (by omega)
 have hO : openL t = openL s ∨ openL t = [] := by
  unfold openL
  rw [h0, hJ.1]
  generalize markK (blkB s 0) = K
  unfold redoL
  by_cases h : Redoes t n K
  ·left
   have hcp : ∀ i, i < K → blkB t (1 + i) = blkB s (1 + i) := fun i hi => by
    have := h.1
    rcases hc i (by omega) with h' | h'
    ·exact h'
    ·have := (h.2 i hi).2.2
     omega
   have h' : Redoes s n K := ⟨h.1, fun i hi => by
    have := h.2 i hi
    unfold CopyOk at this ⊢
    rw [hcp i hi, hlen] at this
    exact this⟩
   rw [if_pos h, if_pos h']
   unfold redoHomes
   exact List.map_congr_left fun i hi => by rw [hcp i (List.mem_range.1 hi)]
  ·right
   rw [if_neg h]
 have hN0 : markN (blkB t 0) = n := by rw [h0]; exact hJ.1
 have hjr := open_journal hft ht (by omega)
 obtain ⟨q1, _⟩ := openL_congr (s := openSt t) (t := t) o3 hjr
 refine ⟨o1, dataS_ext (o3.trans hlen) fun j hj => ?_, hN0, by rw [hjr 0 (by omega)]; exact hN0, fun x hx => ?_⟩
 ·rw [o5 (41 + j) (by omega)]
  rcases hO with hO | hO
  ·rw [hO]
   rcases putL_cases (openL s) (blkB t) (41 + j) with ⟨x, hx, h1, h2⟩ | ⟨_, h2⟩
   ·rw [h2, ← hJ.2 x hx]
    congr 1
    omega
   ·rw [h2]; exact hh j (by omega)
  ·rw [hO]
   exact hh j (by omega)
 ·rw [q1] at hx
  obtain ⟨⟨hb, _⟩, h41⟩ := openL_there hft (by omega) x hx
  simp only [hasBlock, decide_eq_true_eq] at hb
  rw [o5 x.at_.toNat (by omega)]
  rcases hO with hO | hO
  ·rw [hO] at hx ⊢
   rcases putL_cases (openL s) (blkB t) x.at_.toNat with ⟨y, hy, h1, h2⟩ | ⟨h1, _⟩
   ·rw [h2, ← hJ.2 y hy, ← hJ.2 x hx]
    congr 1
    omega
   ·exact absurd (show x.at_ = ((x.at_.toNat : Nat) : Int) by omega) (h1 x hx)
  ·rw [hO] at hx
   cases hx
theorem open_new {s t : St} {n : Nat} {l : List Bk} (hr : RightL l ((s.firm.length : Int) - 41)) (hfew : s.firm.length ≤ 1024) (hn : n + 1 < 4294967296) (hlen : t.firm.length = s.firm.length) (ht : Live t) (hft : Fine t)
  (h0 : blkB t 0 = markL (n + 1) l.length) (hc : ∀ i (hi : i < l.length), blkB t (1 + i) = homeL (n + 1) l[i]) (hh : ∀ j, 41 + j < s.firm.length → (∀ x ∈ l, x.at_ ≠ (j : Int)) → blkB t (41 + j) = blkB s (41 + j)) :
  openErr t = 0 ∧ dataS (openSt t) = afterL (dataS s) l ∧ openL t = homesOf (n + 1) l ∧ openN t = n + 1 ∧ (∀ j, 41 + j < s.firm.length → ∀ x ∈ l, x.at_ = (j : Int) → blkB (openSt t) (41 + j) = homeL (n + 1) x) ∧ Jok (openSt t) (n + 1) := by
 have hN := right_size hr
 have h40 := hr.2.1
 obtain ⟨o1, _, o3, _, o5⟩ := openSt_live hft ht (by omega)
 obtain ⟨m1, m2⟩ := markL_num (n + 1) l.length hn (by omega)
 have hnum : ∀ i (hi : i < l.length), num4 (homeL (n + 1) l[i]) 0 = 41 + l[i].at_.toNat ∧ num4 (homeL (n + 1) l[i]) 4 = n + 1 := fun i hi => by
  have := (right_all hr l[i] (List.getElem_mem hi)).1
  exact homeL_num (n + 1) l[i] hn (by omega)
 have hO : openL t = homesOf (n + 1) l := by
  unfold openL
  rw [h0, m1, m2]
  have hR : Redoes t (n + 1) l.length := ⟨h40, fun i hi => by
   have := (right_all hr l[i] (List.getElem_mem hi)).1
   unfold CopyOk
   rw [hc i hi, (hnum i hi).1, (hnum i hi).2, hlen]
   exact ⟨by omega, by omega, rfl⟩⟩
  rw [redoL, if_pos hR]
  unfold redoHomes homesOf
  apply List.ext_getElem (by simp)
  intro i h1 h2
  have hi : i < l.length := by simpa using h2
  have hat := (right_all hr l[i] (List.getElem_mem hi)).1
  simp only [List.getElem_map, List.getElem_range]
  rw [hc i hi, (hnum i hi).1]
  congr 1
  omega
 have hput : ∀ j, 41 + j < s.firm.length → ∀ x ∈ l, x.at_ = (j : Int) → blkB (openSt t) (41 + j) = homeL (n + 1) x := fun j hj x hx hxj => by
  rw [o5 (41 + j) (by omega), hO]
  rcases putL_cases (homesOf (n + 1) l) (blkB t) (41 + j) with ⟨y, hy, h1, h2⟩ | ⟨h1, _⟩
  ·obtain ⟨z, hz, rfl⟩ := homes_at hy
   simp only at h1
   have := right_inj hr hz hx (by omega)
   subst this
   exact h2
  ·exfalso
   refine h1 ⟨41 + x.at_, homeL (n + 1) x⟩ ?_ (by simp only; omega)
   exact List.mem_map.2 ⟨x, hx, rfl⟩
 have hjr := open_journal hft ht (by omega)
 obtain ⟨q1, _⟩ := openL_congr (s := openSt t) (t := t) o3 hjr
 have hJn : Jok (openSt t) (n + 1) := by
  refine ⟨by rw [hjr 0 (by omega), h0]; exact m1, fun y hy => ?_⟩
  rw [q1, hO] at hy
  obtain ⟨z, hz, rfl⟩ := homes_at hy
  have hz0 := (right_all hr z hz).1
  have := hput z.at_.toNat (by omega) z hz (by omega)
  rw [show (41 + z.at_).toNat = 41 + z.at_.toNat by omega]
  exact this
 refine ⟨o1, ?_, hO, by rw [openN, h0]; exact m1, hput, hJn⟩
 apply List.ext_getElem?
 intro j
 by_cases hj : j < s.firm.length - 41
 ·rw [dataS_get _ j (by omega)]
  rcases afterL_cases l (dataS s) j (by rw [dataS_length]; exact hj) with ⟨x, hx, h1, h2⟩ | ⟨h1, h2⟩
  ·rw [h2]
   have hx0 := (right_all hr x hx).1
   rw [hput j (by omega) x hx (by omega), homeL_data _ _ (right_all hr x hx).2]
   rfl
  ·have hne : ∀ x ∈ l, x.at_ ≠ (j : Int) := fun x hx => by
    have := h1 x hx
    have := (right_all hr x hx).1
    omega
   rw [h2, dataS_get _ j hj, o5 (41 + j) (by omega), hO, putL_none _ _ (41 + j) (fun y hy => by
    obtain ⟨z, hz, rfl⟩ := homes_at hy
    have := hne z hz
    simp only
    omega), hh j (by omega) hne]
 ·rw [List.getElem?_eq_none (by rw [dataS_length]; omega), List.getElem?_eq_none (by rw [afterL_length, dataS_length]; omega)]
theorem put_copies {n : Nat} {l : List Bk} (v : Nat → List UInt8) {i : Nat} (hi : i < l.length) : putL v (copiesOf (homesOf n l)) (1 + i) = homeL n l[i] := by
 rcases putL_cases (copiesOf (homesOf n l)) v (1 + i) with ⟨x, hx, h1, h2⟩ | ⟨h1, _⟩
 ·obtain ⟨j, hj, rfl⟩ := copies_at hx
  rw [h2]
  simp only at h1
  obtain rfl : j = i := by omega
  simp [homesOf]
 ·exfalso
  refine h1 ⟨(1 + i : Nat), (homesOf n l)[i]'(by rw [homesOf_length]; exact hi) |>.data⟩ ?_ rfl
  simp only [copiesOf, List.mem_mapIdx]
  exact ⟨i, by rw [homesOf_length]; exact hi, rfl⟩
theorem copies_low {n : Nat} {l : List Bk} {x : Bk} (hx : x ∈ copiesOf (homesOf n l)) : ∃ i, ∃ hi : i < l.length, x.at_ = ((1 + i : Nat) : Int) ∧ x.data = homeL n l[i] := by
 obtain ⟨i, hi, rfl⟩ := copies_at hx
 rw [homesOf_length] at hi
 exact ⟨i, hi, rfl, by simp [homesOf]⟩
theorem commit_crash {s : St} {n : Nat} {l : List Bk} (hlate : s.late = []) (hr : RightL l ((s.firm.length : Int) - 41)) (hfew : s.firm.length ≤ 1024) (hn : n + 1 < 4294967296) (hJ : Jok s n) (keep : Nat) (hft : Fine (crashed (commitW s n l).2 keep)) :
  openErr (crashed (commitW s n l).2 keep) = 0 ∧ ((dataS (openSt (crashed (commitW s n l).2 keep)) = afterL (dataS s) l ∧ openN (crashed (commitW s n l).2 keep) = n + 1 ∧ Jok (openSt (crashed (commitW s n l).2 keep)) (n + 1)) ∨
   ((commitW s n l).1 = 5 ∧ dataS (openSt (crashed (commitW s n l).2 keep)) = dataS s ∧ openN (crashed (commitW s n l).2 keep) = n ∧ Jok (openSt (crashed (commitW s n l).2 keep)) n)) := by
 have hN := right_size hr
 have h40 := hr.2.1
 have hl1 := hr.1
 have hnum : ∀ i (hi : i < l.length), num4 (homeL (n + 1) l[i]) 4 = n + 1 := fun i hi => by
  have := (right_all hr l[i] (List.getElem_mem hi)).1
  exact (homeL_num (n + 1) l[i] hn (by omega)).2
 rcases settleW_any (copiesOf (homesOf (n + 1) l)) s (there_copies hr) with ⟨a1, a2, a3, a4⟩ | ⟨a1, a2, a3⟩
 case inr =>
  generalize hq : settleW s (copiesOf (homesOf (n + 1) l)) = q at *
  obtain ⟨x, s1⟩ := q
  simp only at a1 a2 a3
  subst a1
  rw [commitW_1 hq (by decide)] at hft ⊢
  simp only at hft ⊢
  have hlen : (crashed s1 keep).firm.length = s.firm.length := by rw [crash_len, a2]
  have hb : ∀ k, k < s.firm.length → blkB (crashed s1 keep) k = blkB s k ∨ ∃ i, ∃ hi : i < l.length, k = 1 + i ∧ blkB (crashed s1 keep) k = homeL (n + 1) l[i] := fun k hk => by
   rcases crash_blk s1 keep k (by rw [a2]; exact hk) with h | ⟨y, hy, hyk, h⟩
   ·left; rw [h, a2, blkB_noLate hlate]
   ·rcases a3 y hy with h' | ⟨x, hx, rfl⟩
    ·rw [hlate] at h'; cases h'
    ·obtain ⟨i, hi, e1, e2⟩ := copies_low hx
     simp only at hyk h
     exact .inr ⟨i, hi, by omega, by rw [h, e2]⟩
  obtain ⟨r1, r2⟩ := open_old hN hlen (crash_live _ _) hft hJ ((hb 0 (by omega)).resolve_right fun ⟨i, _, e, _⟩ => by omega)
   (fun j hj => (hb (41 + j) hj).resolve_right fun ⟨i, _, e, _⟩ => by omega)
   (fun i hi => (hb (1 + i) (by omega)).imp id fun ⟨i', hi', e, h⟩ => by rw [h]; exact hnum i' hi')
  exact ⟨r1, .inr ⟨trivial, r2⟩⟩
 generalize hq : settleW s (copiesOf (homesOf (n + 1) l)) = q at *
 obtain ⟨x, s1⟩ := q
 simp only at a1 a2 a3 a4
 subst a1
 have hlen1 : s1.firm.length = s.firm.length := by have := settleW_firm_len (copiesOf (homesOf (n + 1) l)) s; rw [hq] at this; exact this
 have c0 : blkB s1 0 = blkB s 0 := by
  rw [a4 0 (by omega), putL_none _ _ 0 fun x hx => by
   obtain ⟨i, _, e, _⟩ := copies_low hx
   omega]
 have c1 : ∀ i (hi : i < l.length), blkB s1 (1 + i) = homeL (n + 1) l[i] := fun i hi => by rw [a4 (1 + i) (by omega)]; exact put_copies _ hi
 have c2 : ∀ k, k < s.firm.length → (∀ i, i < l.length → k ≠ 1 + i) → blkB s1 k = blkB s k := fun k hk hne => by
  rw [a4 k hk, putL_none _ _ k fun x hx => by
   obtain ⟨i, hi, e, _⟩ := copies_low hx
   have := hne i hi
   omega]
 rcases settleW_any [⟨0, markL (n + 1) l.length⟩] s1 (by rw [hlen1]; exact there_mark hN) with ⟨b1, b2, b3, b4⟩ | ⟨b1, b2, b3⟩
 case inr =>
  generalize hq2 : settleW s1 [⟨0, markL (n + 1) l.length⟩] = q2 at *
  obtain ⟨x2, s2⟩ := q2
  simp only at b1 b2 b3
  subst b1
  rw [commitW_2 hq hq2 (by decide)] at hft ⊢
  simp only at hft ⊢
  have hlen : (crashed s2 keep).firm.length = s.firm.length := by rw [crash_len, b2, hlen1]
  have hb : ∀ k, k < s.firm.length → blkB (crashed s2 keep) k = blkB s1 k ∨ (k = 0 ∧ blkB (crashed s2 keep) k = markL (n + 1) l.length) := fun k hk => by
   rcases crash_blk s2 keep k (by rw [b2, hlen1]; exact hk) with h | ⟨y, hy, hyk, h⟩
   ·left; rw [h, b2, blkB_noLate a3]
   ·rcases b3 y hy with h' | ⟨x, hx, rfl⟩
    ·rw [a3] at h'; cases h'
    ·simp only [List.mem_singleton] at hx
     subst hx
     simp only at hyk h
     exact .inr ⟨by simpa using hyk.symm, h⟩
  have hb1 : ∀ k, k < s.firm.length → k ≠ 0 → blkB (crashed s2 keep) k = blkB s1 k := fun k hk hk0 => (hb k hk).resolve_right fun h => hk0 h.1
  rcases hb 0 (by omega) with h | ⟨_, h⟩
  ·obtain ⟨r1, r2⟩ := open_old hN hlen (crash_live _ _) hft hJ (h.trans c0)
    (fun j hj => (hb1 (41 + j) hj (by omega)).trans (c2 _ hj fun i hi => by omega))
    (fun i hi => by
     rw [hb1 (1 + i) (by omega) (by omega)]
     by_cases hil : i < l.length
     ·right; rw [c1 i hil]; exact hnum i hil
     ·left; exact c2 _ (by omega) fun i' hi' => by omega)
   exact ⟨r1, .inr ⟨trivial, r2⟩⟩
  ·obtain ⟨r1, r2, _, r3, _, r4⟩ := open_new hr hfew hn hlen (crash_live _ _) hft h (fun i hi => (hb1 (1 + i) (by omega) (by omega)).trans (c1 i hi))
    (fun j hj _ => (hb1 (41 + j) hj (by omega)).trans (c2 _ hj fun i hi => by omega))
   exact ⟨r1, .inl ⟨r2, r3, r4⟩⟩
 generalize hq2 : settleW s1 [⟨0, markL (n + 1) l.length⟩] = q2 at *
 obtain ⟨x2, s2⟩ := q2
 simp only at b1 b2 b3 b4
 subst b1
 have hlen2 : s2.firm.length = s.firm.length := by have := settleW_firm_len [⟨0, markL (n + 1) l.length⟩] s1; rw [hq2] at this; exact this.trans hlen1
 have d0 : blkB s2 0 = markL (n + 1) l.length := by rw [b4 0 (by omega)]; rfl
 have d1 : ∀ k, k < s.firm.length → k ≠ 0 → blkB s2 k = blkB s1 k := fun k hk hk0 => by
  rw [b4 k (by omega), putL_none _ _ k fun x hx => by
   simp only [List.mem_singleton] at hx
   subst hx
   simp only
   omega]
 rw [commitW_3 hq hq2] at hft ⊢
 have hkey : ∀ t : St, t.firm.length = s.firm.length → Live t → Fine t → (∀ k, k < s.firm.length → blkB t k = blkB s2 k ∨ ∃ x ∈ l, (k : Int) = 41 + x.at_) → openErr t = 0 ∧ dataS (openSt t) = afterL (dataS s) l ∧ openN t = n + 1 ∧ Jok (openSt t) (n + 1) := fun t hlen ht hft hb => by
  have hat : ∀ x ∈ l, 0 ≤ x.at_ := fun x hx => (right_all hr x hx).1.1
  obtain ⟨r1, r2, _, r3, _, r4⟩ := open_new hr hfew hn hlen ht hft
   (((hb 0 (by omega)).resolve_right fun ⟨x, hx, e⟩ => by have := hat x hx; omega).trans d0)
   (fun i hi => ((hb (1 + i) (by omega)).resolve_right fun ⟨x, hx, e⟩ => by have := hat x hx; omega).trans ((d1 _ (by omega) (by omega)).trans (c1 i hi)))
   (fun j hj hne => ((hb (41 + j) hj).resolve_right fun ⟨x, hx, e⟩ => hne x hx (by omega)).trans ((d1 _ hj (by omega)).trans (c2 _ hj fun i hi => by omega)))
  exact ⟨r1, r2, r3, r4⟩
 rcases settleW_any (homesOf (n + 1) l) s2 (by rw [hlen2]; exact there_homes hr) with ⟨e1, _, e3, e4⟩ | ⟨e1, e2, e3⟩
 ·obtain ⟨r1, r2⟩ := hkey (crashed (settleW s2 (homesOf (n + 1) l)).2 keep) (by rw [crash_len, settleW_firm_len, hlen2]) (crash_live _ _) hft (fun k hk => by
   rw [crash_settled e3, e4 k (by omega)]
   rcases putL_cases (homesOf (n + 1) l) (blkB s2) k with ⟨y, hy, h1, _⟩ | ⟨_, h2⟩
   ·obtain ⟨z, hz, rfl⟩ := homes_at hy
    exact .inr ⟨z, hz, h1.symm⟩
   ·exact .inl h2)
  exact ⟨r1, .inl r2⟩
 ·obtain ⟨r1, r2⟩ := hkey (crashed (settleW s2 (homesOf (n + 1) l)).2 keep) (by rw [crash_len, settleW_firm_len, hlen2]) (crash_live _ _) hft (fun k hk => by
   rcases crash_blk (settleW s2 (homesOf (n + 1) l)).2 keep k (by rw [e2, hlen2]; exact hk) with h | ⟨y, hy, hyk, h⟩
   ·left; rw [h, e2, blkB_noLate b3]
   ·rcases e3 y hy with h' | ⟨x, hx, rfl⟩
    ·rw [b3] at h'; cases h'
    ·obtain ⟨z, hz, rfl⟩ := homes_at hx
     have := (right_all hr z hz).1
     simp only at hyk
     exact .inr ⟨z, hz, by omega⟩)
  exact ⟨r1, .inl r2⟩
end Go.Proofs.YtmelaiefbpdifaaGreatDoor
namespace Go.Proofs.YtmelaiefbpdifaaGreatDoor.Srv
open Go.RowKit Go.Maps
theorem jok_congr {s t : St} (hl : s.firm.length = t.firm.length) (hb : ∀ k, blkB s k = blkB t k) {n : Nat} (h : Jok s n) : Jok t n := by
 obtain ⟨e1, _⟩ := openL_congr hl (fun k _ => hb k)
 refine ⟨by rw [← hb]; exact h.1, fun x hx => ?_⟩
 rw [← e1] at hx
 rw [← hb]
 exact h.2 x hx
structure Sett (N : Nat) (M : List Rw) (s : St) (n : Nat) : Prop where
 len : s.firm.length = 41 + N
 late : s.late = []
 lays : Lays (dataS s) M
 jok : Jok s n
def twin (s : St) : St := { s with fuse := -1, dead := false }
theorem twin_live (s : St) : Live (twin s) := ⟨rfl, by show (-1 : Int) < 0; decide⟩
theorem blk_out {s : St} (hl : s.late = []) {k : Nat} (hk : s.firm.length ≤ k) : blkB s k = [] := by
 rw [blkB_noLate hl, List.getD_eq_getElem?_getD, List.getElem?_eq_none hk]
 rfl
theorem commit_twin {s : St} {n : Nat} {l : List Bk} (hr : RightL l ((s.firm.length : Int) - 41)) (h0 : (commitW s n l).1 = 0) :
  (commitW s n l).2.late = [] ∧ (commitW s n l).2.firm.length = s.firm.length ∧ ∀ k, blkB (commitW s n l).2 k = blkB (commitW (twin s) n l).2 k := by
 have hN := right_size hr
 obtain ⟨_, _, t3, t4, t5⟩ := commitW_live (n := n) (twin_live s) hr
 suffices hs : (commitW s n l).2.late = [] ∧ (commitW s n l).2.firm.length = s.firm.length ∧ ∀ k, k < s.firm.length → blkB (commitW s n l).2 k = blkB (commitW (twin s) n l).2 k by
  refine ⟨hs.1, hs.2.1, fun k => ?_⟩
  by_cases hk : k < s.firm.length
  ·exact hs.2.2 k hk
  ·rw [blk_out hs.1 (by rw [hs.2.1]; omega), blk_out t3 (by rw [t4]; show s.firm.length ≤ k; omega)]
 replace t5 : ∀ k, k < s.firm.length → blkB (commitW (twin s) n l).2 k = putL (putL (putL (blkB s) (copiesOf (homesOf (n + 1) l))) [⟨0, markL (n + 1) l.length⟩]) (homesOf (n + 1) l) k := t5
 rcases settleW_any (copiesOf (homesOf (n + 1) l)) s (there_copies hr) with ⟨a1, a2, a3, a4⟩ | ⟨a1, _, _⟩
 case inr =>
  exfalso
  generalize hq : settleW s (copiesOf (homesOf (n + 1) l)) = q at *
  obtain ⟨x, s1⟩ := q
  simp only at a1
  subst a1
  rw [commitW_1 hq (by decide)] at h0
  simp only at h0
  omega
 have a5 := settleW_firm_len (copiesOf (homesOf (n + 1) l)) s
 generalize hq : settleW s (copiesOf (homesOf (n + 1) l)) = q at *
 obtain ⟨x, s1⟩ := q
 simp only at a1 a2 a3 a4 a5
 subst a1
 rcases settleW_any [⟨0, markL (n + 1) l.length⟩] s1 (by rw [a5]; exact there_mark hN) with ⟨b1, b2, b3, b4⟩ | ⟨b1, _, _⟩
 case inr =>
  exfalso
  generalize hq2 : settleW s1 [⟨0, markL (n + 1) l.length⟩] = q2 at *
  obtain ⟨x2, s2⟩ := q2
  simp only at b1
  subst b1
  rw [commitW_2 hq hq2 (by decide)] at h0
  simp only at h0
  omega
 have b5 := settleW_firm_len [⟨0, markL (n + 1) l.length⟩] s1
 generalize hq2 : settleW s1 [⟨0, markL (n + 1) l.length⟩] = q2 at *
 obtain ⟨x2, s2⟩ := q2
 simp only at b1 b2 b3 b4 b5
 subst b1
 rw [commitW_3 hq hq2] at h0 ⊢
 rcases settleW_any (homesOf (n + 1) l) s2 (by rw [b5, a5]; exact there_homes hr) with ⟨_, _, c3, c4⟩ | ⟨c1, _, _⟩
 ·have c5 := settleW_firm_len (homesOf (n + 1) l) s2
  refine ⟨c3, by omega, fun k hk => ?_⟩
  rw [t5 k hk, c4 k (by omega)]
  refine putL_congr _ _ _ k ?_
  rw [b4 k (by omega)]
  exact putL_congr _ _ _ k (a4 k hk)
 ·rw [c1] at h0
  exact absurd h0 (by decide)
section
variable {N n n' : Nat} {M M' : List Rw} {s s' : St} {l : List Ch} {x : Int} {f' : Bool}
theorem commits_ways (hlen : s.firm.length = 41 + N) (hM : Good N M) (hn : n + 1 < 4294967295) (h : Commits5 N M s n false l x M' s' n' f') :
  (Puts N M l x M' ∧ M' = M ∧ s' = s ∧ n' = n ∧ f' = false ∧ x ≠ 5) ∨
  (FitL l ∧ growthL M (newsL M l) ≤ (N : Int) - (M.length : Int) ∧ ∃ ss, Does N M (newsL M l) ss ∧ RightL (ss.map bkOf) ((s.firm.length : Int) - 41) ∧ x = (commitW s n (ss.map bkOf)).1 ∧ s' = (commitW s n (ss.map bkOf)).2 ∧ M' = (if x = 0 then applyL M (newsL M l) ss else M) ∧
   ((x = 0 ∧ n' = n + 1 ∧ f' = false) ∨ (x = 5 ∧ n' = n ∧ f' = true))) := by
 rcases h with ⟨h1, rfl, rfl, rfl, rfl, rfl⟩ | ⟨h1, h2, rfl, rfl, rfl, rfl, rfl⟩ | ⟨h1, h2, h3, rfl, rfl, rfl, rfl, rfl⟩ | ⟨h1, h2, h3, ss, hd, _, hc, hM'⟩
 ·exact .inl ⟨.inl ⟨h1, rfl, rfl⟩, rfl, rfl, rfl, rfl, by decide⟩
 ·exact .inl ⟨.inr (.inl ⟨h1, h2, rfl, rfl⟩), rfl, rfl, rfl, rfl, by decide⟩
 ·refine .inl ⟨.inr (.inr ⟨h1, h2, rfl, hM, fun k => ?_⟩), rfl, rfl, rfl, rfl, by decide⟩
  have := after_applied (ss := []) hM (fits_of h1) (by rw [h3]; exact does_nil _ _) k
  rw [h3] at this
  exact this
 ·have hrg : (s.firm.length : Int) - 41 = (N : Int) := by omega
  have hr : RightL (ss.map bkOf) ((s.firm.length : Int) - 41) := by rw [hrg]; exact right_blocks (fits_of h1).news hd h3
  rcases hc with ⟨hx, hR, _⟩ | ⟨_, hx, hs, hrest⟩
  ·exfalso
   rcases hR with ⟨q1, _⟩ | ⟨_, q1, _⟩ | ⟨_, _, q1, _⟩ | ⟨_, _, _, q1⟩
   ·exact q1 hr
   ·cases q1
   ·omega
   ·exact hx q1
  ·exact .inr ⟨h1, h2, ss, hd, hr, hx, hs, hM', hrest⟩
theorem Sett.commit (h : Sett N M s n) (hM : Good N M) (hf' : Fine s') (hn : n + 1 < 4294967295) (hc : Commits5 N M s n false l x M' s' n' f') (hx : x ≠ 5) :
  Sett N M' s' n' ∧ f' = false ∧ Puts N M l x M' ∧ n' ≤ n + 1 := by
 rcases commits_ways h.len hM hn hc with ⟨h1, rfl, rfl, rfl, rfl, _⟩ | ⟨h1, h2, ss, hd, hr, h0, rfl, hM', ⟨rfl, rfl, rfl⟩ | ⟨h5, _⟩⟩
 ·exact ⟨h, rfl, h1, Nat.le_succ _⟩
 ·rw [if_pos rfl] at hM'
  subst hM'
  obtain ⟨q1, q2, q3⟩ := commit_twin hr h0.symm
  have hlt := twin_live s
  obtain ⟨_, _, _, u4, _⟩ := commitW_live (n := n) hlt hr
  have hfew : s.firm.length ≤ 1024 := by have := hf'.few; omega
  have hda : dataS (commitW s n (ss.map bkOf)).2 = afterL (dataS s) (ss.map bkOf) := by
   rw [dataS_congr (t := (commitW (twin s) n (ss.map bkOf)).2) (by rw [q2, u4]; rfl) (fun k _ => q3 k)]
   exact dataS_commit hlt hr
  have hla := lays_apply hM (fits_of h1).news news_gone hd h.lays
  have h40 := hr.2.1
  have hb := fun k => crash_settled q1 0 k
  obtain ⟨_, _, o3, _, _, _⟩ := open_new (s := s) (n := n) (t := crashed (commitW s n (ss.map bkOf)).2 0) hr hfew (by omega) ((crash_len _ _).trans q2) (crash_live _ _) (hf'.crashed 0)
   (by rw [hb, q3]; exact commit_mark hlt hr) (fun i hi => by rw [hb, q3]; exact commit_copy hlt hr hi) (fun j hj hne => by rw [hb, q3]; exact commit_else hlt hr hj hne)
  obtain ⟨e1, _⟩ := openL_congr (s := crashed (commitW s n (ss.map bkOf)).2 0) (t := (commitW s n (ss.map bkOf)).2) (crash_len _ _) (fun k _ => hb k)
  refine ⟨⟨q2.trans h.len, q1, by rw [hda]; exact hla, ?_, fun y hy => ?_⟩, rfl, .inr (.inr ⟨h1, h2, rfl, good_apply hM (fits_of h1).news news_gone hd, fun k => after_applied hM (fits_of h1) hd k⟩), Nat.le_refl _⟩
  ·rw [q3, commit_mark hlt hr]
   exact (markL_num (n + 1) (ss.map bkOf).length (by omega) (by omega)).1
  ·rw [← e1, o3] at hy
   obtain ⟨z, hz, rfl⟩ := homes_at hy
   have hz0 := (right_all hr z hz).1
   rw [show (41 + z.at_).toNat = 41 + z.at_.toNat by omega, q3]
   exact commit_home hlt hr hz
 ·exact absurd h5 hx
theorem commits_flag (hlen : s.firm.length = 41 + N) (hM : Good N M) (hn : n + 1 < 4294967295) (hc : Commits5 N M s n false l x M' s' n' f') : (f' = true ↔ x = 5) ∧ (x = 5 → M' = M ∧ n' = n) := by
 rcases commits_ways hlen hM hn hc with ⟨_, _, _, _, hf, h⟩ | ⟨_, _, _, _, _, _, _, hM', ⟨hx, _, hf⟩ | ⟨hx, hn', hf⟩⟩
 ·exact ⟨⟨fun hh => (by rw [hf] at hh; cases hh), fun hh => absurd hh h⟩, fun hh => absurd hh h⟩
 ·exact ⟨⟨fun hh => (by rw [hf] at hh; cases hh), fun hh => (by omega)⟩, fun hh => (by omega)⟩
 ·refine ⟨⟨fun _ => hx, fun _ => hf⟩, fun _ => ⟨?_, hn'⟩⟩
  rw [hM', if_neg (by omega)]
def Opn (N : Nat) (s : St) (b : Nat) (P : List Rw → Prop) : Prop :=
 s.firm.length = 41 + N ∧ ∀ keep, openErr (crashed s keep) = 0 ∧ openN (crashed s keep) ≤ b ∧ ∃ Mo, Good N Mo ∧ P Mo ∧ Sett N Mo (openSt (crashed s keep)) (openN (crashed s keep))
theorem Opn.mono {P : List Rw → Prop} {b c : Nat} (h : Opn N s b P) (hb : b ≤ c) : Opn N s c P := by
 refine ⟨h.1, fun keep => ?_⟩
 obtain ⟨h1, h2, h3⟩ := h.2 keep
 exact ⟨h1, by omega, h3⟩
theorem open_len {t : St} (hft : Fine t) (ht : Live t) (hN : 42 ≤ t.firm.length) (hl : t.late = []) : (openSt t).firm.length = t.firm.length ∧ (openSt t).late = [] := by
 obtain ⟨_, _, o3, o4, _⟩ := openSt_live hft ht hN
 rw [hl] at o4
 exact ⟨o3, List.length_eq_zero_iff.1 (Nat.le_zero.1 o4)⟩
theorem Sett.opn (h : Sett N M s n) (hN : 1 ≤ N) (hf : Fine s) (hM : Good N M) : Opn N s n fun Mo => Mo = M := by
 refine ⟨h.len, fun keep => ?_⟩
 have hft := hf.crashed keep
 have hl := crash_len s keep
 have h42 : 42 ≤ s.firm.length := by have := h.len; omega
 have hb := fun k => crash_settled h.late keep k
 obtain ⟨r1, r2, r3, r4⟩ := open_old h42 hl (crash_live _ _) hft h.jok (hb 0) (fun j _ => hb _) (fun i _ => .inl (hb _))
 obtain ⟨r5, r6⟩ := open_len hft (crash_live _ _) (by omega) rfl
 exact ⟨r1, by omega, M, hM, rfl, by rw [r5, hl]; exact h.len, r6, by rw [r2]; exact h.lays, by rw [r3]; exact r4⟩
theorem Sett.torn (h : Sett N M s n) (hM : Good N M) (hf' : Fine s') (hn : n + 1 < 4294967295) (hc : Commits5 N M s n false l x M' s' n' f') (hx : x = 5) :
  Opn N s' (n + 1) fun Mo => Mo = M ∨ Puts N M l 0 Mo := by
 rcases commits_ways h.len hM hn hc with ⟨_, _, _, _, _, h5⟩ | ⟨h1, h2, ss, hd, hr, _, rfl, _, _⟩
 ·exact absurd hx h5
 ·have hl2 := commitW_len s n (ss.map bkOf)
  have hfew : s.firm.length ≤ 1024 := by have := hf'.few; omega
  refine ⟨by rw [hl2]; exact h.len, fun keep => ?_⟩
  have hft := hf'.crashed keep
  have hl := crash_len (commitW s n (ss.map bkOf)).2 keep
  have h42 : 42 ≤ s.firm.length := right_size hr
  obtain ⟨r1, r2⟩ := commit_crash h.late hr hfew (by omega) h.jok keep hft
  obtain ⟨r5, r6⟩ := open_len hft (crash_live _ _) (by omega) rfl
  have r7 : (openSt (crashed (commitW s n (ss.map bkOf)).2 keep)).firm.length = 41 + N := by rw [r5, hl, hl2]; exact h.len
  rcases r2 with ⟨g1, g2, g3⟩ | ⟨_, g1, g2, g3⟩
  ·have hg := good_apply hM (fits_of h1).news news_gone hd
   exact ⟨r1, by omega, _, hg, .inr (.inr (.inr ⟨h1, h2, rfl, hg, fun k => after_applied hM (fits_of h1) hd k⟩)), r7, r6, by rw [g1]; exact lays_apply hM (fits_of h1).news news_gone hd h.lays, by rw [g2]; exact g3⟩
  ·exact ⟨r1, by omega, M, hM, .inl rfl, r7, r6, by rw [g1]; exact h.lays, by rw [g2]; exact g3⟩
end
end Go.Proofs.YtmelaiefbpdifaaGreatDoor.Srv
