/- A commit that dies: what is opened behind a crash. -/
import Derived.Test.YthpjkhmkjhgbkaaGreatDoorLay5
namespace Go.Proofs.YthpjkhmkjhgbkaaGreatDoor
open Go.RowKit Go.Maps

theorem blkB_congr {s t : St} (hf : t.firm = s.firm) (hl : t.late = s.late) (k : Nat) : blkB t k = blkB s k := by
  unfold blkB
  rw [hf, hl]
theorem blkB_noLate {s : St} (hl : s.late = []) (k : Nat) : blkB s k = s.firm.getD k [] := by
  unfold blkB
  rw [hl]
  rfl
theorem burnt_dead {s : St} (h : burns s = true) : (burnt s).dead = s.dead := by unfold burnt; rw [if_pos h]
theorem dead_burns {s : St} (h : burns s = true) : s.dead = false := by
  unfold burns at h
  cases hd : s.dead with
  | false => rfl
  | true => rw [hd] at h; simp at h

/-- What settled writes leave, wherever the device dies. -/
theorem settleW_any : ∀ (L : List Bk) (s : St), (∀ x ∈ L, There s.firm.length x) →
    ((settleW s L).1 = 0 ∧ (settleW s L).2.dead = false ∧ (settleW s L).2.late = [] ∧ ∀ k, k < s.firm.length → blkB (settleW s L).2 k = putL (blkB s) L k) ∨
    ((settleW s L).1 = 5 ∧ (settleW s L).2.firm = s.firm ∧ ∀ y ∈ (settleW s L).2.late, y ∈ s.late ∨ ∃ x ∈ L, y = (x.at_.toNat, x.data))
  | [], s, _ => by
    cases hb : burns s with
    | true =>
      left
      have e1 : settleW s [] = (0, settledAll (burnt s) 18446744073709551615) := by rw [settleW, barErr, barred, hb]; rfl
      rw [e1]
      refine ⟨rfl, (burnt_dead hb).trans (dead_burns hb), rfl, fun k hk => ?_⟩
      show blkB (settledAll (burnt s) _) k = blkB s k
      unfold blkB
      simp only [settledAll, nowOf_nil, burnt_firm, burnt_late]
      have := settle_all s.firm k _ (getD_get hk ([] : List UInt8)) s.late
      rw [List.getD_eq_getElem?_getD, this]
      rfl
    | false =>
      right
      have e1 : settleW s [] = (5, burnt s) := by rw [settleW, barErr, barred, hb]; rfl
      rw [e1]
      exact ⟨rfl, burnt_firm s, fun y hy => .inl (by simpa [burnt_late] using hy)⟩
  | x :: r, s, h => by
    obtain ⟨h1, h2⟩ := h x (by simp)
    have hx : (hasBlock s.firm.length x.at_ && decide (x.data.length = 256)) = true := by simp [h1, h2]
    have h0 : 0 ≤ x.at_ := by simp only [hasBlock, decide_eq_true_eq] at h1; exact h1.1
    cases hb : burns s with
    | false =>
      right
      have e1 : settleW s (x :: r) = (5, burnt s) := by
        rw [settleW, writeErr, written, hx, hb]
        rfl
      rw [e1]
      exact ⟨rfl, burnt_firm s, fun y hy => .inl (by simpa [burnt_late] using hy)⟩
    | true =>
      obtain ⟨t, ht⟩ : ∃ t : St, t = { burnt s with late := s.late ++ [(x.at_.toNat, x.data)] } := ⟨_, rfl⟩
      have e1 : settleW s (x :: r) = settleW t r := by
        rw [settleW, writeErr, written, hx, hb, ht]
        rfl
      have hfirm : t.firm = s.firm := by rw [ht]; exact burnt_firm s
      have hlate : t.late = s.late ++ [(x.at_.toNat, x.data)] := by rw [ht]
      rw [e1]
      rcases settleW_any r t (fun y hy => by rw [hfirm]; exact h y (by simp [hy])) with ⟨a1, a2, a3, a4⟩ | ⟨a1, a2, a3⟩
      · left
        refine ⟨a1, a2, a3, fun k hk => ?_⟩
        rw [a4 k (by rw [hfirm]; exact hk), putL]
        refine putL_congr _ _ _ k ?_
        rw [← blkB_written s x h0 k]
        exact blkB_congr (s := { s with late := s.late ++ [(x.at_.toNat, x.data)] }) hfirm hlate k
      · right
        refine ⟨a1, a2.trans hfirm, fun y hy => ?_⟩
        rcases a3 y hy with h' | ⟨z, hz, rfl⟩
        · rw [hlate] at h'
          rcases List.mem_append.1 h' with h' | h'
          · exact .inl h'
          · exact .inr ⟨x, by simp, by simpa using h'⟩
        · exact .inr ⟨z, by simp [hz], rfl⟩

/-- A block behind a crash. -/
theorem crash_blk (t : St) (keep k : Nat) (hk : k < t.firm.length) : blkB (crashed t keep) k = t.firm.getD k [] ∨ ∃ y ∈ t.late, y.1 = k ∧ blkB (crashed t keep) k = y.2 := by
  have e : blkB (crashed t keep) k = (settle keep t.late t.firm).getD k [] := rfl
  rw [e]
  have hl : k < (settle keep t.late t.firm).length := by rw [settle_length]; exact hk
  have h1 := getD_get hl ([] : List UInt8)
  rcases settle_mem keep t.firm k _ t.late h1 with h | h
  · left
    rw [List.getD_eq_getElem?_getD (l := t.firm), h]
    rfl
  · exact .inr ⟨_, h, rfl, rfl⟩
theorem crash_len (t : St) (keep : Nat) : (crashed t keep).firm.length = t.firm.length := settle_length keep t.firm t.late
theorem crash_live (t : St) (keep : Nat) : Live (crashed t keep) := ⟨rfl, by show (-1 : Int) < 0; decide⟩
theorem crash_settled {t : St} (hl : t.late = []) (keep k : Nat) : blkB (crashed t keep) k = blkB t k := by
  have e : blkB (crashed t keep) k = (settle keep t.late t.firm).getD k [] := rfl
  rw [e, hl, settle_nil, blkB_noLate hl]

/-- The journal says what stands. -/
def Jok (s : St) (n : Nat) : Prop := markN (blkB s 0) = n ∧ ∀ x ∈ openL s, blkB s x.at_.toNat = x.data

theorem dataS_ext {s t : St} (hl : t.firm.length = s.firm.length) (h : ∀ j, j < s.firm.length - 41 → blkB t (41 + j) = blkB s (41 + j)) : dataS t = dataS s := by
  unfold dataS
  rw [hl]
  exact List.map_congr_left fun j hj => by rw [h j (List.mem_range.1 hj)]

/-- Ahead of the mark: what is opened has the data ahead. -/
theorem open_old {s t : St} {n : Nat} (hN : 42 ≤ s.firm.length) (hlen : t.firm.length = s.firm.length) (ht : Live t) (hft : Fine t) (hJ : Jok s n) (h0 : blkB t 0 = blkB s 0) (hh : ∀ j, 41 + j < s.firm.length → blkB t (41 + j) = blkB s (41 + j))
    (hc : ∀ i, i < 40 → blkB t (1 + i) = blkB s (1 + i) ∨ num4 (blkB t (1 + i)) 4 = n + 1) : openErr t = 0 ∧ dataS (openSt t) = dataS s := by
  obtain ⟨o1, _, o3, _, o5⟩ := openSt_live hft ht (by omega)
  refine ⟨o1, dataS_ext (o3.trans hlen) fun j hj => ?_⟩
  rw [o5 (41 + j) (by omega)]
  have hO : openL t = openL s ∨ openL t = [] := by
    unfold openL
    rw [h0, hJ.1]
    generalize markK (blkB s 0) = K
    unfold redoL
    by_cases h : Redoes t n K
    · left
      have hcp : ∀ i, i < K → blkB t (1 + i) = blkB s (1 + i) := fun i hi => by
        have := h.1
        rcases hc i (by omega) with h' | h'
        · exact h'
        · have := (h.2 i hi).2.2
          omega
      have h' : Redoes s n K := ⟨h.1, fun i hi => by
        have := h.2 i hi
        unfold CopyOk at this ⊢
        rw [hcp i hi, hlen] at this
        exact this⟩
      rw [if_pos h, if_pos h']
      unfold redoHomes
      exact List.map_congr_left fun i hi => by rw [hcp i (List.mem_range.1 hi)]
    · right
      rw [if_neg h]
  rcases hO with hO | hO
  · rw [hO]
    rcases putL_cases (openL s) (blkB t) (41 + j) with ⟨x, hx, h1, h2⟩ | ⟨_, h2⟩
    · rw [h2, ← hJ.2 x hx]
      congr 1
      omega
    · rw [h2]; exact hh j (by omega)
  · rw [hO]
    exact hh j (by omega)

/-- Behind the mark: what is opened has the data behind. -/
theorem open_new {s t : St} {n : Nat} {l : List Bk} (hr : RightL l ((s.firm.length : Int) - 41)) (hfew : s.firm.length ≤ 1024) (hn : n + 1 < 4294967296) (hlen : t.firm.length = s.firm.length) (ht : Live t) (hft : Fine t)
    (h0 : blkB t 0 = markL (n + 1) l.length) (hc : ∀ i (hi : i < l.length), blkB t (1 + i) = homeL (n + 1) l[i]) (hh : ∀ j, 41 + j < s.firm.length → (∀ x ∈ l, x.at_ ≠ (j : Int)) → blkB t (41 + j) = blkB s (41 + j)) :
    openErr t = 0 ∧ dataS (openSt t) = afterL (dataS s) l ∧ openL t = homesOf (n + 1) l ∧ openN t = n + 1 ∧ (∀ j, 41 + j < s.firm.length → ∀ x ∈ l, x.at_ = (j : Int) → blkB (openSt t) (41 + j) = homeL (n + 1) x) := by
  have hN := right_size hr
  have h40 := hr.2.1
  obtain ⟨o1, _, o3, _, o5⟩ := openSt_live hft ht (by omega)
  obtain ⟨m1, m2⟩ := markL_num (n + 1) l.length hn (by omega)
  have hnum : ∀ i (hi : i < l.length), num4 (homeL (n + 1) l[i]) 0 = 41 + l[i].at_.toNat ∧ num4 (homeL (n + 1) l[i]) 4 = n + 1 := fun i hi => by
    have := (right_all hr l[i] (List.getElem_mem hi)).1
    exact homeL_num (n + 1) l[i] hn (by omega)
  have hO : openL t = homesOf (n + 1) l := by
    unfold openL
    rw [h0, m1, m2]
    have hR : Redoes t (n + 1) l.length := ⟨h40, fun i hi => by
      have := (right_all hr l[i] (List.getElem_mem hi)).1
      unfold CopyOk
      rw [hc i hi, (hnum i hi).1, (hnum i hi).2, hlen]
      exact ⟨by omega, by omega, rfl⟩⟩
    rw [redoL, if_pos hR]
    unfold redoHomes homesOf
    apply List.ext_getElem (by simp)
    intro i h1 h2
    have hi : i < l.length := by simpa using h2
    have hat := (right_all hr l[i] (List.getElem_mem hi)).1
    simp only [List.getElem_map, List.getElem_range]
    rw [hc i hi, (hnum i hi).1]
    congr 1
    omega
  have hput : ∀ j, 41 + j < s.firm.length → ∀ x ∈ l, x.at_ = (j : Int) → blkB (openSt t) (41 + j) = homeL (n + 1) x := fun j hj x hx hxj => by
    rw [o5 (41 + j) (by omega), hO]
    rcases putL_cases (homesOf (n + 1) l) (blkB t) (41 + j) with ⟨y, hy, h1, h2⟩ | ⟨h1, _⟩
    · obtain ⟨z, hz, rfl⟩ := homes_at hy
      simp only at h1
      have := right_inj hr hz hx (by omega)
      subst this
      exact h2
    · exfalso
      refine h1 ⟨41 + x.at_, homeL (n + 1) x⟩ ?_ (by simp only; omega)
      exact List.mem_map.2 ⟨x, hx, rfl⟩
  refine ⟨o1, ?_, hO, by rw [openN, h0]; exact m1, hput⟩
  apply List.ext_getElem?
  intro j
  by_cases hj : j < s.firm.length - 41
  · rw [dataS_get _ j (by omega)]
    rcases afterL_cases l (dataS s) j (by rw [dataS_length]; exact hj) with ⟨x, hx, h1, h2⟩ | ⟨h1, h2⟩
    · rw [h2]
      have hx0 := (right_all hr x hx).1
      rw [hput j (by omega) x hx (by omega), homeL_data _ _ (right_all hr x hx).2]
      rfl
    · have hne : ∀ x ∈ l, x.at_ ≠ (j : Int) := fun x hx => by
        have := h1 x hx
        have := (right_all hr x hx).1
        omega
      rw [h2, dataS_get _ j hj, o5 (41 + j) (by omega), hO, putL_none _ _ (41 + j) (fun y hy => by
        obtain ⟨z, hz, rfl⟩ := homes_at hy
        have := hne z hz
        simp only
        omega), hh j (by omega) hne]
  · rw [List.getElem?_eq_none (by rw [dataS_length]; omega), List.getElem?_eq_none (by rw [afterL_length, dataS_length]; omega)]

/-- A journal's copies behind their writes. -/
theorem put_copies {n : Nat} {l : List Bk} (v : Nat → List UInt8) {i : Nat} (hi : i < l.length) : putL v (copiesOf (homesOf n l)) (1 + i) = homeL n l[i] := by
  rcases putL_cases (copiesOf (homesOf n l)) v (1 + i) with ⟨x, hx, h1, h2⟩ | ⟨h1, _⟩
  · obtain ⟨j, hj, rfl⟩ := copies_at hx
    rw [h2]
    simp only at h1
    obtain rfl : j = i := by omega
    simp [homesOf]
  · exfalso
    refine h1 ⟨(1 + i : Nat), (homesOf n l)[i]'(by rw [homesOf_length]; exact hi) |>.data⟩ ?_ rfl
    simp only [copiesOf, List.mem_mapIdx]
    exact ⟨i, by rw [homesOf_length]; exact hi, rfl⟩
theorem copies_low {n : Nat} {l : List Bk} {x : Bk} (hx : x ∈ copiesOf (homesOf n l)) : ∃ i, ∃ hi : i < l.length, x.at_ = ((1 + i : Nat) : Int) ∧ x.data = homeL n l[i] := by
  obtain ⟨i, hi, rfl⟩ := copies_at hx
  rw [homesOf_length] at hi
  exact ⟨i, hi, rfl, by simp [homesOf]⟩

theorem commit_crash {s : St} {n : Nat} {l : List Bk} (hlate : s.late = []) (hr : RightL l ((s.firm.length : Int) - 41)) (hfew : s.firm.length ≤ 1024) (hn : n + 1 < 4294967296) (hJ : Jok s n) (keep : Nat) (hft : Fine (crashed (commitW s n l).2 keep)) :
    openErr (crashed (commitW s n l).2 keep) = 0 ∧ (dataS (openSt (crashed (commitW s n l).2 keep)) = afterL (dataS s) l ∨ ((commitW s n l).1 = 5 ∧ dataS (openSt (crashed (commitW s n l).2 keep)) = dataS s)) := by
  have hN := right_size hr
  have h40 := hr.2.1
  have hl1 := hr.1
  have hnum : ∀ i (hi : i < l.length), num4 (homeL (n + 1) l[i]) 4 = n + 1 := fun i hi => by
    have := (right_all hr l[i] (List.getElem_mem hi)).1
    exact (homeL_num (n + 1) l[i] hn (by omega)).2
  rcases settleW_any (copiesOf (homesOf (n + 1) l)) s (there_copies hr) with ⟨a1, a2, a3, a4⟩ | ⟨a1, a2, a3⟩
  case inr =>
    -- died among the copies
    generalize hq : settleW s (copiesOf (homesOf (n + 1) l)) = q at *
    obtain ⟨x, s1⟩ := q
    simp only at a1 a2 a3
    subst a1
    rw [commitW_1 hq (by decide)] at hft ⊢
    simp only at hft ⊢
    have hlen : (crashed s1 keep).firm.length = s.firm.length := by rw [crash_len, a2]
    have hb : ∀ k, k < s.firm.length → blkB (crashed s1 keep) k = blkB s k ∨ ∃ i, ∃ hi : i < l.length, k = 1 + i ∧ blkB (crashed s1 keep) k = homeL (n + 1) l[i] := fun k hk => by
      rcases crash_blk s1 keep k (by rw [a2]; exact hk) with h | ⟨y, hy, hyk, h⟩
      · left; rw [h, a2, blkB_noLate hlate]
      · rcases a3 y hy with h' | ⟨x, hx, rfl⟩
        · rw [hlate] at h'; cases h'
        · obtain ⟨i, hi, e1, e2⟩ := copies_low hx
          simp only at hyk h
          exact .inr ⟨i, hi, by omega, by rw [h, e2]⟩
    obtain ⟨r1, r2⟩ := open_old hN hlen (crash_live _ _) hft hJ ((hb 0 (by omega)).resolve_right fun ⟨i, _, e, _⟩ => by omega)
      (fun j hj => (hb (41 + j) hj).resolve_right fun ⟨i, _, e, _⟩ => by omega)
      (fun i hi => (hb (1 + i) (by omega)).imp id fun ⟨i', hi', e, h⟩ => by rw [h]; exact hnum i' hi')
    exact ⟨r1, .inr ⟨trivial, r2⟩⟩
  generalize hq : settleW s (copiesOf (homesOf (n + 1) l)) = q at *
  obtain ⟨x, s1⟩ := q
  simp only at a1 a2 a3 a4
  subst a1
  have hlen1 : s1.firm.length = s.firm.length := by have := settleW_firm_len (copiesOf (homesOf (n + 1) l)) s; rw [hq] at this; exact this
  have c0 : blkB s1 0 = blkB s 0 := by
    rw [a4 0 (by omega), putL_none _ _ 0 fun x hx => by
      obtain ⟨i, _, e, _⟩ := copies_low hx
      omega]
  have c1 : ∀ i (hi : i < l.length), blkB s1 (1 + i) = homeL (n + 1) l[i] := fun i hi => by rw [a4 (1 + i) (by omega)]; exact put_copies _ hi
  have c2 : ∀ k, k < s.firm.length → (∀ i, i < l.length → k ≠ 1 + i) → blkB s1 k = blkB s k := fun k hk hne => by
    rw [a4 k hk, putL_none _ _ k fun x hx => by
      obtain ⟨i, hi, e, _⟩ := copies_low hx
      have := hne i hi
      omega]
  rcases settleW_any [⟨0, markL (n + 1) l.length⟩] s1 (by rw [hlen1]; exact there_mark hN) with ⟨b1, b2, b3, b4⟩ | ⟨b1, b2, b3⟩
  case inr =>
    -- died at the mark
    generalize hq2 : settleW s1 [⟨0, markL (n + 1) l.length⟩] = q2 at *
    obtain ⟨x2, s2⟩ := q2
    simp only at b1 b2 b3
    subst b1
    rw [commitW_2 hq hq2 (by decide)] at hft ⊢
    simp only at hft ⊢
    have hlen : (crashed s2 keep).firm.length = s.firm.length := by rw [crash_len, b2, hlen1]
    have hb : ∀ k, k < s.firm.length → blkB (crashed s2 keep) k = blkB s1 k ∨ (k = 0 ∧ blkB (crashed s2 keep) k = markL (n + 1) l.length) := fun k hk => by
      rcases crash_blk s2 keep k (by rw [b2, hlen1]; exact hk) with h | ⟨y, hy, hyk, h⟩
      · left; rw [h, b2, blkB_noLate a3]
      · rcases b3 y hy with h' | ⟨x, hx, rfl⟩
        · rw [a3] at h'; cases h'
        · simp only [List.mem_singleton] at hx
          subst hx
          simp only at hyk h
          exact .inr ⟨by simpa using hyk.symm, h⟩
    have hb1 : ∀ k, k < s.firm.length → k ≠ 0 → blkB (crashed s2 keep) k = blkB s1 k := fun k hk hk0 => (hb k hk).resolve_right fun h => hk0 h.1
    rcases hb 0 (by omega) with h | ⟨_, h⟩
    · obtain ⟨r1, r2⟩ := open_old hN hlen (crash_live _ _) hft hJ (h.trans c0)
        (fun j hj => (hb1 (41 + j) hj (by omega)).trans (c2 _ hj fun i hi => by omega))
        (fun i hi => by
          rw [hb1 (1 + i) (by omega) (by omega)]
          by_cases hil : i < l.length
          · right; rw [c1 i hil]; exact hnum i hil
          · left; exact c2 _ (by omega) fun i' hi' => by omega)
      exact ⟨r1, .inr ⟨trivial, r2⟩⟩
    · obtain ⟨r1, r2, _⟩ := open_new hr hfew hn hlen (crash_live _ _) hft h (fun i hi => (hb1 (1 + i) (by omega) (by omega)).trans (c1 i hi))
        (fun j hj _ => (hb1 (41 + j) hj (by omega)).trans (c2 _ hj fun i hi => by omega))
      exact ⟨r1, .inl r2⟩
  generalize hq2 : settleW s1 [⟨0, markL (n + 1) l.length⟩] = q2 at *
  obtain ⟨x2, s2⟩ := q2
  simp only at b1 b2 b3 b4
  subst b1
  have hlen2 : s2.firm.length = s.firm.length := by have := settleW_firm_len [⟨0, markL (n + 1) l.length⟩] s1; rw [hq2] at this; exact this.trans hlen1
  have d0 : blkB s2 0 = markL (n + 1) l.length := by rw [b4 0 (by omega)]; rfl
  have d1 : ∀ k, k < s.firm.length → k ≠ 0 → blkB s2 k = blkB s1 k := fun k hk hk0 => by
    rw [b4 k (by omega), putL_none _ _ k fun x hx => by
      simp only [List.mem_singleton] at hx
      subst hx
      simp only
      omega]
  rw [commitW_3 hq hq2] at hft ⊢
  have hkey : ∀ t : St, t.firm.length = s.firm.length → Live t → Fine t → (∀ k, k < s.firm.length → blkB t k = blkB s2 k ∨ ∃ x ∈ l, (k : Int) = 41 + x.at_) → openErr t = 0 ∧ dataS (openSt t) = afterL (dataS s) l := fun t hlen ht hft hb => by
    have hat : ∀ x ∈ l, 0 ≤ x.at_ := fun x hx => (right_all hr x hx).1.1
    obtain ⟨r1, r2, _⟩ := open_new hr hfew hn hlen ht hft
      (((hb 0 (by omega)).resolve_right fun ⟨x, hx, e⟩ => by have := hat x hx; omega).trans d0)
      (fun i hi => ((hb (1 + i) (by omega)).resolve_right fun ⟨x, hx, e⟩ => by have := hat x hx; omega).trans ((d1 _ (by omega) (by omega)).trans (c1 i hi)))
      (fun j hj hne => ((hb (41 + j) hj).resolve_right fun ⟨x, hx, e⟩ => hne x hx (by omega)).trans ((d1 _ hj (by omega)).trans (c2 _ hj fun i hi => by omega)))
    exact ⟨r1, r2⟩
  rcases settleW_any (homesOf (n + 1) l) s2 (by rw [hlen2]; exact there_homes hr) with ⟨e1, _, e3, e4⟩ | ⟨e1, e2, e3⟩
  · obtain ⟨r1, r2⟩ := hkey (crashed (settleW s2 (homesOf (n + 1) l)).2 keep) (by rw [crash_len, settleW_firm_len, hlen2]) (crash_live _ _) hft (fun k hk => by
      rw [crash_settled e3, e4 k (by omega)]
      rcases putL_cases (homesOf (n + 1) l) (blkB s2) k with ⟨y, hy, h1, _⟩ | ⟨_, h2⟩
      · obtain ⟨z, hz, rfl⟩ := homes_at hy
        exact .inr ⟨z, hz, h1.symm⟩
      · exact .inl h2)
    exact ⟨r1, .inl r2⟩
  · obtain ⟨r1, r2⟩ := hkey (crashed (settleW s2 (homesOf (n + 1) l)).2 keep) (by rw [crash_len, settleW_firm_len, hlen2]) (crash_live _ _) hft (fun k hk => by
      rcases crash_blk (settleW s2 (homesOf (n + 1) l)).2 keep k (by rw [e2, hlen2]; exact hk) with h | ⟨y, hy, hyk, h⟩
      · left; rw [h, e2, blkB_noLate b3]
      · rcases e3 y hy with h' | ⟨x, hx, rfl⟩
        · rw [b3] at h'; cases h'
        · obtain ⟨z, hz, rfl⟩ := homes_at hx
          have := (right_all hr z hz).1
          simp only at hyk
          exact .inr ⟨z, hz, by omega⟩)
    exact ⟨r1, .inl r2⟩
end Go.Proofs.YthpjkhmkjhgbkaaGreatDoor
