/- What opening and committing make of the blocks, as long as nothing dies. -/
import Derived.Test.YtihoebmfanelkaaWal9
namespace Go.Proofs.Ytihoebmfanelkaa

/-- Nothing dies from here on. -/
def Live (s : St) : Prop := s.dead = false ∧ s.fuse < 0
theorem Live.burns {s : St} (h : Live s) : burns s = true := by
  have h1 := h.1
  have h2 := h.2
  have : ¬ s.fuse = 0 := by omega
  simp [Go.Proofs.Ytihoebmfanelkaa.burns, h1, this]
theorem Live.burnt {s : St} (h : Live s) : Go.Proofs.Ytihoebmfanelkaa.burnt s = s := by
  have h2 := h.2
  unfold Go.Proofs.Ytihoebmfanelkaa.burnt
  rw [if_pos h.burns, if_neg (by omega)]
def There (N : Nat) (x : Bk) : Prop := hasBlock N x.at_ = true ∧ x.data.length = 256

theorem Live.written {s : St} (h : Live s) {x : Bk} (hx : There s.firm.length x) : writeErr s x.at_ x.data = 0 ∧ Go.Proofs.Ytihoebmfanelkaa.written s x.at_ x.data = { s with late := s.late ++ [(x.at_.toNat, x.data)] } := by
  have h1 : (hasBlock s.firm.length x.at_ && decide (x.data.length = 256)) = true := by rw [hx.1, hx.2]; rfl
  constructor
  · rw [writeErr, h1, if_neg (by decide), if_neg (by rw [h.burns]; decide)]
  · rw [Go.Proofs.Ytihoebmfanelkaa.written, h1, if_neg (by decide), if_neg (by rw [h.burns]; decide), h.burnt]
theorem blkB_written (s : St) (x : Bk) (h0 : 0 ≤ x.at_) (k : Nat) : blkB { s with late := s.late ++ [(x.at_.toNat, x.data)] } k = if x.at_ = (k : Int) then x.data else blkB s k := by
  unfold blkB
  simp only [nowOf_snoc]
  by_cases h : x.at_ = (k : Int)
  · rw [if_pos h, if_pos (by omega)]
  · rw [if_neg h, if_neg (by omega)]

theorem Live.barred {s : St} (h : Live s) : barErr s = 0 ∧ Live (Go.Proofs.Ytihoebmfanelkaa.barred s) ∧ (Go.Proofs.Ytihoebmfanelkaa.barred s).late = [] ∧ ∀ k, k < s.firm.length → blkB (Go.Proofs.Ytihoebmfanelkaa.barred s) k = blkB s k := by
  refine ⟨by rw [barErr, if_neg (by rw [h.burns]; decide)], ?_⟩
  rw [Go.Proofs.Ytihoebmfanelkaa.barred, if_neg (by rw [h.burns]; decide), h.burnt]
  refine ⟨⟨h.1, h.2⟩, rfl, fun k hk => ?_⟩
  unfold blkB
  simp only [settledAll, nowOf_nil]
  have := settle_all s.firm k _ (getD_get hk ([] : List UInt8)) s.late
  rw [List.getD_eq_getElem?_getD, this]
  rfl

/-- The blocks behind writes. -/
def putL (v : Nat → List UInt8) : List Bk → Nat → List UInt8
  | [], k => v k
  | x :: r, k => putL (fun k => if x.at_ = (k : Int) then x.data else v k) r k
theorem putL_congr : ∀ (l : List Bk) (v u : Nat → List UInt8) (k : Nat), v k = u k → putL v l k = putL u l k
  | [], _, _, _, h => h
  | x :: r, v, u, k, h => by
    rw [putL, putL]
    refine putL_congr r _ _ k ?_
    simp only [h]
theorem putL_none : ∀ (l : List Bk) (v : Nat → List UInt8) (k : Nat), (∀ x ∈ l, x.at_ ≠ (k : Int)) → putL v l k = v k
  | [], _, _, _ => rfl
  | x :: r, v, k, h => by
    rw [putL, putL_none r _ k (fun y hy => h y (by simp [hy])), if_neg (h x (by simp))]
/-- What is there behind writes: one of them, or what was there. -/
theorem putL_cases : ∀ (l : List Bk) (v : Nat → List UInt8) (k : Nat), (∃ x ∈ l, x.at_ = (k : Int) ∧ putL v l k = x.data) ∨ ((∀ x ∈ l, x.at_ ≠ (k : Int)) ∧ putL v l k = v k)
  | [], _, _ => .inr ⟨by simp, rfl⟩
  | x :: r, v, k => by
    rw [putL]
    rcases putL_cases r (fun k => if x.at_ = (k : Int) then x.data else v k) k with ⟨y, hy, h1, h2⟩ | ⟨h1, h2⟩
    · exact .inl ⟨y, by simp [hy], h1, h2⟩
    · by_cases hx : x.at_ = (k : Int)
      · exact .inl ⟨x, by simp, hx, by rw [h2, if_pos hx]⟩
      · refine .inr ⟨fun y hy => ?_, by rw [h2, if_neg hx]⟩
        rcases List.mem_cons.1 hy with rfl | hy
        · exact hx
        · exact h1 y hy
/-- Twice is once. -/
theorem putL_twice (l : List Bk) (v : Nat → List UInt8) (k : Nat) : putL (putL v l) l k = putL v l k := by
  rcases putL_cases l v k with ⟨x, hx, h1, h2⟩ | ⟨h1, h2⟩
  · have hsame : ∀ (l : List Bk) (v u : Nat → List UInt8), (∃ x ∈ l, x.at_ = (k : Int)) → putL v l k = putL u l k := by
      intro l
      induction l with
      | nil => intro v u ⟨x, hx, _⟩; cases hx
      | cons y r ih =>
        intro v u ⟨x, hx, he⟩
        rw [putL, putL]
        by_cases hr : ∃ x ∈ r, x.at_ = (k : Int)
        · exact ih _ _ hr
        · have hy : y.at_ = (k : Int) := by
            rcases List.mem_cons.1 hx with rfl | hx
            · exact he
            · exact absurd ⟨x, hx, he⟩ hr
          refine putL_congr r _ _ k ?_
          simp only [hy, if_true]
    exact hsame l _ _ ⟨x, hx, h1⟩
  · rw [putL_none l _ k h1]

theorem settleW_live : ∀ (l : List Bk) (s : St), Live s → (∀ x ∈ l, There s.firm.length x) →
    (settleW s l).1 = 0 ∧ Live (settleW s l).2 ∧ (settleW s l).2.late = [] ∧ ∀ k, k < s.firm.length → blkB (settleW s l).2 k = putL (blkB s) l k
  | [], s, h, _ => by
    obtain ⟨h1, h2, h3, h4⟩ := h.barred
    exact ⟨h1, h2, h3, h4⟩
  | x :: r, s, h, hl => by
    have hx := hl x (by simp)
    obtain ⟨h1, h2⟩ := h.written hx
    have h0 : 0 ≤ x.at_ := by
      have := hx.1
      simp only [hasBlock, decide_eq_true_eq] at this
      exact this.1
    rw [settleW, if_pos h1, h2]
    have hlive : Live { s with late := s.late ++ [(x.at_.toNat, x.data)] } := ⟨h.1, h.2⟩
    obtain ⟨k1, k2, k3, k4⟩ := settleW_live r { s with late := s.late ++ [(x.at_.toNat, x.data)] } hlive (fun y hy => hl y (by simp [hy]))
    refine ⟨k1, k2, k3, fun k hk => ?_⟩
    rw [k4 k hk, putL]
    exact putL_congr r _ _ k (blkB_written s x h0 k)

theorem there_copies {n N : Nat} {l : List Bk} (h : RightL l ((N : Int) - 41)) : ∀ x ∈ copiesOf (homesOf n l), There N x :=
  copies_there h.2.1 (right_size h) (fun y hy => (right_all h y hy).2)
theorem there_homes {n N : Nat} {l : List Bk} (h : RightL l ((N : Int) - 41)) : ∀ x ∈ homesOf n l, There N x := homes_there (right_all h)
theorem there_mark {n k N : Nat} (hN : 42 ≤ N) : ∀ x ∈ [(⟨0, markL n k⟩ : Bk)], There N x := by
  intro x hx
  simp only [List.mem_singleton] at hx
  subst hx
  exact ⟨by simp only [hasBlock, decide_eq_true_eq]; omega, markL_length _ _⟩

/-- The blocks behind a commit. -/
theorem commitW_live {s : St} {n : Nat} {l : List Bk} (h : Live s) (hr : RightL l ((s.firm.length : Int) - 41)) :
    (commitW s n l).1 = 0 ∧ Live (commitW s n l).2 ∧ (commitW s n l).2.late = [] ∧ (commitW s n l).2.firm.length = s.firm.length ∧
      ∀ k, k < s.firm.length → blkB (commitW s n l).2 k = putL (putL (putL (blkB s) (copiesOf (homesOf (n + 1) l))) [⟨0, markL (n + 1) l.length⟩]) (homesOf (n + 1) l) k := by
  have hN := right_size hr
  obtain ⟨a1, a2, a3, a4⟩ := settleW_live (copiesOf (homesOf (n + 1) l)) s h (there_copies hr)
  have a5 := settleW_firm_len (copiesOf (homesOf (n + 1) l)) s
  generalize hq1 : settleW s (copiesOf (homesOf (n + 1) l)) = q1 at *
  obtain ⟨x1, s1⟩ := q1
  simp only at a1 a2 a3 a4 a5
  subst a1
  obtain ⟨b1, b2, b3, b4⟩ := settleW_live [⟨0, markL (n + 1) l.length⟩] s1 a2 (there_mark (by omega))
  have b5 := settleW_firm_len [⟨0, markL (n + 1) l.length⟩] s1
  generalize hq2 : settleW s1 [⟨0, markL (n + 1) l.length⟩] = q2 at *
  obtain ⟨x2, s2⟩ := q2
  simp only at b1 b2 b3 b4 b5
  subst b1
  rw [commitW_3 hq1 hq2]
  obtain ⟨c1, c2, c3, c4⟩ := settleW_live (homesOf (n + 1) l) s2 b2 (by rw [b5, a5]; exact there_homes hr)
  have c5 := settleW_firm_len (homesOf (n + 1) l) s2
  refine ⟨c1, c2, c3, by omega, fun k hk => ?_⟩
  rw [c4 k (by omega)]
  refine putL_congr _ _ _ k ?_
  rw [b4 k (by omega)]
  exact putL_congr _ _ _ k (a4 k hk)

theorem copies_at {l : List Bk} {x : Bk} (h : x ∈ copiesOf l) : ∃ i, ∃ hi : i < l.length, x = ⟨(1 + i : Nat), l[i].data⟩ := by
  simp only [copiesOf, List.mem_mapIdx] at h
  obtain ⟨i, hi, rfl⟩ := h
  exact ⟨i, hi, rfl⟩
theorem homes_at {n : Nat} {l : List Bk} {x : Bk} (h : x ∈ homesOf n l) : ∃ y ∈ l, x = ⟨41 + y.at_, homeL n y⟩ := by
  simp only [homesOf, List.mem_map] at h
  obtain ⟨y, hy, rfl⟩ := h
  exact ⟨y, hy, rfl⟩

/-- The data of a home block behind a commit. -/
theorem homeL_data (n : Nat) (x : Bk) (hx : x.data.length ≤ 248) : (homeL n x).drop 8 = (fillL x.data).take 248 := by
  unfold homeL fillL
  have e : (be4 (41 + x.at_.toNat) ++ be4 n ++ x.data).length = 8 + x.data.length := by simp [be4_length]; omega
  rw [e]
  have e2 : (be4 (41 + x.at_.toNat) ++ be4 n).length = 8 := rfl
  rw [List.append_assoc (be4 (41 + x.at_.toNat) ++ be4 n) x.data, List.drop_append_of_le_length (by omega), List.drop_of_length_le (by omega), List.nil_append]
  rw [List.take_append, List.take_of_length_le (by omega)]
  congr 1
  unfold rep
  rw [List.take_replicate]
  congr 1
  omega

theorem right_inj {l : List Bk} {N : Int} (h : RightL l N) {x y : Bk} (hx : x ∈ l) (hy : y ∈ l) (e : x.at_ = y.at_) : x = y := by
  obtain ⟨i, hi, rfl⟩ := List.getElem_of_mem hx
  obtain ⟨j, hj, rfl⟩ := List.getElem_of_mem hy
  rcases Nat.lt_trichotomy i j with hij | hij | hij
  · exact absurd e ((h.2.2 j hj _ (List.getElem?_eq_getElem hj)).2.2.2 i _ hij (List.getElem?_eq_getElem hi))
  · subst hij; rfl
  · exact absurd e.symm ((h.2.2 i hi _ (List.getElem?_eq_getElem hi)).2.2.2 j _ hij (List.getElem?_eq_getElem hj))

section
variable {s : St} {n : Nat} {l : List Bk}
theorem commit_mark (h : Live s) (hr : RightL l ((s.firm.length : Int) - 41)) : blkB (commitW s n l).2 0 = markL (n + 1) l.length := by
  have hN := right_size hr
  rw [(commitW_live h hr).2.2.2.2 0 (by omega), putL_none _ _ 0 (fun x hx => by
    obtain ⟨y, hy, rfl⟩ := homes_at hx
    have := (right_all hr y hy).1
    simp only
    omega)]
  rfl
theorem commit_copy (h : Live s) (hr : RightL l ((s.firm.length : Int) - 41)) {i : Nat} (hi : i < l.length) : blkB (commitW s n l).2 (1 + i) = homeL (n + 1) l[i] := by
  have hN := right_size hr
  have h40 := hr.2.1
  rw [(commitW_live h hr).2.2.2.2 (1 + i) (by omega), putL_none _ _ (1 + i) (fun x hx => by
    obtain ⟨y, hy, rfl⟩ := homes_at hx
    have := (right_all hr y hy).1
    simp only
    omega), putL_none _ _ (1 + i) (fun x hx => by
    simp only [List.mem_singleton] at hx
    subst hx
    simp only
    omega)]
  rcases putL_cases (copiesOf (homesOf (n + 1) l)) (blkB s) (1 + i) with ⟨x, hx, h1, h2⟩ | ⟨h1, _⟩
  · obtain ⟨j, hj, rfl⟩ := copies_at hx
    rw [h2]
    simp only at h1
    obtain rfl : j = i := by omega
    simp [homesOf]
  · exfalso
    refine h1 ⟨(1 + i : Nat), (homesOf (n + 1) l)[i]'(by rw [homesOf_length]; exact hi) |>.data⟩ ?_ rfl
    simp only [copiesOf, List.mem_mapIdx]
    exact ⟨i, by rw [homesOf_length]; exact hi, rfl⟩
theorem commit_home (h : Live s) (hr : RightL l ((s.firm.length : Int) - 41)) {x : Bk} (hx : x ∈ l) : blkB (commitW s n l).2 (41 + x.at_.toNat) = homeL (n + 1) x := by
  have hb := (right_all hr x hx).1
  rw [(commitW_live h hr).2.2.2.2 (41 + x.at_.toNat) (by omega)]
  rcases putL_cases (homesOf (n + 1) l) _ (41 + x.at_.toNat) with ⟨y, hy, h1, h2⟩ | ⟨h1, _⟩
  · obtain ⟨z, hz, rfl⟩ := homes_at hy
    rw [h2]
    simp only at h1
    have := (right_all hr z hz).1
    rw [right_inj hr hz hx (by omega)]
  · exfalso
    refine h1 ⟨41 + x.at_, homeL (n + 1) x⟩ ?_ (by simp only; omega)
    simp only [homesOf, List.mem_map]
    exact ⟨x, hx, rfl⟩
theorem commit_else (h : Live s) (hr : RightL l ((s.firm.length : Int) - 41)) {j : Nat} (hj : 41 + j < s.firm.length) (hno : ∀ x ∈ l, x.at_ ≠ (j : Int)) : blkB (commitW s n l).2 (41 + j) = blkB s (41 + j) := by
  have h40 := hr.2.1
  rw [(commitW_live h hr).2.2.2.2 (41 + j) hj, putL_none _ _ (41 + j) (fun x hx => by
    obtain ⟨y, hy, rfl⟩ := homes_at hx
    have := hno y hy
    simp only
    omega), putL_none _ _ (41 + j) (fun x hx => by
    simp only [List.mem_singleton] at hx
    subst hx
    simp only
    omega), putL_none _ _ (41 + j) (fun x hx => by
    obtain ⟨i, hi, rfl⟩ := copies_at hx
    rw [homesOf_length] at hi
    simp only
    omega)]
end

/-! The data of a log. -/
def dataS (s : St) : List (List UInt8) := (List.range (s.firm.length - 41)).map fun j => (blkB s (41 + j)).drop 8
theorem dataS_length (s : St) : (dataS s).length = s.firm.length - 41 := by simp [dataS]
theorem dataS_get (s : St) (j : Nat) (hj : j < s.firm.length - 41) : (dataS s)[j]? = some ((blkB s (41 + j)).drop 8) := by simp [dataS, hj]
def setB (x : Bk) : List UInt8 := (fillL x.data).take 248
def afterL : List (List UInt8) → List Bk → List (List UInt8)
  | L, [] => L
  | L, x :: r => afterL (L.set x.at_.toNat (setB x)) r
theorem afterL_length : ∀ (l : List Bk) (L : List (List UInt8)), (afterL L l).length = L.length
  | [], _ => rfl
  | x :: r, L => by rw [afterL, afterL_length r]; simp
theorem afterL_snoc : ∀ (l : List Bk) (L : List (List UInt8)) (x : Bk), afterL L (l ++ [x]) = (afterL L l).set x.at_.toNat (setB x)
  | [], _, _ => rfl
  | y :: r, L, x => by rw [List.cons_append, afterL, afterL_snoc r, afterL]
theorem afterL_cases : ∀ (l : List Bk) (L : List (List UInt8)) (j : Nat), j < L.length → (∃ x ∈ l, x.at_.toNat = j ∧ (afterL L l)[j]? = some (setB x)) ∨ ((∀ x ∈ l, x.at_.toNat ≠ j) ∧ (afterL L l)[j]? = L[j]?)
  | [], _, _, _ => .inr ⟨by simp, rfl⟩
  | x :: r, L, j, hj => by
    rw [afterL]
    rcases afterL_cases r (L.set x.at_.toNat (setB x)) j (by simpa using hj) with ⟨y, hy, h1, h2⟩ | ⟨h1, h2⟩
    · exact .inl ⟨y, by simp [hy], h1, h2⟩
    · by_cases hx : x.at_.toNat = j
      · refine .inl ⟨x, by simp, hx, ?_⟩
        rw [h2, List.getElem?_set, if_pos hx, if_pos (by omega)]
      · refine .inr ⟨fun y hy => ?_, ?_⟩
        · rcases List.mem_cons.1 hy with rfl | hy
          · exact hx
          · exact h1 y hy
        · rw [h2, List.getElem?_set, if_neg hx]

theorem dataS_commit {s : St} {n : Nat} {l : List Bk} (h : Live s) (hr : RightL l ((s.firm.length : Int) - 41)) : dataS (commitW s n l).2 = afterL (dataS s) l := by
  have hN := right_size hr
  have hlen := (commitW_live (n := n) h hr).2.2.2.1
  apply List.ext_getElem?
  intro j
  by_cases hj : j < s.firm.length - 41
  · rw [dataS_get _ j (by omega)]
    rcases afterL_cases l (dataS s) j (by rw [dataS_length]; exact hj) with ⟨x, hx, h1, h2⟩ | ⟨h1, h2⟩
    · rw [h2]
      have := commit_home (n := n) h hr hx
      rw [h1] at this
      rw [this, homeL_data _ _ (right_all hr x hx).2]
      rfl
    · rw [h2, dataS_get _ j hj, commit_else h hr (by omega) (fun x hx => by
        have := h1 x hx
        have := (right_all hr x hx).1
        omega)]
  · rw [List.getElem?_eq_none (by rw [dataS_length]; omega), List.getElem?_eq_none (by rw [afterL_length, dataS_length]; omega)]

/-! Opening. -/
theorem openL_there {s : St} (hf : Fine s) (hN : 42 ≤ s.firm.length) : ∀ x ∈ openL s, There s.firm.length x ∧ 41 ≤ x.at_ := by
  intro x hx
  unfold openL redoL at hx
  split at hx
  · rename_i h
    simp only [redoHomes, List.mem_map, List.mem_range] at hx
    obtain ⟨i, hi, rfl⟩ := hx
    obtain ⟨h1, h2, _⟩ := h.2 i hi
    have := h.1
    exact ⟨⟨by simp only [hasBlock, decide_eq_true_eq]; omega, hf.blk (by omega)⟩, by simp only; omega⟩
  · cases hx
theorem openSt_live {s : St} (hf : Fine s) (h : Live s) (hN : 42 ≤ s.firm.length) :
    openErr s = 0 ∧ Live (openSt s) ∧ (openSt s).firm.length = s.firm.length ∧ (openSt s).late.length ≤ s.late.length ∧ ∀ k, k < s.firm.length → blkB (openSt s) k = putL (blkB s) (openL s) k := by
  have hd : ¬ s.dead = true := by rw [h.1]; decide
  have hA : ¬ s.firm.length ≤ 41 := by omega
  have e1 : openErr s = if openL s = [] then 0 else (settleW s (openL s)).1 := by rw [openErr, if_neg hA, if_neg hd]
  have e2 : openSt s = if openL s = [] then s else (settleW s (openL s)).2 := by rw [openSt, if_neg hA, if_neg hd]
  rw [e1, e2]
  by_cases hL : openL s = []
  · rw [if_pos hL, if_pos hL, hL]
    exact ⟨rfl, h, rfl, Nat.le_refl _, fun _ _ => rfl⟩
  · rw [if_neg hL, if_neg hL]
    obtain ⟨a1, a2, a3, a4⟩ := settleW_live (openL s) s h (fun x hx => (openL_there hf hN x hx).1)
    exact ⟨a1, a2, settleW_firm_len _ _, by rw [a3]; simp, a4⟩
/-- What a device's journal says hangs on the journal alone. -/
theorem openL_congr {s t : St} (hl : s.firm.length = t.firm.length) (hb : ∀ k, k ≤ 40 → blkB s k = blkB t k) : openL s = openL t ∧ openN s = openN t := by
  have h0 := hb 0 (by omega)
  have hc : ∀ n i, i < 40 → (CopyOk s n i ↔ CopyOk t n i) := fun n i hi => by
    unfold CopyOk
    rw [hb (1 + i) (by omega), hl]
  refine ⟨?_, by rw [openN, openN, h0]⟩
  unfold openL
  rw [h0]
  generalize markN (blkB t 0) = n
  generalize markK (blkB t 0) = k
  unfold redoL
  by_cases h : Redoes s n k
  · have h' : Redoes t n k := ⟨h.1, fun i hi => (hc n i (by have := h.1; omega)).1 (h.2 i hi)⟩
    rw [if_pos h, if_pos h']
    unfold redoHomes
    apply List.map_congr_left
    intro i hi
    have := h.1
    rw [hb (1 + i) (by have := List.mem_range.1 hi; omega)]
  · have h' : ¬ Redoes t n k := fun h' => h ⟨h'.1, fun i hi => (hc n i (by have := h'.1; omega)).2 (h'.2 i hi)⟩
    rw [if_neg h, if_neg h']
theorem open_journal {s : St} (hf : Fine s) (h : Live s) (hN : 42 ≤ s.firm.length) : ∀ k, k ≤ 40 → blkB (openSt s) k = blkB s k := by
  intro k hk
  rw [(openSt_live hf h hN).2.2.2.2 k (by omega), putL_none _ _ k (fun x hx => by have := (openL_there hf hN x hx).2; omega)]
/-- To open twice is to open once. -/
theorem open_twice {s : St} (hf : Fine s) (hf2 : Fine (openSt s)) (h : Live s) (hN : 42 ≤ s.firm.length) : openN (openSt s) = openN s ∧ ∀ k, k < s.firm.length → blkB (openSt (openSt s)) k = blkB (openSt s) k := by
  obtain ⟨_, a2, a3, _, a5⟩ := openSt_live hf h hN
  obtain ⟨e1, e2⟩ := openL_congr a3 (open_journal hf h hN)
  refine ⟨e2, fun k hk => ?_⟩
  rw [(openSt_live hf2 a2 (by omega)).2.2.2.2 k (by omega), e1, putL_congr _ _ _ k (a5 k hk), putL_twice, a5 k hk]

theorem dataS_congr {s t : St} (hl : s.firm.length = t.firm.length) (hb : ∀ k, k < s.firm.length → blkB s k = blkB t k) : dataS s = dataS t := by
  unfold dataS
  rw [hl]
  apply List.map_congr_left
  intro i hi
  rw [hb (41 + i) (by have := List.mem_range.1 hi; omega)]

theorem lcom_take (n k : Nat) : (markL n k).take 4 = lcom := rfl
theorem markL_num (n k : Nat) (hn : n < 4294967296) (hk : k < 4294967296) : markN (markL n k) = n ∧ markK (markL n k) = k := by
  unfold markN markK
  rw [if_pos (lcom_take n k), if_pos (lcom_take n k)]
  have e1 : markL n k = lcom ++ (be4 n ++ (be4 k ++ rep (256 - (lcom ++ (be4 n ++ be4 k)).length) 0)) := by simp [markL, fillL]
  have e2 : markL n k = (lcom ++ be4 n) ++ (be4 k ++ rep (256 - (lcom ++ (be4 n ++ be4 k)).length) 0) := by simp [markL, fillL]
  constructor
  · rw [e1]; exact num4_be4 n hn lcom _
  · rw [e2]; exact num4_be4 k hk (lcom ++ be4 n) _
theorem homeL_num (n : Nat) (x : Bk) (hn : n < 4294967296) (hx : 41 + x.at_.toNat < 4294967296) : num4 (homeL n x) 0 = 41 + x.at_.toNat ∧ num4 (homeL n x) 4 = n := by
  have e1 : homeL n x = [] ++ (be4 (41 + x.at_.toNat) ++ (be4 n ++ (x.data ++ rep (256 - (be4 (41 + x.at_.toNat) ++ be4 n ++ x.data).length) 0))) := by simp [homeL, fillL]
  have e2 : homeL n x = be4 (41 + x.at_.toNat) ++ (be4 n ++ (x.data ++ rep (256 - (be4 (41 + x.at_.toNat) ++ be4 n ++ x.data).length) 0)) := by simp [homeL, fillL]
  constructor
  · rw [e1]; exact num4_be4 _ hx [] _
  · rw [e2]; exact num4_be4 n hn (be4 (41 + x.at_.toNat)) _

/-- What is opened behind a whole commit has just its data. -/
theorem open_commit {s t : St} {n : Nat} {l : List Bk} (h : Live s) (hr : RightL l ((s.firm.length : Int) - 41)) (hfew : s.firm.length ≤ 1024) (hn : n + 1 < 4294967296) (ht : Live t) (hft : Fine t) (hlen : t.firm.length = s.firm.length) (hb : ∀ k, k < s.firm.length → blkB t k = blkB (commitW s n l).2 k) :
    ∀ k, k < s.firm.length → blkB (openSt t) k = blkB t k := by
  have hN := right_size hr
  have h40 := hr.2.1
  intro k hk
  have hm : blkB t 0 = markL (n + 1) l.length := by rw [hb 0 (by omega)]; exact commit_mark h hr
  obtain ⟨m1, m2⟩ := markL_num (n + 1) l.length hn (by omega)
  rw [(openSt_live hft ht (by omega)).2.2.2.2 k (by omega)]
  rcases putL_cases (openL t) (blkB t) k with ⟨x, hx, h1, h2⟩ | ⟨_, h2⟩
  · rw [h2]
    unfold openL at hx
    rw [hm, m1, m2] at hx
    unfold redoL at hx
    split at hx
    · simp only [redoHomes, List.mem_map, List.mem_range] at hx
      obtain ⟨i, hi, rfl⟩ := hx
      simp only at h1 ⊢
      have hc : blkB t (1 + i) = homeL (n + 1) l[i] := by rw [hb (1 + i) (by omega)]; exact commit_copy h hr hi
      have hi' := (right_all hr l[i] (List.getElem_mem hi)).1
      rw [hc] at h1 ⊢
      rw [(homeL_num (n + 1) l[i] hn (by omega)).1] at h1
      have := commit_home (n := n) h hr (List.getElem_mem hi)
      rw [← this, hb k hk]
      congr 1
      omega
    · cases hx
  · exact h2
end Go.Proofs.Ytihoebmfanelkaa
