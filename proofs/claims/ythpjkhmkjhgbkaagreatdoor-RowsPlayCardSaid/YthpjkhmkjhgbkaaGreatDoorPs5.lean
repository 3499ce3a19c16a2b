/- What the document makes of a home block's data, and the blocks of a commit with noughts behind: plain facts. -/
import Derived.Test.YthpjkhmkjhgbkaaGreatDoorLay5
namespace Go.Proofs.YthpjkhmkjhgbkaaGreatDoor
open Go.RowKit Go.Maps

/-- A row's data, with noughts behind. -/
def padD (k v : List UInt8) : List UInt8 := rowL k v ++ zeros (248 - (rowL k v).length)
theorem padN_le (n : Nat) : padN n ≤ 3 := by unfold padN; omega
theorem rowL_le {k v : List UInt8} (hk : k.length ≤ 16) (hv : v.length ≤ 200) : (rowL k v).length ≤ 248 := by
  rw [rowL_length]
  have := padN_le k.length
  have := padN_le v.length
  omega
theorem padD_length {k v : List UInt8} (hk : k.length ≤ 16) (hv : v.length ≤ 200) : (padD k v).length = 248 := by
  have := rowL_le hk hv
  unfold padD
  rw [List.length_append]
  simp [zeros]
  omega

theorem scan_errs {s : List UInt8} (h : (scanV s).2.2 = 0) : (scanR s).2.2 = 0 ∧ (scanK s).2.2 = 0 := by
  have h1 : (scanK s).2.2 = 0 := Decidable.byContradiction fun hn => by
    unfold scanV at h
    rw [rText_err _ _ _ hn] at h
    exact hn h
  have h2 : (scanR s).2.2 = 0 := Decidable.byContradiction fun hn => by
    unfold scanK at h1
    rw [rText_err _ _ _ hn] at h1
    exact hn h1
  exact ⟨h2, h1⟩
theorem scan_parts {s : List UInt8} (h : (scanV s).2.2 = 0) : be4 (scanR s).1 ++ (encT (scanK s).1 ++ (encT (scanV s).1 ++ (scanV s).2.1)) = s ∧ (scanK s).1.length ≤ 16 ∧ (scanV s).1.length ≤ 200 := by
  obtain ⟨h1, h2⟩ := scan_errs h
  have a := rNumber_one s h1
  have b := rText_one 16 (scanR s).2.1 (by unfold scanK at h2; rw [h1] at h2; exact h2)
  have c := rText_one 200 (scanK s).2.1 (by unfold scanV at h; rw [h2] at h; exact h)
  have eb : rText 16 (scanR s).2.1 0 = scanK s := by rw [← h1]; rfl
  have ec : rText 200 (scanK s).2.1 0 = scanV s := by rw [← h2]; rfl
  rw [eb] at b
  rw [ec] at c
  refine ⟨?_, by omega, by omega⟩
  rw [c.1, b.1]
  exact a
theorem isZero_eq {l : List UInt8} (h : isZeroL l = true) : l = zeros l.length := by
  unfold isZeroL at h
  refine all_zero l ?_
  rw [List.any_eq_false]
  intro x hx
  have := List.all_eq_true.1 h x hx
  simpa using this
/-- Data are a row's just if they are what the document lays for the row that they are read as. -/
theorem good_iff {s : List UInt8} (hs : s.length = 248) (h : (scanV s).2.2 = 0) (hk : (scanK s).1 ≠ []) : goodD s = true ↔ padD (scanK s).1 (scanV s).1 = s := by
  obtain ⟨h1, h2, h3⟩ := scan_parts h
  have hk1 : 1 ≤ (scanK s).1.length := by
    have := List.length_pos_iff.2 hk
    omega
  constructor
  · intro hg
    unfold goodD at hg
    simp only [Bool.and_eq_true, beq_iff_eq] at hg
    obtain ⟨⟨_, hn⟩, _, hz⟩ := hg
    have hzz := isZero_eq hz
    rw [hn, hzz] at h1
    have hrow : rowL (scanK s).1 (scanV s).1 ++ zeros (scanV s).2.1.length = s := by
      unfold rowL
      rw [List.append_assoc, List.append_assoc]
      exact h1
    have hl := congrArg List.length hrow
    rw [List.length_append, hs] at hl
    have : zeros (scanV s).2.1.length = zeros (248 - (rowL (scanK s).1 (scanV s).1).length) := by
      congr 1
      simp [zeros] at hl
      omega
    unfold padD
    rw [← this]
    exact hrow
  · intro he
    have hb := rowL_back (scanK s).1 (scanV s).1 (248 - (rowL (scanK s).1 (scanV s).1).length) hk1 h2 h3
    rw [show rowL (scanK s).1 (scanV s).1 ++ zeros (248 - (rowL (scanK s).1 (scanV s).1).length) = s from he] at hb
    unfold rowOfL at hb
    split at hb
    · assumption
    · cases hb
theorem good_no {s : List UInt8} (h : (scanV s).2.2 ≠ 0 ∨ (scanK s).1 = []) : goodD s = false := by
  unfold goodD
  rcases h with h | h
  · have : ((scanV s).2.2 == 0) = false := by simpa using h
    rw [this]
    rfl
  · rw [h]
    simp [isKeyL]

/-- What data say: 0 free, 1 a row, 2 neither. -/
def parseP (s : List UInt8) : List UInt8 × List UInt8 × Nat := if isZeroL s then ([], [], 0) else match rowOfL s with
  | some x => (x.1, x.2, 1)
  | none => ([], [], 2)
def parseV (s : List UInt8) : Value := .tuple #[.string (strOf (parseP s).1), .string (strOf (parseP s).2.1), .int .i64 ((parseP s).2.2 : Int)]
theorem parse_zero {s : List UInt8} (h : isZeroL s = true) : parseV s = .tuple #[.string ⟨#[]⟩, .string ⟨#[]⟩, .int .i64 0] := by
  have : parseP s = ([], [], 0) := by unfold parseP; rw [if_pos h]
  unfold parseV
  rw [this]
  rfl
theorem parse_two {s : List UInt8} (h : ¬ isZeroL s = true) (hg : goodD s = false) : parseV s = .tuple #[.string ⟨#[]⟩, .string ⟨#[]⟩, .int .i64 2] := by
  have : parseP s = ([], [], 2) := by unfold parseP rowOfL; rw [if_neg h, if_neg (by rw [hg]; decide)]
  unfold parseV
  rw [this]
  rfl
theorem parse_row {s : List UInt8} (h : ¬ isZeroL s = true) (hg : goodD s = true) : parseV s = .tuple #[.string (strOf (scanK s).1), .string (strOf (scanV s).1), .int .i64 1] := by
  have : parseP s = ((scanK s).1, (scanV s).1, 1) := by unfold parseP rowOfL; rw [if_neg h, if_pos hg]
  unfold parseV
  rw [this]
  rfl
theorem putR_ins {M : List Rw} {x : Rw} (h : findR M x.key = none) : putR M x = insR x M := by
  unfold putR
  rw [delR_none (findR_none.1 h)]

/-- A step's block, as the document tells it. -/
def bkP (s : Sp) : Bk := ⟨(s.at_ : Int), if s.ch.gone then [] else padD s.ch.key s.ch.val⟩
theorem rep_zeros (n : Nat) : rep n (0 : UInt8) = zeros n := by
  apply List.ext_getElem
  · simp [zeros, rep_length]
  · intro i h1 h2
    simp [zeros, rep]
theorem fill_pad {a b : List UInt8} {n : Nat} (h : a.length + b.length + n ≤ 256) : fillL (a ++ (b ++ zeros n)) = fillL (a ++ b) := by
  unfold fillL
  rw [rep_zeros, rep_zeros, ← List.append_assoc, List.append_assoc (a ++ b)]
  congr 1
  simp only [zeros, List.length_append, List.length_replicate]
  rw [← List.replicate_append_replicate.symm]
  rotate_left
  congr 1
  omega
theorem home_pad (n : Nat) {s : Sp} (hk : s.ch.key.length ≤ 16) (hv : s.ch.val.length ≤ 200) : homeL n (bkP s) = homeL n (bkOf s) := by
  have hr := rowL_le hk hv
  unfold homeL bkP bkOf dataL
  cases s.ch.gone with
  | true => rfl
  | false =>
    simp only [Bool.false_eq_true, if_false]
    unfold padD
    exact fill_pad (by simp [be4_length]; omega)
theorem homes_pad (n : Nat) {ss : List Sp} (h : ∀ s ∈ ss, s.ch.key.length ≤ 16 ∧ s.ch.val.length ≤ 200) : homesOf n (ss.map bkP) = homesOf n (ss.map bkOf) := by
  unfold homesOf
  rw [List.map_map, List.map_map]
  refine List.map_congr_left fun s hs => ?_
  show (⟨41 + (bkP s).at_, homeL n (bkP s)⟩ : Bk) = ⟨41 + (bkOf s).at_, homeL n (bkOf s)⟩
  rw [home_pad n (h s hs).1 (h s hs).2]
  rfl
theorem commitW_pad (s : St) (n : Nat) {ss : List Sp} (h : ∀ s ∈ ss, s.ch.key.length ≤ 16 ∧ s.ch.val.length ≤ 200) : commitW s n (ss.map bkP) = commitW s n (ss.map bkOf) := by
  unfold commitW
  rw [homes_pad _ h, List.length_map, List.length_map]
theorem bkP_length {s : Sp} (hk : s.ch.key.length ≤ 16) (hv : s.ch.val.length ≤ 200) : (bkP s).data.length ≤ 248 := by
  unfold bkP
  cases s.ch.gone with
  | true => simp
  | false => simp only [Bool.false_eq_true, if_false]; rw [padD_length hk hv]; omega
theorem right_pad {ss : List Sp} {size : Int} (h : ∀ s ∈ ss, s.ch.key.length ≤ 16 ∧ s.ch.val.length ≤ 200) (hr : RightL (ss.map bkOf) size) : RightL (ss.map bkP) size := by
  obtain ⟨h1, h2, h3⟩ := hr
  refine ⟨by simpa using h1, by simpa using h2, fun i hi x hx => ?_⟩
  have hi' : i < ss.length := by simpa using hi
  rw [List.getElem?_map, List.getElem?_eq_getElem hi'] at hx
  injection hx with hx
  subst hx
  have hg := h3 i (by simpa using hi') (bkOf ss[i]) (by rw [List.getElem?_map, List.getElem?_eq_getElem hi']; rfl)
  have hm := h _ (List.getElem_mem hi')
  refine ⟨hg.1, hg.2.1, bkP_length hm.1 hm.2, fun k y hk hy => ?_⟩
  rw [List.getElem?_map, List.getElem?_eq_getElem (by omega)] at hy
  injection hy with hy
  subst hy
  exact hg.2.2.2 k (bkOf (ss[k]'(by omega))) hk (by rw [List.getElem?_map, List.getElem?_eq_getElem (by omega)]; rfl)
theorem refusal_pad {ss : List Sp} {size x : Int} {f : Bool} {n : Nat} (h : ∀ s ∈ ss, s.ch.key.length ≤ 16 ∧ s.ch.val.length ≤ 200) (hr : RightL (ss.map bkOf) size) (hx : Refusal size f n (ss.map bkOf) x) : Refusal size f n (ss.map bkP) x := by
  have hp := right_pad h hr
  rcases hx with ⟨a, _⟩ | ⟨_, b, c⟩ | ⟨_, b, c, d⟩ | ⟨_, b, c, d⟩
  · exact absurd hr a
  · exact .inr (.inl ⟨hp, b, c⟩)
  · exact .inr (.inr (.inl ⟨hp, b, c, d⟩))
  · exact .inr (.inr (.inr ⟨hp, b, c, d⟩))
theorem commits_pad {ss : List Sp} {s s' : St} {n n' : Nat} {f f' : Bool} {x : Int} (h : ∀ s ∈ ss, s.ch.key.length ≤ 16 ∧ s.ch.val.length ≤ 200) (hr : RightL (ss.map bkOf) ((s.firm.length : Int) - 41)) (hc : CommitsTo s n f (ss.map bkOf) x s' n' f') : CommitsTo s n f (ss.map bkP) x s' n' f' := by
  rcases hc with ⟨a, b, c⟩ | ⟨a, b, c, d⟩
  · exact .inl ⟨a, refusal_pad h hr b, c⟩
  · refine .inr ⟨refusal_pad h hr a, ?_, ?_, d⟩
    · rw [commitW_pad s n h]; exact b
    · rw [commitW_pad s n h]; exact c
end Go.Proofs.YthpjkhmkjhgbkaaGreatDoor
