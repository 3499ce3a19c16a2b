/- The walk of DeviceFirm. -/
import Derived.Test.YtohkfeolfemcnaaLast
namespace Go.Proofs.Ytohkfeolfemcnaa
open Go.RowKit

theorem settle_same (keep : Nat) (f : List (List UInt8)) (j : Nat) : ∀ l : List (Nat × List UInt8), (∀ x ∈ l, x.1 ≠ j) → (settle keep l f)[j]? = f[j]? := by
  refine snoc_ind (fun _ => rfl) ?_
  intro l x ih h
  have ih' := ih (fun y hy => h y (by simp [hy]))
  rw [settle_snoc]
  split
  · rw [List.getElem?_set, if_neg (h x (by simp))]
    exact ih'
  · exact ih'

/-- How a deed makes a state longer. -/
theorem act_firm (s : St) (x : Deed) : (actSt s x).firm.length = s.firm.length := by
  unfold actSt
  split
  · unfold written
    split
    · rfl
    · split
      · rw [burnt_firm]
      · exact congrArg List.length (burnt_firm s)
  split
  · unfold barred
    split
    · rw [burnt_firm]
    · rw [settledAll, settle_length, burnt_firm]
  split
  · rfl
  split
  · simp only [crashed, settledAll, settle_length]
  · rfl
theorem act_late (s : St) (x : Deed) : (actSt s x).late.length ≤ s.late.length + 1 := by
  unfold actSt
  split
  · unfold written
    split
    · omega
    · split
      · rw [burnt_late]; omega
      · simp
  split
  · unfold barred
    split
    · rw [burnt_late]; omega
    · simp [settledAll]
  split
  · simp [lit]
  split
  · simp [crashed, settledAll]
  · omega

/-- Blocks that no write was made of are as they were. -/
structure Held (k : Nat) (s : St) (L : List (List UInt8)) (B : List Bool) : Prop where
  four : s.firm.length = 4
  few : s.late.length ≤ k
  lenL : L.length = 4
  lenB : B.length = 4
  kept : ∀ j, j < 4 → B[j]? = some false → s.firm[j]? = L[j]? ∧ ∀ x ∈ s.late, x.1 ≠ j

/-- Which blocks a deed writes. -/
def marks (B : List Bool) (x : Deed) : List Bool := if x.kind.tmod 5 = 0 ∧ 0 ≤ x.at_ ∧ x.at_ < 4 then B.set x.at_.toNat true else B

theorem Held.act {k : Nat} {s : St} {L : List (List UInt8)} {B : List Bool} (h : Held k s L B) (x : Deed) : Held (k + 1) (actSt s x) L (marks B x) := by
  have hB : (marks B x).length = 4 := by
    unfold marks
    split
    · simpa using h.lenB
    · exact h.lenB
  refine ⟨by rw [act_firm]; exact h.four, by have := act_late s x; have := h.few; omega, h.lenL, hB, ?_⟩
  intro j hj hm
  have hold : B[j]? = some false := by
    unfold marks at hm
    split at hm
    · rw [List.getElem?_set] at hm
      split at hm
      · split at hm
        · cases hm
        · cases hm
      · exact hm
    · exact hm
  obtain ⟨h1, h2⟩ := h.kept j hj hold
  unfold actSt
  split
  · rename_i hr
    unfold written
    split
    · exact ⟨h1, h2⟩
    · rename_i hw
      split
      · rw [burnt_firm, burnt_late]
        exact ⟨h1, h2⟩
      · refine ⟨by simp only [burnt_firm]; exact h1, ?_⟩
        intro y hy
        rcases List.mem_append.1 hy with hy | hy
        · exact h2 y hy
        · simp at hy
          subst hy
          simp [hasBlock, h.four] at hw
          unfold marks at hm
          rw [if_pos ⟨hr, by omega, by omega⟩] at hm
          rw [List.getElem?_set] at hm
          intro e
          simp only at e
          rw [if_pos e] at hm
          split at hm
          · cases hm
          · cases hm
  split
  · unfold barred
    split
    · rw [burnt_firm, burnt_late]
      exact ⟨h1, h2⟩
    · refine ⟨?_, by simp [settledAll]⟩
      simp only [settledAll, burnt_firm, burnt_late]
      rw [settle_same _ _ _ _ h2]
      exact h1
  split
  · exact ⟨h1, h2⟩
  split
  · refine ⟨?_, by simp [crashed, settledAll]⟩
    simp only [crashed, settledAll]
    rw [settle_same _ _ _ _ h2]
    exact h1
  · exact ⟨h1, h2⟩

/-- Behind the last crash. -/
theorem Held.last {k : Nat} {s : St} {L : List (List UInt8)} {B : List Bool} (h : Held k s L B) (keep j : Nat) (hj : j < 4) (hB : B[j]? = some false) : readB (crashed s keep) j = L.getD j [] ∧ readErr (crashed s keep) j = 0 := by
  obtain ⟨h1, h2⟩ := h.kept j hj hB
  have hl : (crashed s keep).firm.length = 4 := by simp only [crashed, settledAll, settle_length]; exact h.four
  have hh : hasBlock (crashed s keep).firm.length j = true := by rw [hl]; simp [hasBlock]; omega
  have hd : (crashed s keep).dead = false := rfl
  have ht : (crashed s keep).late = [] := rfl
  have hf : (crashed s keep).firm[j]? = L[j]? := by
    simp only [crashed, settledAll]
    rw [settle_same _ _ _ _ h2]
    exact h1
  refine ⟨?_, by simp [readErr, hh, hd]⟩
  simp only [readB, hh, hd, ht, nowOf_nil, Bool.true_eq_false, Bool.false_eq_true, if_false, Int.toNat_natCast]
  rw [List.getD_eq_getElem?_getD, List.getD_eq_getElem?_getD, hf]

/-- Behind a crash and a barrier nothing is unsettled. -/
theorem calm (s : St) (h : s.firm.length = 4) : barErr (crashed s 0) = 0 ∧ (barred (crashed s 0)).late = [] ∧ (barred (crashed s 0)).dead = false ∧ (barred (crashed s 0)).firm.length = 4 := by
  have h1 : burns (crashed s 0) = true := rfl
  have h2 : burnt (crashed s 0) = crashed s 0 := rfl
  have h3 : barred (crashed s 0) = settledAll (crashed s 0) 18446744073709551615 := by
    unfold barred
    rw [h1, h2]
    rfl
  rw [h3]
  refine ⟨by simp [barErr, h1], rfl, rfl, ?_⟩
  simp only [settledAll, settle_length, crashed]
  exact h
theorem calm_read (s : St) (h0 : s.late = []) (h1 : s.dead = false) (h2 : s.firm.length = 4) (j : Nat) (hj : j < 4) : readB s j = s.firm.getD j [] ∧ readErr s j = 0 := by
  have hh : hasBlock s.firm.length j = true := by rw [h2]; simp [hasBlock]; omega
  refine ⟨?_, by simp [readErr, hh, h1]⟩
  simp only [readB, hh, h1, h0, nowOf_nil, Bool.true_eq_false, Bool.false_eq_true, if_false, Int.toNat_natCast]
theorem Held.start (s : St) (L : List (List UInt8)) (h0 : s.late = []) (h2 : s.firm.length = 4) (hL : L.length = 4) (h : ∀ j, j < 4 → L.getD j [] = s.firm.getD j []) : Held 0 s L [false, false, false, false] := by
  refine ⟨h2, by rw [h0]; simp, hL, rfl, fun j hj _ => ⟨?_, by rw [h0]; simp⟩⟩
  have e1 := getD_get (l := s.firm) (k := j) (by omega) ([] : List UInt8)
  have e2 := getD_get (l := L) (k := j) (by omega) ([] : List UInt8)
  rw [e1, e2, h j hj]

def boolCells (B : List Bool) : List Value := B.map .bool
theorem boolCells_set (B : List Bool) (i : Nat) (b : Bool) : (boolCells B).set i (.bool b) = boolCells (B.set i b) := by simp [boolCells, List.map_set]
theorem boolCells_at {w : World} {q : Nat} {t : TypeId} {B : List Bool} (h : Blk w q t (boolCells B).toArray) {i : Nat} (hi : i < B.length) : w.cell? ⟨q, i, none⟩ = some (.bool (B.getD i false)) := by
  rw [h.cell]
  simp [boolCells, hi]
end Go.Proofs.Ytohkfeolfemcnaa
