/- How long rows are; two states that every right program tells apart. -/
import Derived.Test.YtalkhhjfplahkaaGreatKCg14
import Derived.Test.YtalkhhjfplahkaaGreatKP
namespace Go.Proofs.YtalkhhjfplahkaaGreat
open Go.RowKit
set_option linter.unusedVariables false

theorem row_sizes {s : Sta} (hr : RightS s) : ∀ x ∈ rowsL s, x.key.length ≤ 1000 ∧ x.val.length ≤ 1048576 := by
  intro x hx
  unfold rowsL at hx
  simp only [List.mem_append, List.mem_cons, List.not_mem_nil, or_false, List.mem_map] at hx
  rcases hx with ((((((rfl | rfl) | ⟨l, hl, rfl⟩) | ⟨n, hn, rfl⟩) | ⟨o, ho, rfl⟩) | ⟨h, hh, rfl⟩) | ⟨k, hk, rfl⟩)
  · simp [bootR, encNs_length]
  · simp [nextR, encNs_length]
  · have h4 := (hr.locks.each l hl).1.right.len
    simp only [lockR, List.length_cons, List.length_append, encNs_length, be4_length, encL_length, holN_length, List.length_nil]
    omega
  · have h8 := nm_len (hr.tree.tree.name n hn)
    have ht := encT_most n.name 8 h8
    simp only [nodeR, List.length_cons, List.length_append, encNs_length, be4_length, List.length_nil]
    omega
  · simp [openR, encNs_length]
  · have hm := bytesP_most h.pk (hr.seats.each h hh).right
    simp only [seatR, List.length_cons, encNs_length, List.length_nil]
    omega
  · have hq := (hr.works.each k hk).2
    have hd : k.data.length ≤ 64 := hq.len64
    have ht := encT_most k.data 64 hd
    simp only [workR, List.length_cons, List.length_append, encNs_length, List.length_nil]
    omega

def kidA : Nd := ⟨2, 1, [97], false, 0⟩
def lockA : Lk := ⟨2, 1, 0, 0, false, false, []⟩
def mkS : Sta := ⟨0, 3, [rootN, kidA], [], [lockA], [], []⟩
theorem fresh_right : RightS freshS := by
  refine ⟨⟨tree_of_prog rfl (by decide) (fun i hi => ?_) (fun i hi => ?_), ?_⟩, ⟨right_nil, by simp [freshS]⟩, ⟨by decide, by simp [freshS], .nil, by decide⟩, ⟨by simp [freshS], .nil⟩, ⟨by simp [freshS], .nil⟩⟩
  · exact absurd hi (by simp [freshS])
  · exact absurd hi (by simp [freshS])
  · intro n hn
    simp [freshS] at hn
    subst hn
    decide
theorem mk_fit : mkS.Fit := by
  refine ⟨⟨by decide, by decide⟩, ⟨by decide, by decide⟩, ?_, by simp [mkS], ?_, by simp [mkS], by simp [mkS]⟩
  · intro x hx
    simp only [mkS, List.mem_cons, List.not_mem_nil, or_false] at hx
    rcases hx with rfl | rfl
    · exact ⟨⟨by decide, by decide⟩, ⟨by decide, by decide⟩, ⟨by decide, by decide⟩⟩
    · exact ⟨⟨by decide, by decide⟩, ⟨by decide, by decide⟩, ⟨by decide, by decide⟩⟩
  · intro x hx
    simp only [mkS, List.mem_cons, List.not_mem_nil, or_false] at hx
    subst hx
    exact ⟨⟨by decide, by decide⟩, ⟨by decide, by decide⟩, ⟨by decide, by decide⟩, ⟨by decide, by decide⟩, by simp [lockA]⟩
theorem mk_right : RightS mkS := by
  refine ⟨⟨tree_of_prog rfl (by decide) (fun i hi => ?_) (fun i hi => ?_), ?_⟩, ⟨right_nil, by simp [mkS]⟩, ⟨by decide, ?_, by simp [mkS], by decide⟩, ⟨by simp [mkS], .nil⟩, ⟨by simp [mkS], .nil⟩⟩
  · obtain rfl : i = 0 := by simp [mkS] at hi; omega
    decide
  · obtain rfl : i = 0 := by simp [mkS] at hi; omega
    decide
  · intro n hn
    simp [mkS] at hn
    subst hn
    decide
  · intro l hl
    simp only [mkS, List.mem_cons, List.not_mem_nil, or_false] at hl
    subst hl
    exact ⟨⟨by decide, by decide, by simp [lockA]⟩, by decide, fun _ => by decide⟩
theorem chg_len : (mergeL (rowsL freshS) (rowsL mkS)).length = 3 := by
  have e1 : rowsL freshS = [bootR 0, nextR 2] := rfl
  have e2 : rowsL mkS = [bootR 0, nextR 3, lockR lockA, nodeR kidA] := rfl
  rw [e1, e2, mergeL_same, mergeL_eq (x := nextR 2) (y := nextR 3) rfl (by decide)]
  simp [mergeL]

end Go.Proofs.YtalkhhjfplahkaaGreat
