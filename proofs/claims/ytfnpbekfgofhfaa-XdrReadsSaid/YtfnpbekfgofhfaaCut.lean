/- The walk of XdrCut: of bytes that were written and cut off, not all is read. -/
import Derived.Test.YtfnpbekfgofhfaaWrites
import Derived.Test.YtfnpbekfgofhfaaPure2
namespace Go.Proofs.Ytfnpbekfgofhfaa
open Go.RowKit

/-- Of what was written from item k on, the reader has a part that is not all, and no error; or it has told that bytes lack. -/
def CutAt (its : List It) (k : Nat) (bs : List UInt8) (err : Nat) : Prop :=
  err = 2 ∨ (err = 0 ∧ ∃ r, r ≠ [] ∧ bs ++ r = allB (its.drop k))

theorem allB_drop (its : List It) (k : Nat) (h : k < its.length) : allB (its.drop k) = its[k].bytes ++ allB (its.drop (k + 1)) := by
  rw [List.drop_eq_getElem_cons h]
  rfl

/-- Where a read of the whole item gives it and leaves the rest, and a read of a part of it tells that bytes lack, it goes on. -/
theorem CutAt.step {its : List It} {k : Nat} {bs : List UInt8} (hk : k < its.length) (h : CutAt its k bs 0) (f : List UInt8 → List UInt8 × Nat) (B : List UInt8) (hB : its[k].bytes = B)
    (whole : ∀ r, f (B ++ r) = (r, 0)) (cut : ∀ b t, b ++ t = B → t ≠ [] → f b = (b, 2)) : CutAt its (k + 1) (f bs).1 (f bs).2 := by
  rcases h with h | ⟨_, r, hr, he⟩
  · cases h
  rw [allB_drop its k hk, hB] at he
  rcases Nat.lt_or_ge bs.length B.length with hlt | hge
  · have e1 : bs ++ B.drop bs.length = B := by
      have := congrArg (List.take bs.length) he
      rw [List.take_left, List.take_append_of_le_length (by omega)] at this
      conv => rhs; rw [← List.take_append_drop bs.length B]
      rw [← this]
    have e2 : B.drop bs.length ≠ [] := by
      intro e
      have := congrArg List.length e
      simp at this
      omega
    rw [cut bs _ e1 e2]
    exact .inl rfl
  · have e1 : B ++ bs.drop B.length = bs := by
      have := congrArg (List.take B.length) he
      rw [List.take_append_of_le_length hge, List.take_left] at this
      conv => rhs; rw [← List.take_append_drop B.length bs]
      rw [this]
    have e2 : bs.drop B.length ++ r = allB (its.drop (k + 1)) := by
      have := congrArg (List.drop B.length) he
      rw [List.drop_append_of_le_length hge, List.drop_left] at this
      exact this
    rw [show f bs = (bs.drop B.length, 0) by rw [← whole (bs.drop B.length), e1]]
    exact .inr ⟨rfl, r, hr, e2⟩

theorem CutAt.skip {its : List It} {k : Nat} {bs : List UInt8} {err : Nat} (hk : k < its.length) (h : CutAt its k bs err) (hB : its[k].bytes = []) : CutAt its (k + 1) bs err := by
  rcases h with h | ⟨he, r, hr, e⟩
  · exact .inl h
  · rw [allB_drop its k hk, hB] at e
    exact .inr ⟨he, r, hr, e⟩

theorem CutAt.done {its : List It} {bs : List UInt8} {err : Nat} (h : CutAt its its.length bs err) : err = 2 := by
  rcases h with h | ⟨_, r, hr, e⟩
  · exact h
  · rw [List.drop_length] at e
    have : bs ++ r = [] := e
    exact absurd (List.append_eq_nil_iff.1 this).2 hr

theorem CutAt.zero {its : List It} {k : Nat} {bs : List UInt8} {err : Nat} (h : CutAt its k bs err) : err = 2 ∨ err = 0 := by
  rcases h with h | ⟨h, _⟩
  · exact .inl h
  · exact .inr h

theorem bytes_0 (x : It) (h : x.kind.tmod 5 = 0) : x.bytes = be4 (x.n % 4294967296) := by unfold It.bytes; rw [if_pos h]
theorem bytes_1 (x : It) (h : x.kind.tmod 5 = 1) : x.bytes = be8 x.n := by unfold It.bytes; rw [if_neg (by omega), if_pos h]
theorem bytes_2 (x : It) (h : x.kind.tmod 5 = 2) : x.bytes = be4 (decide (x.n % 2 = 1)).toNat := by unfold It.bytes; rw [if_neg (by omega), if_neg (by omega), if_pos h]
theorem bytes_3 (x : It) (h : x.kind.tmod 5 = 3) : x.bytes = encT x.s.data.toList := by unfold It.bytes; rw [if_neg (by omega), if_neg (by omega), if_neg (by omega), if_pos h]
theorem bytes_4 (x : It) (h : x.kind.tmod 5 = 4) : x.bytes = encL x.l := by unfold It.bytes; rw [if_neg (by omega), if_neg (by omega), if_neg (by omega), if_neg (by omega), if_pos h]
theorem bytes_5 (x : It) (h0 : x.kind.tmod 5 ≠ 0) (h1 : x.kind.tmod 5 ≠ 1) (h2 : x.kind.tmod 5 ≠ 2) (h3 : x.kind.tmod 5 ≠ 3) (h4 : x.kind.tmod 5 ≠ 4) : x.bytes = [] := by
  unfold It.bytes; rw [if_neg h0, if_neg h1, if_neg h2, if_neg h3, if_neg h4]

theorem cut_number {its : List It} {k : Nat} {bs : List UInt8} {err : Nat} (hk : k < its.length) (h : CutAt its k bs err) (e : its[k].kind.tmod 5 = 0) : CutAt its (k + 1) (rNumber bs err).2.1 (rNumber bs err).2.2 := by
  rcases h.zero with h2 | h0
  · subst h2; rw [rNumber_err _ _ (by decide)]; exact .inl rfl
  · subst h0
    exact h.step hk (fun b => (rNumber b 0).2) _ (bytes_0 _ e) (fun r => by rw [rNumber_be4 _ _ (by omega)]) (fun b t hbt ht => rNumber_cut b (by
      have := congrArg List.length hbt; have := List.length_pos_iff.2 ht; simp [be4_length] at *; omega))
theorem cut_long {its : List It} {k : Nat} {bs : List UInt8} {err : Nat} (hk : k < its.length) (h : CutAt its k bs err) (hn : its[k].n < 18446744073709551616) (e : its[k].kind.tmod 5 = 1) : CutAt its (k + 1) (rLong bs err).2.1 (rLong bs err).2.2 := by
  rcases h.zero with h2 | h0
  · subst h2; rw [rLong_err _ _ (by decide)]; exact .inl rfl
  · subst h0
    exact h.step hk (fun b => (rLong b 0).2) _ (bytes_1 _ e) (fun r => by rw [rLong_be8 _ _ hn]) (fun b t hbt ht => rLong_cut b (by
      have := congrArg List.length hbt; have := List.length_pos_iff.2 ht; simp [be8_length] at *; omega))
theorem cut_flag {its : List It} {k : Nat} {bs : List UInt8} {err : Nat} (hk : k < its.length) (h : CutAt its k bs err) (e : its[k].kind.tmod 5 = 2) : CutAt its (k + 1) (rFlag bs err).2.1 (rFlag bs err).2.2 := by
  rcases h.zero with h2 | h0
  · subst h2; rw [rFlag_err _ _ (by decide)]; exact .inl rfl
  · subst h0
    exact h.step hk (fun b => (rFlag b 0).2) _ (bytes_2 _ e) (fun r => by rw [rFlag_be4 _ _]) (fun b t hbt ht => rFlag_cut b (by
      have := congrArg List.length hbt; have := List.length_pos_iff.2 ht; simp [be4_length] at *; omega))
theorem cut_text {its : List It} {k : Nat} {bs : List UInt8} {err : Nat} (hk : k < its.length) (h : CutAt its k bs err) (hs : its[k].s.size ≤ 2000) (e : its[k].kind.tmod 5 = 3) : CutAt its (k + 1) (rText 2000 bs err).2.1 (rText 2000 bs err).2.2 := by
  have hl : its[k].s.data.toList.length = its[k].s.size := by simp
  rcases h.zero with h2 | h0
  · subst h2; rw [rText_err _ _ _ (by decide)]; exact .inl rfl
  · subst h0
    exact h.step hk (fun b => (rText 2000 b 0).2) _ (bytes_3 _ e) (fun r => by rw [rText_encT _ _ _ (by omega) (by omega)]) (fun b t hbt ht => rText_cut _ _ b t hbt ht (by omega) (by omega))
theorem cut_list {its : List It} {k : Nat} {bs : List UInt8} {err : Nat} (hk : k < its.length) (h : CutAt its k bs err) (hs : its[k].l.length ≤ 500) (hu : ∀ n ∈ its[k].l, n < 4294967296) (e : its[k].kind.tmod 5 = 4) :
    CutAt its (k + 1) (rList 500 bs err).2.1 (rList 500 bs err).2.2 := by
  rcases h.zero with h2 | h0
  · subst h2; rw [rList_err _ _ _ (by decide)]; exact .inl rfl
  · subst h0
    exact h.step hk (fun b => (rList 500 b 0).2) _ (bytes_4 _ e) (fun r => by rw [rList_encL _ _ _ (by omega) (by omega) hu]) (fun b t hbt ht => rList_cut _ _ b t hbt ht (by omega) (by omega))

end Go.Proofs.Ytfnpbekfgofhfaa
