/- What a reader makes of what was written, and of what is cut off; and what was read, written anew: of no program. -/
import Derived.Test.YtjnbajpckohnnaaPure
namespace Go.Proofs.Ytjnbajpckohnnaa

theorem hd4_be4 (n : Nat) (r : List UInt8) (h : n < 4294967296) : hd4 (be4 n ++ r) = n := by
  show decB (UInt8.ofNat (n / 16777216)) (UInt8.ofNat (n / 65536)) (UInt8.ofNat (n / 256)) (UInt8.ofNat n) = n
  unfold decB
  simp
  omega

theorem be4_hd4 (bs : List UInt8) (h : 4 ≤ bs.length) : be4 (hd4 bs) ++ bs.drop 4 = bs := by
  obtain ⟨a, b, c, d, r, rfl⟩ := four bs h
  have h0 := a.toNat_lt; have h1 := b.toNat_lt; have h2 := c.toNat_lt; have h3 := d.toNat_lt
  have e : ∀ (x : UInt8) (n : Nat), n % 256 = x.toNat → UInt8.ofNat n = x := fun x n hn => by
    apply UInt8.toNat_inj.1
    simpa using hn
  show UInt8.ofNat (decB a b c d / 16777216) :: UInt8.ofNat (decB a b c d / 65536) :: UInt8.ofNat (decB a b c d / 256) :: UInt8.ofNat (decB a b c d) :: r = _
  unfold decB
  rw [e a _ (by omega), e b _ (by omega), e c _ (by omega), e d _ (by omega)]

theorem rNumber_be4 (n : Nat) (r : List UInt8) (h : n < 4294967296) : rNumber (be4 n ++ r) 0 = (n, r, 0) := by
  unfold rNumber
  rw [if_neg (by simp), if_neg (by simp [be4_length]), hd4_be4 n r h]
  rfl
theorem rLong_be8 (n : Nat) (r : List UInt8) (h : n < 18446744073709551616) : rLong (be8 n ++ r) 0 = (n, r, 0) := by
  unfold rLong be8
  rw [if_neg (by simp), if_neg (by simp [be4_length]; omega), List.append_assoc, hd4_be4 _ _ (by omega)]
  have : (be4 (n / 4294967296) ++ (be4 (n % 4294967296) ++ r)).drop 4 = be4 (n % 4294967296) ++ r := rfl
  rw [this, hd4_be4 _ _ (by omega)]
  refine Prod.ext ?_ rfl
  simp only
  omega
theorem rFlag_be4 (b : Bool) (r : List UInt8) : rFlag (be4 b.toNat ++ r) 0 = (b, r, 0) := by
  unfold rFlag
  rw [if_neg (by simp), if_neg (by simp [be4_length]), hd4_be4 _ r (by cases b <;> decide)]
  cases b <;> rfl

theorem take_append_len {l r : List UInt8} {n : Nat} (h : l.length = n) : (l ++ r).take n = l := by rw [← h]; exact List.take_left
theorem drop_append_len {l r : List UInt8} {n : Nat} (h : l.length = n) : (l ++ r).drop n = r := by rw [← h]; exact List.drop_left

theorem zeros_any (n : Nat) : (zeros n).any (· != 0) = false := by
  unfold zeros
  simp

theorem rText_encT (most : Int) (s r : List UInt8) (hm : (s.length : Int) ≤ most) (h : s.length < 4294967296) : rText most (encT s ++ r) 0 = (s, r, 0) := by
  have hd : hd4 (encT s ++ r) = s.length := by unfold encT; rw [List.append_assoc]; exact hd4_be4 _ _ h
  have hl := encT_length s
  have e1 : (encT s ++ r).drop 4 = (s ++ zeros (padN s.length)) ++ r := by unfold encT; rw [List.append_assoc]; exact drop_append_len (be4_length _)
  have e2 : (encT s ++ r).drop (4 + s.length) = zeros (padN s.length) ++ r := by rw [← List.drop_drop, e1, List.append_assoc]; exact drop_append_len rfl
  unfold rText
  rw [if_neg (by simp), if_neg (by rw [List.length_append]; omega), hd, if_neg (by omega), if_neg (by rw [List.length_append]; omega), e2, take_append_len (by simp [zeros]), zeros_any, if_neg (by simp), e1, List.append_assoc, take_append_len rfl]
  rw [show (encT s ++ r).drop (4 + s.length + padN s.length) = r from drop_append_len (by omega)]

theorem decNs_encNs (l : List Nat) (r : List UInt8) (h : ∀ n ∈ l, n < 4294967296) : decNs l.length (encNs l ++ r) = l := by
  induction l with
  | nil => rfl
  | cons a l ih =>
    simp only [encNs, List.length_cons, decNs, List.append_assoc]
    rw [hd4_be4 _ _ (h a (by simp)), show (be4 a ++ (encNs l ++ r)).drop 4 = encNs l ++ r from rfl, ih (fun n hn => h n (by simp [hn]))]

theorem rList_encL (most : Int) (l : List Nat) (r : List UInt8) (hm : (l.length : Int) ≤ most) (h : l.length < 4294967296) (hu : ∀ n ∈ l, n < 4294967296) : rList most (encL l ++ r) 0 = (l, r, 0) := by
  have hd : hd4 (encL l ++ r) = l.length := by unfold encL; rw [List.append_assoc]; exact hd4_be4 _ _ h
  have hl := encL_length l
  have e1 : (encL l ++ r).drop 4 = encNs l ++ r := by unfold encL; rw [List.append_assoc]; exact drop_append_len (be4_length _)
  unfold rList
  rw [if_neg (by simp), if_neg (by rw [List.length_append]; omega), hd, if_neg (by omega), if_neg (by rw [List.length_append]; omega), e1, decNs_encNs l r hu]
  rw [show (encL l ++ r).drop (4 + 4 * l.length) = r from drop_append_len (by omega)]

/-! ### What is cut off. -/
theorem hd4_prefix (b t : List UInt8) (h : 4 ≤ b.length) : hd4 (b ++ t) = hd4 b := by
  obtain ⟨a0, a1, a2, a3, r, rfl⟩ := four b h
  rfl

theorem rNumber_cut (b : List UInt8) (h : b.length < 4) : (rNumber b 0).2 = (b, 2) := by
  unfold rNumber
  rw [if_neg (by simp), if_pos h]
theorem rLong_cut (b : List UInt8) (h : b.length < 8) : (rLong b 0).2 = (b, 2) := by
  unfold rLong
  rw [if_neg (by simp), if_pos h]
theorem rFlag_cut (b : List UInt8) (h : b.length < 4) : (rFlag b 0).2 = (b, 2) := by
  unfold rFlag
  rw [if_neg (by simp), if_pos h]
theorem rText_cut (most : Int) (s b t : List UInt8) (he : b ++ t = encT s) (ht : t ≠ []) (hm : (s.length : Int) ≤ most) (h : s.length < 4294967296) : (rText most b 0).2 = (b, 2) := by
  have hl := encT_length s
  have htl : 0 < t.length := List.length_pos_iff.2 ht
  have hbl : b.length + t.length = 4 + s.length + padN s.length := by rw [← hl, ← he, List.length_append]
  unfold rText
  rw [if_neg (by simp)]
  by_cases h4 : b.length < 4
  · rw [if_pos h4]
  · have hd : hd4 b = s.length := by
      rw [← hd4_prefix b t (by omega), he]
      have := hd4_be4 s.length (s ++ zeros (padN s.length)) h
      exact this
    rw [if_neg h4, hd, if_neg (by omega), if_pos (by omega)]
theorem rList_cut (most : Int) (l : List Nat) (b t : List UInt8) (he : b ++ t = encL l) (ht : t ≠ []) (hm : (l.length : Int) ≤ most) (h : l.length < 4294967296) : (rList most b 0).2 = (b, 2) := by
  have hl := encL_length l
  have htl : 0 < t.length := List.length_pos_iff.2 ht
  have hbl : b.length + t.length = 4 + 4 * l.length := by rw [← hl, ← he, List.length_append]
  unfold rList
  rw [if_neg (by simp)]
  by_cases h4 : b.length < 4
  · rw [if_pos h4]
  · have hd : hd4 b = l.length := by
      rw [← hd4_prefix b t (by omega), he]
      exact hd4_be4 l.length (encNs l) h
    rw [if_neg h4, hd, if_neg (by omega), if_pos (by omega)]

/-! ### An error stays. -/
theorem rNumber_err (b : List UInt8) (e : Nat) (h : e ≠ 0) : rNumber b e = (0, b, e) := by unfold rNumber; rw [if_pos h]
theorem rLong_err (b : List UInt8) (e : Nat) (h : e ≠ 0) : rLong b e = (0, b, e) := by unfold rLong; rw [if_pos h]
theorem rFlag_err (b : List UInt8) (e : Nat) (h : e ≠ 0) : rFlag b e = (false, b, e) := by unfold rFlag; rw [if_pos h]
theorem rText_err (m : Int) (b : List UInt8) (e : Nat) (h : e ≠ 0) : rText m b e = ([], b, e) := by unfold rText; rw [if_pos h]
theorem rList_err (m : Int) (b : List UInt8) (e : Nat) (h : e ≠ 0) : rList m b e = ([], b, e) := by unfold rList; rw [if_pos h]

/-! ### What was read, written anew. -/
theorem rNumber_one (bs : List UInt8) (h : (rNumber bs 0).2.2 = 0) : be4 (rNumber bs 0).1 ++ (rNumber bs 0).2.1 = bs := by
  unfold rNumber at *
  rw [if_neg (by simp)] at *
  by_cases h4 : bs.length < 4
  · rw [if_pos h4] at h; simp at h
  · rw [if_neg h4]
    exact be4_hd4 bs (by omega)
theorem rLong_one (bs : List UInt8) (h : (rLong bs 0).2.2 = 0) : be8 (rLong bs 0).1 ++ (rLong bs 0).2.1 = bs := by
  unfold rLong at *
  rw [if_neg (by simp)] at *
  by_cases h8 : bs.length < 8
  · rw [if_pos h8] at h; simp at h
  · rw [if_neg h8]
    have h1 := hd4_lt bs
    have h2 := hd4_lt (bs.drop 4)
    simp only
    unfold be8
    rw [show (hd4 bs * 4294967296 + hd4 (bs.drop 4)) / 4294967296 = hd4 bs by omega, show (hd4 bs * 4294967296 + hd4 (bs.drop 4)) % 4294967296 = hd4 (bs.drop 4) by omega]
    rw [List.append_assoc, show bs.drop 8 = (bs.drop 4).drop 4 by rw [List.drop_drop], be4_hd4 (bs.drop 4) (by simp; omega), be4_hd4 bs (by omega)]
theorem rFlag_one (bs : List UInt8) (h : (rFlag bs 0).2.2 = 0) : be4 (rFlag bs 0).1.toNat ++ (rFlag bs 0).2.1 = bs := by
  unfold rFlag at *
  rw [if_neg (by simp)] at *
  by_cases h4 : bs.length < 4
  · rw [if_pos h4] at h; simp at h
  · rw [if_neg h4] at *
    by_cases h1 : 1 < hd4 bs
    · rw [if_pos h1] at h; simp at h
    · rw [if_neg h1]
      have e : (decide (hd4 bs = 1)).toNat = hd4 bs := by
        by_cases h2 : hd4 bs = 1
        · simp [h2]
        · have : hd4 bs = 0 := by omega
          simp [this]
      simp only [e]
      exact be4_hd4 bs (by omega)

theorem all_zero (l : List UInt8) (h : l.any (· != 0) = false) : l = zeros l.length := by
  apply List.ext_getElem
  · simp [zeros]
  · intro j h1 h2
    have := List.any_eq_false.1 h l[j] (List.getElem_mem h1)
    simp [zeros] at this ⊢
    exact this

theorem rText_one (most : Int) (bs : List UInt8) (h : (rText most bs 0).2.2 = 0) : encT (rText most bs 0).1 ++ (rText most bs 0).2.1 = bs ∧ ((rText most bs 0).1.length : Int) ≤ most := by
  unfold rText at *
  rw [if_neg (by simp)] at *
  by_cases h4 : bs.length < 4
  · rw [if_pos h4] at h; simp at h
  rw [if_neg h4] at *
  by_cases h1 : most < (hd4 bs : Int)
  · rw [if_pos h1] at h; simp at h
  rw [if_neg h1] at *
  by_cases h2 : bs.length < 4 + hd4 bs + padN (hd4 bs)
  · rw [if_pos h2] at h; simp at h
  rw [if_neg h2] at *
  by_cases h3 : ((bs.drop (4 + hd4 bs)).take (padN (hd4 bs))).any (· != 0) = true
  · rw [if_pos h3] at h; simp at h
  rw [if_neg h3]
  simp only
  have hz := all_zero _ (by simpa using h3)
  have hzl : ((bs.drop (4 + hd4 bs)).take (padN (hd4 bs))).length = padN (hd4 bs) := by simp; omega
  rw [hzl] at hz
  have hl : ((bs.drop 4).take (hd4 bs)).length = hd4 bs := by simp; omega
  refine ⟨?_, by rw [hl]; omega⟩
  unfold encT
  rw [hl, ← hz, List.append_assoc, List.append_assoc]
  have e1 : (bs.drop (4 + hd4 bs)).take (padN (hd4 bs)) ++ bs.drop (4 + hd4 bs + padN (hd4 bs)) = bs.drop (4 + hd4 bs) := by
    rw [show bs.drop (4 + hd4 bs + padN (hd4 bs)) = (bs.drop (4 + hd4 bs)).drop (padN (hd4 bs)) by rw [List.drop_drop], List.take_append_drop]
  rw [e1]
  have e2 : (bs.drop 4).take (hd4 bs) ++ bs.drop (4 + hd4 bs) = bs.drop 4 := by
    rw [show bs.drop (4 + hd4 bs) = (bs.drop 4).drop (hd4 bs) by rw [List.drop_drop], List.take_append_drop]
  rw [e2]
  exact be4_hd4 bs (by omega)

theorem encNs_decNs (n : Nat) (l : List UInt8) (h : 4 * n ≤ l.length) : encNs (decNs n l) ++ l.drop (4 * n) = l := by
  induction n generalizing l with
  | zero => simp [decNs, encNs]
  | succ n ih =>
    simp only [decNs, encNs]
    have := ih (l.drop 4) (by simp; omega)
    rw [List.drop_drop, show 4 + 4 * n = 4 * (n + 1) by omega] at this
    rw [List.append_assoc, this]
    exact be4_hd4 l (by omega)

theorem decNs_lt (n : Nat) (l : List UInt8) : ∀ x ∈ decNs n l, x < 4294967296 := by
  induction n generalizing l with
  | zero => simp [decNs]
  | succ n ih =>
    intro x hx
    simp only [decNs, List.mem_cons] at hx
    rcases hx with rfl | hx
    · exact hd4_lt l
    · exact ih _ x hx

theorem rList_one (most : Int) (bs : List UInt8) (h : (rList most bs 0).2.2 = 0) : encL (rList most bs 0).1 ++ (rList most bs 0).2.1 = bs ∧ ((rList most bs 0).1.length : Int) ≤ most ∧ ∀ x ∈ (rList most bs 0).1, x < 4294967296 := by
  unfold rList at *
  rw [if_neg (by simp)] at *
  by_cases h4 : bs.length < 4
  · rw [if_pos h4] at h; simp at h
  rw [if_neg h4] at *
  by_cases h1 : most < (hd4 bs : Int)
  · rw [if_pos h1] at h; simp at h
  rw [if_neg h1] at *
  by_cases h2 : bs.length < 4 + 4 * hd4 bs
  · rw [if_pos h2] at h; simp at h
  rw [if_neg h2]
  simp only
  refine ⟨?_, by rw [decNs_length]; omega, decNs_lt _ _⟩
  unfold encL
  rw [decNs_length, List.append_assoc]
  have := encNs_decNs (hd4 bs) (bs.drop 4) (by simp; omega)
  rw [List.drop_drop] at this
  rw [this]
  exact be4_hd4 bs (by omega)

theorem rLong_lt (bs : List UInt8) (e : Nat) : (rLong bs e).1 < 18446744073709551616 := by
  unfold rLong
  have h1 := hd4_lt bs
  have h2 := hd4_lt (bs.drop 4)
  split
  · simp
  · split
    · simp
    · simp only; omega
theorem rNumber_lt (bs : List UInt8) (e : Nat) : (rNumber bs e).1 < 4294967296 := by
  unfold rNumber
  have h1 := hd4_lt bs
  split
  · simp
  · split
    · simp
    · simp only; omega

theorem rNumber_len (bs : List UInt8) (e : Nat) : (rNumber bs e).2.1.length ≤ bs.length := by
  unfold rNumber
  repeat' split
  all_goals simp
theorem rLong_len (bs : List UInt8) (e : Nat) : (rLong bs e).2.1.length ≤ bs.length := by
  unfold rLong
  repeat' split
  all_goals simp
theorem rFlag_len (bs : List UInt8) (e : Nat) : (rFlag bs e).2.1.length ≤ bs.length := by
  unfold rFlag
  repeat' split
  all_goals simp
theorem rText_len (m : Int) (bs : List UInt8) (e : Nat) : (rText m bs e).2.1.length ≤ bs.length := by
  unfold rText
  repeat' split
  all_goals simp
theorem rList_len (m : Int) (bs : List UInt8) (e : Nat) : (rList m bs e).2.1.length ≤ bs.length := by
  unfold rList
  repeat' split
  all_goals simp

end Go.Proofs.Ytjnbajpckohnnaa
