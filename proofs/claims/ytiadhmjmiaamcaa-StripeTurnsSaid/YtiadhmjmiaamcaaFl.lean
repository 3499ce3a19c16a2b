/- What a double says of a whole number: plain facts on Ieee's words, for the walks of package plane. -/
import Derived.Laws.ComplexArith
import Derived.Laws.Cover3
namespace Go.Proofs.Ytiadhmjmiaamcaa.Fl
open Ieee Go

theorem signed_eq (s : Bool) (m up : Nat) : signed s m up = signed s m 0 * 2 ^ up := by
  unfold signed
  cases s <;> simp [Nat.shiftLeft_eq, Int.neg_mul]

theorem pow_split (a b : Int) (ha : a ≤ b) (hb : b ≤ 0) : (2 : Int) ^ (-a).toNat = 2 ^ (-b).toNat * 2 ^ (b - a).toNat := by
  rw [← Int.pow_add]
  congr 1
  omega

/-- The double 'b' stands for the whole number 'z'. -/
def Whole (b : Nat) (z : Int) : Prop := ∃ s m e, double.read b = .number s m e ∧ e ≤ 0 ∧ signed s m 0 = z * 2 ^ (-e).toNat

theorem signed_at {s : Bool} {m : Nat} {e base z : Int} (he : e ≤ 0) (hb : base ≤ e) (h : signed s m 0 = z * 2 ^ (-e).toNat) :
    signed s m (e - base).toNat = z * 2 ^ (-base).toNat := by
  rw [signed_eq, h, pow_split base e hb he, Int.mul_assoc]

theorem pow_pos (n : Nat) : (0 : Int) < 2 ^ n := Int.pow_pos (by decide)

theorem compare_mul (x y c : Int) (hc : 0 < c) : compare (x * c) (y * c) = compare x y := by
  rcases Int.lt_trichotomy x y with h | h | h
  · rw [Int.compare_eq_lt.2 h, Int.compare_eq_lt.2 (Int.mul_lt_mul_of_pos_right h hc)]
  · subst h; simp
  · rw [Int.compare_eq_gt.2 h, Int.compare_eq_gt.2 (Int.mul_lt_mul_of_pos_right h hc)]

theorem order_whole {a b : Nat} {x y : Int} (ha : Whole a x) (hb : Whole b y) : double.order a b = some (compare x y) := by
  obtain ⟨s, m, i, hr, hi, hv⟩ := ha
  obtain ⟨t, n, j, hr', hj, hv'⟩ := hb
  unfold Format.order
  rw [hr, hr']
  simp only [Datum.order]
  rw [signed_at hi (Int.min_le_left i j) hv, signed_at hj (Int.min_le_right i j) hv', compare_mul _ _ _ (pow_pos _)]

/-- The rung of a positive whole number. -/
def rung (k : Nat) : Nat := (k.log2 + 1022) * 4503599627370496 + k * 2 ^ (52 - k.log2)

theorem log_bd {k : Nat} (h0 : 0 < k) (h : k < 9007199254740992) : k.log2 ≤ 52 ∧ 4503599627370496 ≤ k * 2 ^ (52 - k.log2) ∧ k * 2 ^ (52 - k.log2) < 9007199254740992 := by
  have h1 : k.log2 < 53 := (Nat.log2_lt (by omega)).2 (by rw [show (2 : Nat) ^ 53 = 9007199254740992 from rfl]; exact h)
  have h2 : 2 ^ k.log2 ≤ k := Nat.log2_self_le (by omega)
  have h3 : k < 2 ^ (k.log2 + 1) := Nat.lt_log2_self
  refine ⟨by omega, ?_, ?_⟩
  · calc 4503599627370496 = 2 ^ k.log2 * 2 ^ (52 - k.log2) := by rw [← Nat.pow_add, show k.log2 + (52 - k.log2) = 52 by omega]
      _ ≤ _ := Nat.mul_le_mul_right _ h2
  · calc k * 2 ^ (52 - k.log2) < 2 ^ (k.log2 + 1) * 2 ^ (52 - k.log2) := Nat.mul_lt_mul_of_pos_right h3 (Nat.two_pow_pos _)
      _ = 9007199254740992 := by rw [← Nat.pow_add, show k.log2 + 1 + (52 - k.log2) = 53 by omega]

theorem log_mul (k p : Nat) (h : 0 < k) : (k * 2 ^ p).log2 = k.log2 + p := by
  have h2 : 2 ^ k.log2 ≤ k := Nat.log2_self_le (by omega)
  have h3 : k < 2 ^ (k.log2 + 1) := Nat.lt_log2_self
  have hp : 0 < 2 ^ p := Nat.two_pow_pos _
  have hne : k * 2 ^ p ≠ 0 := by
    have := Nat.mul_pos h hp
    omega
  have a : k.log2 + p ≤ (k * 2 ^ p).log2 := (Nat.le_log2 hne).2 (by rw [Nat.pow_add]; exact Nat.mul_le_mul_right _ h2)
  have b : (k * 2 ^ p).log2 < k.log2 + p + 1 := (Nat.log2_lt hne).2 (by rw [show k.log2 + p + 1 = (k.log2 + 1) + p by omega, Nat.pow_add]; exact Nat.mul_lt_mul_of_pos_right h3 hp)
  omega

theorem cut_exact (way : Toward) (neg : Bool) (n d : Nat) : way.cut neg (n * 2 ^ d) d = n := by
  unfold Toward.cut
  by_cases h : n = 0
  · subst h
    simp only [Nat.zero_mul, Nat.zero_div, Nat.zero_mod, Nat.mul_zero]
    cases way <;> simp [Nat.shiftLeft_eq]
  · have hl : (n * 2 ^ d).log2 = n.log2 + d := log_mul n d (by omega)
    have hm : min d ((n * 2 ^ d).log2 + 2) = d := by omega
    simp only [hm, Nat.shiftLeft_eq, Nat.one_mul, Nat.mul_div_cancel _ (Nat.two_pow_pos d), Nat.mul_mod_left, Nat.mul_zero]
    cases way <;> simp [Nat.pow_eq_zero]

theorem nearest_whole {k : Nat} (neg : Bool) (place : Int) (h0 : 0 < k) (h : k < 9007199254740992) (hp : place ≤ 0) :
    double.nearest neg (k * 2 ^ (-place).toNat) place = double.word neg (rung k) := by
  obtain ⟨hl, hb1, hb2⟩ := log_bd h0 h
  have hne : k * 2 ^ (-place).toNat ≠ 0 := by
    have := Nat.mul_pos h0 (Nat.two_pow_pos (-place).toNat)
    omega
  have hlog := log_mul k (-place).toNat h0
  have e1 : double.fractionBits = 52 := rfl
  have e2 : double.leastPlace = -1074 := by decide +kernel
  have e3 : double.binade = 4503599627370496 := by decide +kernel
  have e4 : double.infRung = 9218868437227405312 := by decide +kernel
  unfold Format.nearest
  rw [if_neg hne]
  simp only [hlog, e1, e2, e3, e4]
  have hlast : max (place + ((k.log2 + (-place).toNat : Nat) : Int) - ((52 : Nat) : Int)) (-1074) = (k.log2 : Int) - 52 := by omega
  rw [hlast]
  have hcut : Toward.even.cut neg ((k * 2 ^ (-place).toNat) <<< (place - ((k.log2 : Int) - 52)).toNat) (((k.log2 : Int) - 52) - place).toNat = k * 2 ^ (52 - k.log2) := by
    rw [Nat.shiftLeft_eq]
    by_cases hc : (k.log2 : Int) - 52 ≤ place
    · rw [show (((k.log2 : Int) - 52) - place).toNat = 0 by omega]
      have := cut_exact .even neg (k * 2 ^ (-place).toNat * 2 ^ (place - ((k.log2 : Int) - 52)).toNat) 0
      rw [Nat.pow_zero, Nat.mul_one] at this
      rw [this, Nat.mul_assoc, ← Nat.pow_add]
      congr 2
      omega
    · rw [show (place - ((k.log2 : Int) - 52)).toNat = 0 by omega, Nat.pow_zero, Nat.mul_one]
      have := cut_exact .even neg (k * 2 ^ (52 - k.log2)) (((k.log2 : Int) - 52) - place).toNat
      rw [Nat.mul_assoc, ← Nat.pow_add] at this
      rw [show (-place).toNat = 52 - k.log2 + (((k.log2 : Int) - 52) - place).toNat by omega]
      exact this
  rw [hcut]
  unfold rung
  rw [show ((k.log2 : Int) - 52 - (-1074)).toNat = k.log2 + 1022 by omega, Nat.min_eq_left (by omega)]

theorem read_word {k : Nat} (neg : Bool) (h0 : 0 < k) (h : k < 9007199254740992) :
    double.read (double.word neg (rung k)) = .number neg (k * 2 ^ (52 - k.log2)) ((k.log2 : Int) - 52) := by
  obtain ⟨hl, hb1, hb2⟩ := log_bd h0 h
  have e0 : double.signWeight = 9223372036854775808 := by decide +kernel
  have e2 : double.leastPlace = -1074 := by decide +kernel
  have e3 : double.binade = 4503599627370496 := by decide +kernel
  have e4 : double.infRung = 9218868437227405312 := by decide +kernel
  have hr : rung k < 9223372036854775808 := by unfold rung; omega
  have hs : (double.word neg (rung k) / 9223372036854775808 % 2 == 1) = neg := by
    unfold Format.word
    cases neg
    · simp only [Bool.false_eq_true, if_false]
      rw [Nat.div_eq_of_lt hr]; rfl
    · simp only [if_true, e0]
      rw [Nat.add_div_left _ (by decide), Nat.div_eq_of_lt hr]; rfl
  have hm : double.word neg (rung k) % 9223372036854775808 = rung k := by
    unfold Format.word
    cases neg
    · simp only [Bool.false_eq_true, if_false]
      exact Nat.mod_eq_of_lt hr
    · simp only [if_true, e0]
      rw [Nat.add_mod_left]; exact Nat.mod_eq_of_lt hr
  unfold Format.read
  simp only [e0, e2, e3, e4, hs, hm]
  have h1 : ¬ rung k < 4503599627370496 := by unfold rung; omega
  have h2 : rung k < 9218868437227405312 := by unfold rung; omega
  rw [if_neg h1, if_pos h2]
  have hd : rung k / 4503599627370496 = k.log2 + 1023 := by unfold rung; omega
  have hq : rung k % 4503599627370496 = k * 2 ^ (52 - k.log2) - 4503599627370496 := by unfold rung; omega
  rw [hd, hq]
  rw [show 4503599627370496 + (k * 2 ^ (52 - k.log2) - 4503599627370496) = k * 2 ^ (52 - k.log2) by omega, show (-1074 : Int) + ((k.log2 + 1023 - 1 : Nat) : Int) = (k.log2 : Int) - 52 by omega]

theorem whole_word {k : Nat} (neg : Bool) (h0 : 0 < k) (h : k < 9007199254740992) : Whole (double.word neg (rung k)) (if neg then -(k : Int) else k) := by
  refine ⟨_, _, _, read_word neg h0 h, ?_, ?_⟩
  · have := (log_bd h0 h).1; omega
  · have hl := (log_bd h0 h).1
    rw [show (-((k.log2 : Int) - 52)).toNat = 52 - k.log2 by omega]
    unfold signed
    cases neg <;> simp [Nat.shiftLeft_eq, Int.neg_mul]

theorem whole_zero (neg : Bool) : Whole (double.word neg 0) 0 := by
  cases neg
  · exact ⟨false, 0, -1074, by decide +kernel, by decide, by rw [Int.zero_mul]; simp [signed]⟩
  · exact ⟨true, 0, -1074, by decide +kernel, by decide, by rw [Int.zero_mul]; simp [signed]⟩

/-- What is written of a whole number of any form. -/
theorem write_whole {s : Bool} {m : Nat} {e z : Int} (he : e ≤ 0) (hz : z.natAbs < 9007199254740992) (h : signed s m 0 = z * 2 ^ (-e).toNat) : Whole (double.write (.number s m e)) z := by
  unfold Format.write
  simp only
  by_cases h0 : m = 0
  · subst h0
    have : z = 0 := by
      have h' : (0 : Int) = z * 2 ^ (-e).toNat := by rw [← h]; unfold signed; cases s <;> simp
      rcases Int.mul_eq_zero.1 h'.symm with h1 | h1
      · exact h1
      · have := pow_pos (-e).toNat; omega
    subst this
    unfold Format.nearest
    rw [if_pos rfl]
    exact whole_zero s
  · have hz0 : 0 < z.natAbs := by
      rcases Nat.eq_zero_or_pos z.natAbs with h1 | h1
      · exfalso
        rw [Int.natAbs_eq_zero.1 h1] at h
        unfold signed at h
        cases s <;> simp [Nat.shiftLeft_eq] at h <;> omega
      · exact h1
    have hm : m = z.natAbs * 2 ^ (-e).toNat ∧ z = if s then -(z.natAbs : Int) else z.natAbs := by
      have hp := pow_pos (-e).toNat
      have hpn : ((2 ^ (-e).toNat : Nat) : Int) = 2 ^ (-e).toNat := by simp
      unfold signed at h
      cases s
      · simp [Nat.shiftLeft_eq] at h
        have hzp : 0 ≤ z := by
          rcases Int.lt_or_le z 0 with hn | hn
          · have := Int.mul_neg_of_neg_of_pos hn hp; omega
          · exact hn
        have e1 : ((z.natAbs : Nat) : Int) = z := by omega
        refine ⟨?_, by simp [e1]⟩
        have : ((z.natAbs * 2 ^ (-e).toNat : Nat) : Int) = m := by rw [Int.natCast_mul, e1, hpn, h]
        omega
      · simp [Nat.shiftLeft_eq] at h
        have hzp : z ≤ 0 := by
          rcases Int.lt_or_le 0 z with hn | hn
          · have := Int.mul_pos hn hp; omega
          · exact hn
        have e1 : ((z.natAbs : Nat) : Int) = -z := by omega
        refine ⟨?_, by simp [e1]⟩
        have : ((z.natAbs * 2 ^ (-e).toNat : Nat) : Int) = m := by rw [Int.natCast_mul, e1, hpn, Int.neg_mul, ← h]; omega
        omega
    rw [hm.1, nearest_whole s e hz0 hz he]
    have := whole_word s hz0 hz
    rw [← hm.2] at this
    exact this

theorem whole_ofInt {z : Int} (hz : z.natAbs < 9007199254740992) : Whole (floatOfInt .f64 z) z := by
  refine write_whole (by decide) hz ?_
  unfold signed
  by_cases h : z < 0 <;> simp [h] <;> omega

theorem add_whole {a b : Nat} {x y : Int} (ha : Whole a x) (hb : Whole b y) (h : (x + y).natAbs < 9007199254740992) :
    ∃ r, double.add a b = some r ∧ Whole r (x + y) := by
  obtain ⟨s, m, i, hr, hi, hv⟩ := ha
  obtain ⟨t, n, j, hr', hj, hv'⟩ := hb
  unfold Format.add
  rw [hr, hr']
  simp only [Datum.sum, Option.map_some]
  refine ⟨_, rfl, write_whole (by omega) h ?_⟩
  rw [signed_at hi (Int.min_le_left i j) hv, signed_at hj (Int.min_le_right i j) hv', ← Int.add_mul]
  generalize (x + y) * 2 ^ (-min i j).toNat = v
  unfold signed
  by_cases h0 : v = 0
  · subst h0; cases s <;> cases t <;> simp
  · by_cases hl : v < 0 <;> simp [h0, hl] <;> omega

theorem sub_whole {a b : Nat} {x y : Int} (ha : Whole a x) (hb : Whole b y) (h : (x - y).natAbs < 9007199254740992) :
    ∃ r, double.sub a b = some r ∧ Whole r (x - y) := by
  obtain ⟨s, m, i, hr, hi, hv⟩ := ha
  obtain ⟨t, n, j, hr', hj, hv'⟩ := hb
  have hv2 : signed (!t) n 0 = (-y) * 2 ^ (-j).toNat := by
    rw [Int.neg_mul, ← hv']; unfold signed; cases t <;> simp
  unfold Format.sub
  rw [hr, hr']
  simp only [Datum.opposite, Datum.sum, Option.map_some]
  refine ⟨_, rfl, write_whole (by omega) h ?_⟩
  rw [signed_at hi (Int.min_le_left i j) hv, signed_at hj (Int.min_le_right i j) hv2, ← Int.add_mul, ← Int.sub_eq_add_neg]
  generalize (x - y) * 2 ^ (-min i j).toNat = v
  unfold signed
  by_cases h0 : v = 0
  · subst h0; cases s <;> cases t <;> simp
  · by_cases hl : v < 0 <;> simp [h0, hl] <;> omega

theorem toInt_whole {b : Nat} {z : Int} (h : Whole b z) : (double.read b).toInt .zero = some z := by
  obtain ⟨s, m, e, hr, he, hv⟩ := h
  rw [hr]
  simp only [Datum.toInt, Datum.integral]
  rw [show e.toNat = 0 by omega, Nat.shiftLeft_zero]
  have hp := pow_pos (-e).toNat
  have hpn : ((2 ^ (-e).toNat : Nat) : Int) = 2 ^ (-e).toNat := by simp
  have hm : m = z.natAbs * 2 ^ (-e).toNat := by
    have h1 : (signed s m 0).natAbs = m := by unfold signed; cases s <;> simp
    rw [hv, Int.natAbs_mul, ← hpn, Int.natAbs_natCast] at h1
    exact h1.symm
  rw [hm, cut_exact]
  congr 1
  unfold signed at hv ⊢
  cases s
  · simp [Nat.shiftLeft_eq] at hv ⊢
    rcases Int.lt_or_le z 0 with hn | hn
    · have := Int.mul_neg_of_neg_of_pos hn hp; omega
    · omega
  · simp [Nat.shiftLeft_eq] at hv ⊢
    rcases Int.lt_or_le 0 z with hn | hn
    · have := Int.mul_pos hn hp; omega
    · omega

/-- A finite double of a place above 0 has a full significand. -/
theorem read_full {b m : Nat} {s : Bool} {e : Int} (h : double.read b = .number s m e) (he : 0 < e) : 4503599627370496 ≤ m := by
  have e2 : double.leastPlace = -1074 := by decide +kernel
  have e3 : double.binade = 4503599627370496 := by decide +kernel
  unfold Format.read at h
  simp only [e2, e3] at h
  split at h
  · cases h; omega
  · split at h
    · cases h; omega
    · split at h <;> cases h

theorem order_none {a b : Nat} (h : double.order a b = none) : double.order b a = none := by
  unfold Format.order Datum.order at *
  cases ha : double.read a <;> cases hb : double.read b <;> simp [ha, hb] at h ⊢

theorem zero_read : double.read 0 = .number false 0 (-1074) := by decide +kernel

theorem signed_natAbs (s : Bool) (m : Nat) : (signed s m 0).natAbs = m := by unfold signed; cases s <;> simp

theorem compare_eq_some {x y : Int} {o : Ordering} (h : some (compare x y) = some o) : compare x y = o := Option.some.inj h

/-- A double from 0 to below a whole number, cut towards zero: a whole number in that range. -/
theorem toInt_range {b l : Nat} {z : Int} (hl : Whole l z) (h0 : double.order b 0 = some .gt ∨ double.order b 0 = some .eq) (h1 : double.order b l = some .lt) :
    ∃ k : Int, (double.read b).toInt .zero = some k ∧ 0 ≤ k ∧ k < z := by
  obtain ⟨t, n, j, hr', hj, hv'⟩ := hl
  unfold Format.order at h0 h1
  rw [zero_read] at h0
  rw [hr'] at h1
  cases hb : double.read b with
  | nan s f => rw [hb] at h0; simp [Datum.order] at h0
  | infinity s =>
    rw [hb] at h0 h1
    cases s <;> simp [Datum.order] at h0 h1
  | number s m e =>
    rw [hb] at h0 h1
    simp only [Datum.order] at h0 h1
    have g0 : 0 ≤ signed s m (e - min e (-1074)).toNat := by
      have hz : signed false 0 (-1074 - min e (-1074)).toNat = 0 := by unfold signed; simp
      rw [hz] at h0
      rcases h0 with h | h
      · have := Int.compare_eq_gt.1 (compare_eq_some h); omega
      · have := Int.compare_eq_eq.1 (compare_eq_some h); omega
    have g1 := Int.compare_eq_lt.1 (compare_eq_some h1)
    rw [signed_at hj (Int.min_le_right e j) hv'] at g1
    rw [signed_eq] at g0 g1
    have hs0 : 0 ≤ signed s m 0 := by
      rcases Int.lt_or_le (signed s m 0) 0 with hn | hn
      · have := Int.mul_neg_of_neg_of_pos hn (pow_pos (e - min e (-1074)).toNat); omega
      · exact hn
    have hsm : signed s m 0 = m := by have := signed_natAbs s m; omega
    rw [hsm] at g1
    have hsg : ∀ q : Nat, (s = false ∨ q = 0) → signed s q 0 = q := by
      intro q hq
      rcases hq with rfl | rfl
      · simp [signed]
      · cases s <;> simp [signed]
    have hsf : s = false ∨ m = 0 := by
      cases s
      · exact .inl rfl
      · right; simp [signed] at hs0; omega
    simp only [Datum.toInt, Datum.integral]
    refine ⟨_, rfl, ?_⟩
    generalize hq : Toward.zero.cut s (m <<< e.toNat) (-e).toNat = q
    have hq1 : q = 0 ∨ (q : Int) * 2 ^ (-e).toNat ≤ m * 2 ^ e.toNat := by
      unfold Toward.cut at hq
      simp only [Bool.toNat_false, Nat.add_zero, Nat.shiftLeft_eq, Nat.one_mul] at hq
      by_cases hd : (-e).toNat ≤ (m * 2 ^ e.toNat).log2 + 2
      · right
        rw [Nat.min_eq_left hd] at hq
        have := Nat.div_mul_le_self (m * 2 ^ e.toNat) (2 ^ (-e).toNat)
        rw [hq] at this
        have h2 : ((q * 2 ^ (-e).toNat : Nat) : Int) ≤ ((m * 2 ^ e.toNat : Nat) : Int) := by omega
        simpa using h2
      · left
        rw [Nat.min_eq_right (by omega)] at hq
        rw [← hq]
        refine Nat.div_eq_of_lt ?_
        calc m * 2 ^ e.toNat < 2 ^ ((m * 2 ^ e.toNat).log2 + 1) := Nat.lt_log2_self
          _ ≤ _ := Nat.pow_le_pow_right (by decide) (by omega)
    have hm0 : m = 0 → q = 0 := by
      intro h; subst h
      rw [Nat.zero_shiftLeft] at hq
      have := cut_exact .zero s 0 (-e).toNat
      rw [Nat.zero_mul] at this
      rw [← hq]; exact this
    have hqs : signed s q 0 = q := hsg q (by rcases hsf with h | h; exact .inl h; exact .inr (hm0 h))
    rw [hqs]
    refine ⟨by omega, ?_⟩
    have hzpos : 0 < z := by
      rcases Int.lt_or_le 0 z with hn | hn
      · exact hn
      · exfalso
        have a1 : z * 2 ^ (-(min e j)).toNat ≤ 0 := Int.mul_nonpos_of_nonpos_of_nonneg hn (Int.le_of_lt (pow_pos _))
        have a2 : 0 ≤ (m : Int) * 2 ^ (e - min e j).toNat := Int.mul_nonneg (by omega) (Int.le_of_lt (pow_pos _))
        omega
    rcases hq1 with h | h
    · omega
    · have hc : (q : Int) * 2 ^ (-(min e j)).toNat ≤ m * 2 ^ (e - min e j).toNat := by
        by_cases he : e ≤ 0
        · rw [show e.toNat = 0 by omega, Int.pow_zero, Int.mul_one] at h
          rw [pow_split (min e j) e (Int.min_le_left e j) he, ← Int.mul_assoc]
          exact Int.mul_le_mul_of_nonneg_right h (Int.le_of_lt (pow_pos _))
        · rw [show (-e).toNat = 0 by omega, Int.pow_zero, Int.mul_one] at h
          rw [show (e - min e j).toNat = e.toNat + (-(min e j)).toNat by omega, Int.pow_add, ← Int.mul_assoc]
          exact Int.mul_le_mul_of_nonneg_right h (Int.le_of_lt (pow_pos _))
      exact Int.lt_of_mul_lt_mul_right (Int.lt_of_le_of_lt hc g1) (Int.le_of_lt (pow_pos _))

/-- A double that is equal to a whole number stands for it. -/
theorem whole_of_eq {b l : Nat} {z : Int} (hl : Whole l z) (hz : z.natAbs < 4503599627370496) (h : double.order l b = some .eq) : Whole b z := by
  obtain ⟨t, n, j, hr', hj, hv'⟩ := hl
  unfold Format.order at h
  rw [hr'] at h
  cases hb : double.read b with
  | nan s f => rw [hb] at h; simp [Datum.order] at h
  | infinity s => rw [hb] at h; cases s <;> simp [Datum.order] at h
  | number s m e =>
    rw [hb] at h
    simp only [Datum.order] at h
    have g := Int.compare_eq_eq.1 (compare_eq_some h)
    rw [signed_at hj (Int.min_le_left j e) hv', signed_eq] at g
    by_cases he : e ≤ 0
    · refine ⟨s, m, e, hb, he, ?_⟩
      rw [pow_split (min j e) e (Int.min_le_right j e) he, ← Int.mul_assoc] at g
      exact (Int.eq_of_mul_eq_mul_right (Int.ne_of_gt (pow_pos _)) g).symm
    · exfalso
      have hm := read_full hb (by omega)
      rw [show (e - min j e).toNat = e.toNat + (-(min j e)).toNat by omega, Int.pow_add, ← Int.mul_assoc] at g
      have g2 := Int.eq_of_mul_eq_mul_right (Int.ne_of_gt (pow_pos _)) g
      have g3 := congrArg Int.natAbs g2
      have hpn : ((2 ^ e.toNat : Nat) : Int) = 2 ^ e.toNat := by simp
      rw [Int.natAbs_mul, signed_natAbs, ← hpn, Int.natAbs_natCast] at g3
      have := Nat.mul_le_mul hm (Nat.two_pow_pos e.toNat)
      omega

theorem neg_small (n : Int) (h1 : 1 ≤ n) (h2 : n ≤ 16) : Op.negFloat .f64 (floatOfInt .f64 n) = floatOfInt .f64 (-n) := by
  have h : n = 1 ∨ n = 2 ∨ n = 3 ∨ n = 4 ∨ n = 5 ∨ n = 6 ∨ n = 7 ∨ n = 8 ∨ n = 9 ∨ n = 10 ∨ n = 11 ∨ n = 12 ∨ n = 13 ∨ n = 14 ∨ n = 15 ∨ n = 16 := by omega
  rcases h with h | h | h | h | h | h | h | h | h | h | h | h | h | h | h | h <;> (subst h; decide +kernel)

theorem whole_inj {b : Nat} {x y : Int} (h : Whole b x) (h' : Whole b y) : x = y := by
  have := toInt_whole h
  rw [toInt_whole h'] at this
  exact (Option.some.inj this).symm

theorem cut_bd (n d : Nat) : n / 2 ^ (min d (n.log2 + 2)) ≤ Toward.even.cut false n d ∧ Toward.even.cut false n d ≤ n / 2 ^ (min d (n.log2 + 2)) + 1 := by
  unfold Toward.cut
  simp only [Nat.shiftLeft_eq, Nat.one_mul]
  constructor
  · exact Nat.le_add_right _ _
  · exact Nat.add_le_add_left (Bool.toNat_le _) _

/-- A double of a great whole number has a place above 0. -/
theorem far_read {n : Nat} (h1 : 9007199254740992 ≤ n) (h2 : n ≤ 9223372036854775807) : ∃ m e, double.read (double.nearest false n 0) = .number false m e ∧ 0 < e := by
  have hne : n ≠ 0 := by omega
  have hl1 : 53 ≤ n.log2 := (Nat.le_log2 hne).2 (by rw [show (2 : Nat) ^ 53 = 9007199254740992 from rfl]; exact h1)
  have hl2 : n.log2 < 63 := (Nat.log2_lt hne).2 (by rw [show (2 : Nat) ^ 63 = 9223372036854775808 from rfl]; omega)
  have g1 : 2 ^ n.log2 ≤ n := Nat.log2_self_le hne
  have g2 : n < 2 ^ (n.log2 + 1) := Nat.lt_log2_self
  obtain ⟨d, hd⟩ : ∃ d, d = n.log2 - 52 := ⟨_, rfl⟩
  have hdl : n.log2 = d + 52 := by omega
  rw [hdl] at g1 g2
  have b1 : 4503599627370496 ≤ n / 2 ^ d := (Nat.le_div_iff_mul_le (Nat.two_pow_pos d)).2 (by rw [show (4503599627370496 : Nat) = 2 ^ 52 from rfl, ← Nat.pow_add, Nat.add_comm]; exact g1)
  have b2 : n / 2 ^ d < 9007199254740992 := Nat.div_lt_of_lt_mul (by rw [show (9007199254740992 : Nat) = 2 ^ 53 from rfl, ← Nat.pow_add]; exact g2)
  have hc := cut_bd n d
  rw [show min d (n.log2 + 2) = d by omega] at hc
  obtain ⟨q, hq⟩ : ∃ q, q = Toward.even.cut false n d := ⟨_, rfl⟩
  rw [← hq] at hc
  have e0 : double.signWeight = 9223372036854775808 := by decide +kernel
  have e1 : double.fractionBits = 52 := rfl
  have e2 : double.leastPlace = -1074 := by decide +kernel
  have e3 : double.binade = 4503599627370496 := by decide +kernel
  have e4 : double.infRung = 9218868437227405312 := by decide +kernel
  have hn : double.nearest false n 0 = (d + 1074) * 4503599627370496 + q := by
    unfold Format.nearest
    rw [if_neg hne]
    simp only [e1, e2, e3, e4]
    rw [show max ((0 : Int) + (n.log2 : Int) - ((52 : Nat) : Int)) (-1074) = (d : Int) by omega]
    rw [show ((0 : Int) - (d : Int)).toNat = 0 by omega, Nat.shiftLeft_zero, show ((d : Int) - 0).toNat = d by omega, ← hq, show ((d : Int) - (-1074)).toNat = d + 1074 by omega, Nat.min_eq_left (by omega)]
    rfl
  rw [hn]
  unfold Format.read
  simp only [e0, e2, e3, e4]
  have hr : (d + 1074) * 4503599627370496 + q < 9223372036854775808 := by omega
  rw [Nat.mod_eq_of_lt hr, Nat.div_eq_of_lt hr]
  rw [if_neg (by omega), if_pos (by omega)]
  refine ⟨_, _, rfl, ?_⟩
  omega

theorem far {z : Int} (h1 : 9007199254740992 ≤ z) (h2 : z ≤ 9223372036854775807) (k : Int) : ¬ Whole (floatOfInt .f64 z) k := by
  rintro ⟨s, m, e, hr, he, _⟩
  obtain ⟨m', e', hr', he'⟩ := far_read (n := z.natAbs) (by omega) (by omega)
  have hz : floatOfInt .f64 z = double.nearest false z.natAbs 0 := by
    have : decide (z < 0) = false := by simp; omega
    show double.nearest (decide (z < 0)) z.natAbs 0 = _
    rw [this]
  rw [hz, hr'] at hr
  cases hr
  omega

end Go.Proofs.Ytiadhmjmiaamcaa.Fl
