/- The walk of XdrOrder: numbers stand in the order of their bytes. -/
import Derived.Test.YtfnpbekfgofhfaaRef
namespace Go.Proofs.Ytfnpbekfgofhfaa
open Go.RowKit

/-- Bytes as one number, the highest first. -/
def val : List UInt8 → Nat
  | [] => 0
  | a :: l => a.toNat * 256 ^ l.length + val l
theorem val_lt : ∀ l : List UInt8, val l < 256 ^ l.length
  | [] => by simp [val]
  | a :: l => by
    have h1 := val_lt l
    have h2 := a.toNat_lt
    simp only [val, List.length_cons, Nat.pow_succ]
    calc a.toNat * 256 ^ l.length + val l < a.toNat * 256 ^ l.length + 256 ^ l.length := by omega
      _ = (a.toNat + 1) * 256 ^ l.length := by rw [Nat.add_mul, Nat.one_mul]
      _ ≤ 256 * 256 ^ l.length := Nat.mul_le_mul_right _ (by omega)
      _ = 256 ^ l.length * 256 := Nat.mul_comm _ _
theorem val_append (l m : List UInt8) : val (l ++ m) = val l * 256 ^ m.length + val m := by
  induction l with
  | nil => simp [val]
  | cons a l ih => simp only [List.cons_append, val, ih, List.length_append, Nat.pow_add, Nat.add_mul, Nat.mul_assoc]; omega
theorem less_val : ∀ l m : List UInt8, l.length = m.length → Op.bytesLess l m = decide (val l < val m)
  | [], [], _ => by simp [Op.bytesLess, val]
  | [], _ :: _, h => by simp at h
  | _ :: _, [], h => by simp at h
  | a :: l, b :: m, h => by
    have hl : l.length = m.length := by simpa using h
    have ih := less_val l m hl
    have v1 := val_lt l
    have v2 := val_lt m
    have hab : (a < b) ↔ a.toNat < b.toNat := UInt8.lt_iff_toNat_lt
    have hab2 : (a = b) ↔ a.toNat = b.toNat := UInt8.toNat_inj.symm
    rw [Bool.eq_iff_iff]
    simp only [Op.bytesLess, ih, Bool.or_eq_true, decide_eq_true_eq, Bool.and_eq_true, beq_iff_eq, hab, hab2]
    simp only [val]
    rw [hl] at v1 ⊢
    constructor
    · rintro (h1 | ⟨h1, h2⟩)
      · calc a.toNat * 256 ^ m.length + val l < a.toNat * 256 ^ m.length + 256 ^ m.length := by omega
          _ = (a.toNat + 1) * 256 ^ m.length := by rw [Nat.add_mul, Nat.one_mul]
          _ ≤ b.toNat * 256 ^ m.length := Nat.mul_le_mul_right _ (by omega)
          _ ≤ b.toNat * 256 ^ m.length + val m := Nat.le_add_right _ _
      · rw [h1]; omega
    · intro h1
      by_cases h2 : a.toNat < b.toNat
      · exact .inl h2
      · by_cases h3 : a.toNat = b.toNat
        · rw [h3] at h1
          exact .inr ⟨h3, by omega⟩
        · exfalso
          have : (b.toNat + 1) * 256 ^ m.length ≤ a.toNat * 256 ^ m.length := Nat.mul_le_mul_right _ (by omega)
          rw [Nat.add_mul, Nat.one_mul] at this
          omega
theorem val_be4 (n : Nat) (h : n < 4294967296) : val (be4 n) = n := by
  simp [val, be4]
  omega
theorem val_be8 (n : Nat) (h : n < 18446744073709551616) : val (be8 n) = n := by
  unfold be8
  rw [val_append, val_be4 _ (by omega), val_be4 _ (by omega), be4_length]
  omega
theorem less_be4 (a b : Nat) (ha : a < 4294967296) (hb : b < 4294967296) : Op.bytesLess (strOf (be4 a)).toList (strOf (be4 b)).toList = decide (a < b) := by
  rw [show (strOf (be4 a)).toList = be4 a from ByteArray.toList_mk _, show (strOf (be4 b)).toList = be4 b from ByteArray.toList_mk _, less_val (be4 a) (be4 b) rfl, val_be4 _ ha, val_be4 _ hb]
theorem less_be8 (a b : Nat) (ha : a < 18446744073709551616) (hb : b < 18446744073709551616) : Op.bytesLess (strOf (be8 a)).toList (strOf (be8 b)).toList = decide (a < b) := by
  rw [show (strOf (be8 a)).toList = be8 a from ByteArray.toList_mk _, show (strOf (be8 b)).toList = be8 b from ByteArray.toList_mk _, less_val (be8 a) (be8 b) rfl, val_be8 _ ha, val_be8 _ hb]

/-- Four writers, one behind the other. -/
theorem four_new (w : World) (W : World) (hW : W = (((w.alloc (.cells #[.slice none 0 0] 27)).alloc (.cells #[.slice none 0 0] 27)).alloc (.cells #[.slice none 0 0] 27)).alloc (.cells #[.slice none 0 0] 27)) :
    Wr W w.heap.size [] [] ∧ Wr W (w.heap.size + 1) [] [] ∧ Wr W (w.heap.size + 1 + 1) [] [] ∧ Wr W (w.heap.size + 1 + 1 + 1) [] [] ∧ W.heap.size = w.heap.size + 4 ∧ Only [] w W := by
  subst hW
  have k : ∀ (u : World), Only [] u (u.alloc (.cells #[.slice none 0 0] 27)) := fun u => (Only.refl [] u).alloc _
  have keep : ∀ (u : World) (p : Nat), Wr u p [] [] → Wr (u.alloc (.cells #[.slice none 0 0] 27)) p [] [] := fun u p h => h.kept (k u) (by simp) (by simp)
  refine ⟨keep _ _ (keep _ _ (keep _ _ (Wr.new w))), keep _ _ (keep _ _ ?_), keep _ _ ?_, ?_, by simp, (((k w).trans (k _)).trans (k _)).trans (k _)⟩
  · simpa using Wr.new (w.alloc (.cells #[.slice none 0 0] 27))
  · simpa using Wr.new ((w.alloc (.cells #[.slice none 0 0] 27)).alloc (.cells #[.slice none 0 0] 27))
  · simpa using Wr.new (((w.alloc (.cells #[.slice none 0 0] 27)).alloc (.cells #[.slice none 0 0] 27)).alloc (.cells #[.slice none 0 0] 27))

/-- A writer beside which another one, elder than all its bytes, has written. -/
theorem Wr.beside {w w' : World} {p q : Nat} {F G : List Nat} {bs : List UInt8} (h : Wr w p F bs) (k : Only (q :: G) w w') (hpq : p ≠ q) (hpG : ∀ i ∈ G, p < i) (hF : ∀ i ∈ F, q < i) (hFG : ∀ i ∈ F, i ∉ G) : Wr w' p F bs := by
  refine h.kept k (fun hm => ?_) (fun i hi hm => ?_)
  · rcases List.mem_cons.1 hm with e | hm
    · exact hpq e
    · have := hpG _ hm; omega
  · rcases List.mem_cons.1 hm with e | hm
    · have := hF i hi; omega
    · exact hFG i hi hm

set_option maxHeartbeats 1000000 in
theorem xdrOrder_walk (w : World) (a b : Nat) (ha : a < 18446744073709551616) (hb : b < 18446744073709551616) :
    Calls Try.prog 9 #[.int .u64 (a : Int), .int .u64 (b : Int)] w fun e w' => e = .returned (.bool true) ∧ Only [] w w' := by
  have L8 := Lib.hid (less_be8 a b ha hb)
  have l4 : Op.bytesLess (strOf (be4 (a % 4294967296))).toList (strOf (be4 (b % 4294967296))).toList = decide ((a : Int) % 4294967296 < (b : Int) % 4294967296) := by
    rw [less_be4 _ _ (by omega) (by omega), Bool.eq_iff_iff]
    simp only [decide_eq_true_eq]
    omega
  have L4 := Lib.hid l4
  have HA := Lib.hid ha
  have HB := Lib.hid hb
  clear ha hb l4
  go_enter Try.func9, Try.ntmps9
  go_wp2_with fail
  refine (alive_any _).mono ?_
  rintro e w1 ⟨rfl, k1⟩
  go_wp2_with fail
  obtain ⟨W, hW⟩ : ∃ W, W = (((w1.alloc (.cells #[.slice none 0 0] 27)).alloc (.cells #[.slice none 0 0] 27)).alloc (.cells #[.slice none 0 0] 27)).alloc (.cells #[.slice none 0 0] 27) := ⟨_, rfl⟩
  obtain ⟨x0, x1, x2, x3, hsz, k0⟩ := four_new w1 W hW
  rw [← hW]
  have kW := k1.trans k0
  have hwz := k1.size
  have hsW : w1.heap.size + 4 ≤ W.heap.size := by omega
  clear hW hsz k0 k1
  refine (wlong_any _ w1.heap.size [] [] _ a rfl HA.out x0 (by simp)).mono ?_
  rintro e w2 ⟨rfl, hw2⟩
  rw [List.nil_append] at hw2
  obtain ⟨F0, y0, q0, f0, z0⟩ := hw2.parts
  have c0 : Hid (∀ i ∈ F0, w1.heap.size + 4 ≤ i) := fun i hi => by
    rcases f0.out i hi with h | h
    · simp at h
    · omega
  replace x1 := x1.kept q0 (by simp) (by simp)
  replace x2 := x2.kept q0 (by simp <;> omega) (by simp)
  replace x3 := x3.kept q0 (by simp <;> omega) (by simp)
  have g2 := kW.then q0 (fun i hi => .inr (by simp at hi; omega))
  have hs2 : w1.heap.size + 4 ≤ w2.heap.size := Nat.le_trans hsW q0.size
  clear hw2 q0 f0 z0 kW x0 hsW
  go_wp2_with fail
  refine (wlong_any _ (w1.heap.size + 1) [] [] _ b rfl HB.out x1 (by simp)).mono ?_
  rintro e w3 ⟨rfl, hw3⟩
  rw [List.nil_append] at hw3
  obtain ⟨F1, y1, q1, f1, z1⟩ := hw3.parts
  have c1 : Hid (∀ i ∈ F1, w1.heap.size + 4 ≤ i) := fun i hi => by
    rcases f1.out i hi with h | h
    · simp at h
    · omega
  replace y0 := y0.kept q1 (by simp) (fun i hi => by have := c0.out i hi; simp; omega)
  replace x2 := x2.kept q1 (by simp) (by simp)
  replace x3 := x3.kept q1 (by simp <;> omega) (by simp)
  have g3 := g2.then q1 (fun i hi => .inr (by simp at hi; omega))
  have hs3 : w1.heap.size + 4 ≤ w3.heap.size := Nat.le_trans hs2 q1.size
  clear hw3 q1 f1 z1 g2 x1 hs2
  go_wp2_with fail
  refine (wnumber_any _ (w1.heap.size + 1 + 1) [] [] _ (a % 4294967296) (by omega) (by omega) x2 (by simp)).mono ?_
  rintro e w4 ⟨rfl, hw4⟩
  rw [List.nil_append] at hw4
  obtain ⟨F2, y2, q2, f2, z2⟩ := hw4.parts
  have c2 : Hid (∀ i ∈ F2, w1.heap.size + 4 ≤ i) := fun i hi => by
    rcases f2.out i hi with h | h
    · simp at h
    · omega
  replace y0 := y0.kept q2 (by simp <;> omega) (fun i hi => by have := c0.out i hi; simp; omega)
  replace y1 := y1.kept q2 (by simp) (fun i hi => by have := c1.out i hi; simp; omega)
  replace x3 := x3.kept q2 (by simp) (by simp)
  have g4 := g3.then q2 (fun i hi => .inr (by simp at hi; omega))
  have hs4 : w1.heap.size + 4 ≤ w4.heap.size := Nat.le_trans hs3 q2.size
  clear hw4 q2 f2 z2 g3 x2 hs3
  go_wp2_with fail
  refine (wnumber_any _ (w1.heap.size + 1 + 1 + 1) [] [] _ (b % 4294967296) (by omega) (by omega) x3 (by simp)).mono ?_
  rintro e w5 ⟨rfl, hw5⟩
  rw [List.nil_append] at hw5
  obtain ⟨F3, y3, q3, f3, z3⟩ := hw5.parts
  replace y0 := y0.kept q3 (by simp <;> omega) (fun i hi => by have := c0.out i hi; simp; omega)
  replace y1 := y1.kept q3 (by simp <;> omega) (fun i hi => by have := c1.out i hi; simp; omega)
  replace y2 := y2.kept q3 (by simp) (fun i hi => by have := c2.out i hi; simp; omega)
  have g5 := g4.then q3 (fun i hi => .inr (by simp at hi; omega))
  clear hw5 q3 f3 z3 g4 x3 hs4 c0 c1 c2 hwz
  go_wp2_with fail
  refine (alive_any _).mono ?_
  rintro e w6 ⟨rfl, q6⟩
  replace y0 := y0.kept q6 (by simp) (by simp)
  replace y1 := y1.kept q6 (by simp) (by simp)
  replace y2 := y2.kept q6 (by simp) (by simp)
  replace y3 := y3.kept q6 (by simp) (by simp)
  have g6 := g5.trans q6
  clear q6 g5
  have l8 := L8.out
  have l4 := L4.out
  go_wp2_with (first
    | (with_reducible refine (bytes_any _ w1.heap.size F0 _ y0).mono ?_; rintro e w8 ⟨rfl, rfl⟩)
    | (with_reducible refine (bytes_any _ (w1.heap.size + 1) F1 _ y1).mono ?_; rintro e w8 ⟨rfl, rfl⟩)
    | (with_reducible refine (bytes_any _ (w1.heap.size + 1 + 1) F2 _ y2).mono ?_; rintro e w8 ⟨rfl, rfl⟩)
    | (with_reducible refine (bytes_any _ (w1.heap.size + 1 + 1 + 1) F3 _ y3).mono ?_; rintro e w8 ⟨rfl, rfl⟩)
    | (with_reducible refine (flong_any _ _ a rfl HA.out).mono ?_; rintro e w7 ⟨rfl, k7⟩))
  go_ret
  exact ⟨rfl, g6.trans k7⟩

end Go.Proofs.Ytfnpbekfgofhfaa
