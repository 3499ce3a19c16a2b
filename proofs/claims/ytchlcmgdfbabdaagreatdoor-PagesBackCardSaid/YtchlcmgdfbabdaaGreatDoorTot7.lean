/- Put, Cut, Length, Bytes of any list, whatever comes in: one answer each; and what they say of one another. -/
import Derived.Test.YtchlcmgdfbabdaaGreatDoorAlive7
namespace Go.Proofs.YtchlcmgdfbabdaaGreatDoor.Pgs
open Go.RowKit

def errB (b : Bool) : Int := if b then 0 else 1
def okPut (o : List Pg) (off : Int) (d : List UInt8) : Bool := right o && inB off d.length
def putL (o : List Pg) (off : Int) (d : List UInt8) : List Pg := if okPut o off d then pages (lay (body o) off.toNat d) else []
def okCut (o : List Pg) (size : Int) : Bool := right o && decide (0 ≤ size)
def cutL (o : List Pg) (size : Int) : List Pg := if okCut o size then pages (cutB (body o) (min size 1024).toNat) else []
def okBytes (o : List Pg) (off len : Int) : Bool := right o && inB off len
def bytesL (o : List Pg) (off len : Int) : List UInt8 := if okBytes o off len then ((body o).drop off.toNat).take len.toNat else []

section
variable (w : World) (A : Option Addr) (c n : Nat) (o : List Pg) (hn : n = o.length) (hA : Els pgE 2 w A o) (hl : n ≤ 9223372036854775807)
include hn hA hl

theorem put_any (off : Int) (d : List UInt8) (hd : d.length ≤ 1048576) :
    Calls Tryz.prog 15 #[.slice A n c, .int .i64 off, .string (strOf d)] w fun e w' => ∃ v, e = .returned (.tuple #[v, .int .i64 (errB (okPut o off d))]) ∧ Mine pgE 2 69 w w' v (putL o off d) := by
  unfold putL
  cases h : okPut o off d with
  | false =>
    have h' : ¬ (right o = true ∧ inB off d.length = true) := fun hh => by
      unfold okPut at h
      rw [hh.1, hh.2] at h
      cases h
    refine (put_no w A c n o hn hA hl off d hd h').mono ?_
    rintro e w1 ⟨rfl, k1⟩
    exact ⟨_, rfl, Mine.start _ _ _ k1⟩
  | true =>
    have h' := h
    unfold okPut at h'
    rw [Bool.and_eq_true] at h'
    obtain ⟨h1, h2, h3⟩ := inB_yes h'.2
    exact put_ok w A c n o hn hA hl off.toNat off d (by omega) h'.1 (by omega)

theorem cut_any (size : Int) :
    Calls Tryz.prog 16 #[.slice A n c, .int .i64 size] w fun e w' => ∃ v, e = .returned (.tuple #[v, .int .i64 (errB (okCut o size))]) ∧ Mine pgE 2 69 w w' v (cutL o size) := by
  unfold cutL
  cases h : okCut o size with
  | false =>
    have h' : ¬ (right o = true ∧ 0 ≤ size) := fun hh => by
      unfold okCut at h
      rw [hh.1, decide_eq_true hh.2] at h
      cases h
    refine (cut_no w A c n o hn hA hl size h').mono ?_
    rintro e w1 ⟨rfl, k1⟩
    exact ⟨_, rfl, Mine.start _ _ _ k1⟩
  | true =>
    have h' := h
    unfold okCut at h'
    rw [Bool.and_eq_true, decide_eq_true_eq] at h'
    exact cut_ok w A c n o hn hA hl (min size 1024).toNat size (by omega) h'.2 h'.1

theorem length_any :
    Calls Tryz.prog 17 #[.slice A n c] w fun e w' => ∃ L : Nat, e = .returned (.tuple #[.int .i64 (L : Int), .int .i64 (errB (right o))]) ∧ (right o = true → IsEnd (body o) L) ∧ (right o = false → L = 0) ∧ Only [] w w' := by
  cases h : right o with
  | false =>
    refine (length_no w A c n o hn hA hl h).mono ?_
    rintro e w1 ⟨rfl, k1⟩
    exact ⟨0, rfl, by simp, fun _ => rfl, k1⟩
  | true =>
    refine (length_ok w A c n o hn hA hl h).mono ?_
    rintro e w1 ⟨L, rfl, h1, k1⟩
    exact ⟨L, rfl, fun _ => h1, by simp, k1⟩

theorem bytes_any (off len : Int) (l9 : len ≤ 9223372036854775807) :
    Calls Tryz.prog 18 #[.slice A n c, .int .i64 off, .int .i64 len] w fun e w' => e = .returned (.tuple #[.string (strOf (bytesL o off len)), .int .i64 (errB (okBytes o off len))]) ∧ Only [] w w' := by
  unfold bytesL
  cases h : okBytes o off len with
  | false =>
    have h' : ¬ (right o = true ∧ inB off len = true) := fun hh => by
      unfold okBytes at h
      rw [hh.1, hh.2] at h
      cases h
    exact bytes_no w A c n o hn hA hl off len l9 h'
  | true =>
    have h' := h
    unfold okBytes at h'
    rw [Bool.and_eq_true] at h'
    obtain ⟨h1, h2, h3⟩ := inB_yes h'.2
    exact bytes_ok w A c n o hn hA hl off.toNat len.toNat off len (by omega) (by omega) h'.1 (by omega)
end

theorem cutL_eq {o : List Pg} {size : Int} (h : okCut o size = true) : cutL o size = pages (cutB (body o) (min size 1024).toNat) := if_pos h
theorem right_nil : right [] = true := rfl
theorem putL_right (o : List Pg) (off : Int) (d : List UInt8) : right (putL o off d) = true := by
  unfold putL
  split
  · rename_i h
    unfold okPut at h
    rw [Bool.and_eq_true] at h
    obtain ⟨h1, h2, h3⟩ := inB_yes h.2
    exact pages_right (by rw [lay_len (by have := body_len h.1; omega)]; exact body_len h.1)
  · rfl
theorem cutL_right (o : List Pg) (size : Int) : right (cutL o size) = true := by
  unfold cutL
  split
  · rename_i h
    unfold okCut at h
    rw [Bool.and_eq_true] at h
    exact pages_right (cutB_len (body_len h.1) (by omega))
  · rfl
/-- What an accepted Put makes. -/
structure PutOk (o : List Pg) (off : Int) (d : List UInt8) : Prop where
  okay : right o = true
  low : 0 ≤ off
  high : off + d.length ≤ 1024
  bytes : body (putL o off d) = lay (body o) off.toNat d
theorem put_facts {o : List Pg} {off : Int} {d : List UInt8} (h : okPut o off d = true) : PutOk o off d := by
  have h' := h
  unfold okPut at h'
  rw [Bool.and_eq_true] at h'
  obtain ⟨h1, h2, h3⟩ := inB_yes h'.2
  have hb := body_len h'.1
  refine ⟨h'.1, h1, by omega, ?_⟩
  unfold putL
  rw [if_pos h]
  exact body_pages (by rw [lay_len (by omega)]; exact hb)
theorem okPut_of {o : List Pg} {off : Int} {d : List UInt8} (h1 : right o = true) (h2 : 0 ≤ off) (h3 : off + d.length ≤ 1024) : okPut o off d = true := by
  unfold okPut
  rw [h1, inB_of h2 (by omega) (by omega)]
  rfl
theorem okBytes_of {o : List Pg} {off len : Int} (h1 : right o = true) (h2 : 0 ≤ off) (h3 : 0 ≤ len) (h4 : off + len ≤ 1024) : okBytes o off len = true := by
  unfold okBytes
  rw [h1, inB_of h2 h3 (by omega)]
  rfl
theorem lay_part {b x : List UInt8} {off : Nat} (h : off + x.length ≤ b.length) : ((lay b off x).drop off).take x.length = x := by
  unfold lay
  rw [List.drop_append, List.drop_of_length_le (by rw [List.length_take]; exact Nat.min_le_left _ _), List.nil_append, List.length_take, Nat.min_eq_left (by omega), Nat.sub_self, List.drop_zero, List.take_append_of_le_length (Nat.le_refl _), List.take_of_length_le (Nat.le_refl _)]
/-- What was put is there. -/
theorem put_there {o : List Pg} {off : Int} {d : List UInt8} (h : okPut o off d = true) : bytesL (putL o off d) off d.length = d := by
  obtain ⟨h1, h2, h3, h4⟩ := put_facts h
  unfold bytesL
  rw [if_pos (okBytes_of (putL_right o off d) h2 (by omega) h3), h4, Int.toNat_natCast]
  exact lay_part (by have := body_len h1; omega)
/-- A byte that wasn't put over is as it was. -/
theorem put_else {o : List Pg} {off : Int} {d : List UInt8} (h : okPut o off d = true) {x : Nat} (hx : x < 1024) (hn : ¬ (off ≤ x ∧ (x : Int) < off + d.length)) : bytesL (putL o off d) x 1 = bytesL o x 1 := by
  obtain ⟨h1, h2, h3, h4⟩ := put_facts h
  have hb := body_len h1
  unfold bytesL
  rw [if_pos (okBytes_of (putL_right o off d) (by omega) (by decide) (by omega)), if_pos (okBytes_of h1 (by omega) (by decide) (by omega)), h4, Int.toNat_natCast]
  have hg := lay_get (b := body o) (x := d) (off := off.toNat) (by omega) x
  rw [if_neg (by omega)] at hg
  have hl : (lay (body o) off.toNat d).length = 1024 := by rw [lay_len (by omega)]; exact hb
  apply List.ext_getElem?
  intro i
  rw [List.getElem?_take, List.getElem?_take, List.getElem?_drop, List.getElem?_drop]
  split
  · rename_i hi
    have : i = 0 := by have : (1 : Int).toNat = 1 := rfl; omega
    subst this
    exact hg
  · rfl
/-- What doesn't meet can be put in either order. -/
theorem put_swap {o : List Pg} {off second : Int} {a b : List UInt8} (h : okPut o off a = true) (h' : okPut (putL o off a) second b = true) (hn : ¬ (off < second + b.length ∧ second < off + a.length)) :
    okPut o second b = true ∧ okPut (putL o second b) off a = true ∧ putL (putL o second b) off a = putL (putL o off a) second b := by
  obtain ⟨h1, h2, h3, h4⟩ := put_facts h
  obtain ⟨g1, g2, g3, g4⟩ := put_facts h'
  have hb := body_len h1
  have e1 : okPut o second b = true := okPut_of h1 g2 g3
  have e2 : okPut (putL o second b) off a = true := okPut_of (putL_right _ _ _) h2 h3
  obtain ⟨f1, f2, f3, f4⟩ := put_facts e1
  obtain ⟨q1, q2, q3, q4⟩ := put_facts e2
  refine ⟨e1, e2, ?_⟩
  have hbb : body (putL (putL o second b) off a) = body (putL (putL o off a) second b) := by
    rw [q4, g4, f4, h4]
    have la : (lay (body o) off.toNat a).length = 1024 := by rw [lay_len (by omega)]; exact hb
    have lb : (lay (body o) second.toNat b).length = 1024 := by rw [lay_len (by omega)]; exact hb
    apply List.ext_getElem?
    intro i
    rw [lay_get (by omega), lay_get (by omega), lay_get (by omega), lay_get (by omega)]
    by_cases ha : off.toNat ≤ i ∧ i < off.toNat + a.length
    · rw [if_pos ha, if_neg (by omega), if_pos ha]
    · rw [if_neg ha]
      by_cases hb2 : second.toNat ≤ i ∧ i < second.toNat + b.length
      · rw [if_pos hb2, if_pos hb2]
      · rw [if_neg hb2, if_neg hb2, if_neg ha]
  have t1 := pages_body (putL_right (putL o second b) off a)
  have t2 := pages_body (putL_right (putL o off a) second b)
  rw [← t1, hbb, t2]
/-- 'int(uint(at) % 1024)'. -/
theorem mod_1024 (z : Int) : ∃ x : Nat, IntKind.i64.wrap (Int.tmod (IntKind.u64.wrap z) 1024) = x ∧ x < 1024 := by
  have e0 : 0 ≤ IntKind.u64.wrap z := by rw [IntKind.wrap_u64]; omega
  refine ⟨(IntKind.u64.wrap z % 1024).toNat, ?_, by omega⟩
  rw [Int.tmod_eq_emod_of_nonneg e0, IntKind.wrap_i64]
  omega
/-- What Cut says of Length. -/
theorem cut_facts {o : List Pg} {size : Int} {n m : Nat} (hr : right o = true) (hs : 0 ≤ size) (hn : IsEnd (body o) n) (hm : IsEnd (body (cutL o size)) m) :
    (m : Int) ≤ size ∧ m ≤ n ∧ okCut o size = true ∧ okCut (cutL o size) n = true ∧ cutL (cutL o size) n = cutL o size ∧ (¬ size < n → cutL o size = o) := by
  have hok : okCut o size = true := by unfold okCut; rw [hr, decide_eq_true hs]; rfl
  have hok2 : okCut (cutL o size) n = true := by unfold okCut; rw [cutL_right, decide_eq_true (by omega)]; rfl
  have hb := body_len hr
  have hm1 : (min size 1024).toNat ≤ 1024 := by omega
  have hcb : body (cutL o size) = cutB (body o) (min size 1024).toNat := by
    unfold cutL
    rw [if_pos hok]
    exact body_pages (cutB_len hb hm1)
  have hn1 : n ≤ 1024 := by have := hn.1; omega
  rw [hcb] at hm
  obtain ⟨h1, h2⟩ := cut_end hb hm1 hn hm
  refine ⟨by omega, h2, hok, hok2, ?_, fun hlt => ?_⟩
  · have e : cutL (cutL o size) n = pages (cutB (body (cutL o size)) (min (n : Int) 1024).toNat) := cutL_eq hok2
    rw [e, hcb, show (min (n : Int) 1024).toNat = min n 1024 by omega, cut_cut hb hm1 hn, ← hcb]
    exact pages_body (cutL_right _ _)
  · unfold cutL
    rw [if_pos hok, cut_past hb hm1 hn (by omega)]
    exact pages_body hr

end Go.Proofs.YtchlcmgdfbabdaaGreatDoor.Pgs
