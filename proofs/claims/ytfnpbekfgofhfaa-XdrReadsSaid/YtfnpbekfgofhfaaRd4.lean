/- The walks of a reader, more: lists, and a new reader. -/
import Derived.Test.YtfnpbekfgofhfaaRd3
namespace Go.Proofs.Ytfnpbekfgofhfaa
open Go.RowKit

attribute [local go_sem] Forth.normal Forth.exit Forth.ret Forth.panic

theorem list_fail (w : World) (p g o c : Nat) (bs : List UInt8) (err : Nat) (most : Int) (h : RdAt w p g o c bs err) (hn : err ≠ 0 ∨ (bs.length : Int) < 4) :
    Calls Try.prog 25 #[.pointer (some ⟨p, 0, none⟩), .int .i64 most] w (Took w p g (.slice none 0 0) bs (lackE err)) := by
  have hne : (((lackE err : Nat) : Int) != 0) = true := by have := lackE_ne err; simp; omega
  go_enter Try.func25, Try.ntmps25
  go_wp2_with fail
  refine wp_scope_forth 0 rfl ?_
  go_wp2_with fail
  refine (length_fail _ p g o c bs err most h hn).mono ?_
  rintro e w1 ⟨rfl, rfl⟩
  go_wp2_with fail
  go_step3
  refine ⟨rfl, ?_⟩
  go_wp2_with fail
  refine (fail_any _ p g bs err _ ⟨o, c, h⟩).mono ?_
  rintro e w1 ⟨rfl, h1, k1⟩
  go_wp2
  rw [Exit.noGoto_ret]
  go_ret
  exact ⟨rfl, h1, k1⟩

theorem list_more (w : World) (p g o c : Nat) (bs : List UInt8) (most : Int) (h : RdAt w p g o c bs 0) (hn : 4 ≤ bs.length) (hm : most < (hd4 bs : Nat)) :
    Calls Try.prog 25 #[.pointer (some ⟨p, 0, none⟩), .int .i64 most] w (Took w p g (.slice none 0 0) bs 4) := by
  have HM := Lib.hid hm
  clear hm
  go_enter Try.func25, Try.ntmps25
  go_wp2_with fail
  refine wp_scope_forth 0 rfl ?_
  go_wp2_with fail
  refine (length_more _ p g o c bs most h hn HM.out).mono ?_
  rintro e w1 ⟨rfl, m, rfl⟩
  go_wp2_with fail
  go_step3
  refine ⟨rfl, ?_⟩
  go_wp2_with fail
  refine (fail_any _ p g bs 0 4 ⟨o, c, h.drewN m⟩).mono ?_
  rintro e w1 ⟨rfl, h1, k1⟩
  go_wp2
  rw [Exit.noGoto_ret]
  go_ret
  exact ⟨rfl, h1, ((Only.refl [p] w).drewN m).trans k1⟩

theorem list_short (w : World) (p g o c : Nat) (bs : List UInt8) (M q : Nat) (hq : hd4 bs = q) (h : RdAt w p g o c bs 0) (hn : 4 ≤ bs.length) (hm : q ≤ M) (hw : M ≤ 9223372036854775807) (hs : bs.length < 4 + 4 * q) :
    Calls Try.prog 25 #[.pointer (some ⟨p, 0, none⟩), .int .i64 (M : Int)] w (Took w p g (.slice none 0 0) bs 2) := by
  have l1 := hd4_lt bs
  rw [hq] at l1
  have HQ := Lib.hid hq
  have HW := Lib.hid hw
  have HM := Lib.hid hm
  clear hq hw hm
  go_enter Try.func25, Try.ntmps25
  go_wp2_with fail
  refine wp_scope_forth 0 rfl ?_
  go_wp2_with fail
  refine (length_is _ p g o c bs M q HQ.out h hn HM.out HW.out).mono ?_
  rintro e w1 ⟨rfl, m, rfl⟩
  have h1 := h.drewN m
  go_wp2_with fail
  refine (next_short _ p g o c bs _ h1 (by omega)).mono ?_
  rintro e w1 ⟨rfl, rfl⟩
  go_wp2_with fail
  go_step3
  refine ⟨rfl, ?_⟩
  go_wp2_with fail
  refine (fail_any _ p g bs 0 2 ⟨o, c, h1⟩).mono ?_
  rintro e w1 ⟨rfl, h1, k1⟩
  go_wp2
  rw [Exit.noGoto_ret]
  go_ret
  exact ⟨rfl, h1, ((Only.refl [p] w).drewN m).trans k1⟩

set_option maxHeartbeats 400000 in
theorem list_ok (w : World) (p g o c : Nat) (bs : List UInt8) (M q : Nat) (hq : hd4 bs = q) (h : RdAt w p g o c bs 0) (hn : 4 ≤ bs.length) (hm : q ≤ M) (hw : M ≤ 9223372036854775807) (hs : 4 + 4 * q ≤ bs.length) (hbig : bs.length ≤ 1048576) :
    Calls Try.prog 25 #[.pointer (some ⟨p, 0, none⟩), .int .i64 (M : Int)] w (TookL w p g (decNs q (bs.drop 4)) (bs.drop (4 + 4 * q)) 0) := by
  have l1 := hd4_lt bs
  rw [hq] at l1
  have hle := h.le
  have hgp := h.ne
  have HQ := Lib.hid hq
  have HW := Lib.hid hw
  have HM := Lib.hid hm
  clear hq hw hm
  obtain ⟨o', ho', hsl⟩ := slice_tail (P := Try.prog) 25 5 Try.underlying25 size_u8 g o (4 + 4 * q) c 4 .i64 4 (by omega) (by omega)
  have hpl : ((bs.drop 4).take (4 * q)).length = 4 * q := by simp; omega
  have HP := Lib.hid hpl
  clear hpl
  have hbz : BytesAt w g o' ((bs.drop 4).take (4 * q)) := by
    by_cases hc : 4 < c
    · rw [ho' hc]
      exact (h.bytes.drop 4).take _
    · rw [show q = 0 by omega]
      exact BytesAt.nil _ _ _
  have HB := Lib.hid hbz
  clear hbz ho'
  go_enter Try.func25, Try.ntmps25
  go_wp2_with fail
  refine wp_scope_forth 0 rfl ?_
  go_wp2_with fail
  refine (length_is _ p g o c bs M q HQ.out h hn HM.out HW.out).mono ?_
  rintro e w1 ⟨rfl, m, rfl⟩
  have h1 := h.drewN m
  go_wp2_with fail
  refine (next_ok _ p g o c bs _ (4 + 4 * q) (by omega) h1 hs).mono ?_
  rintro e w1 ⟨rfl, rfl⟩
  go_wp2_with fail
  refine (consume_any _ p g o c bs 0 _ (4 + 4 * q) c h1 hs).mono ?_
  rintro e w1 ⟨rfl, h2, k2⟩
  have hb2 := (HB.out.drewN m).kept k2 (by simpa using hgp)
  go_wp2_with fail
  refine (numbers_any _ g o' (c - 4) q _ hb2 HP.out (by omega) (by omega)).mono ?_
  rintro e w3 ⟨rfl, h3, k3⟩
  have k13 : Only [p] w w3 := (((Only.refl [p] w).drewN m).trans k2).then k3 (by simp)
  have h23 := h2.kept k3 (by simp) (by simp)
  have hsz := (((Only.refl [p] w).drewN m).trans k2).size
  go_wp2
  rw [Forth.ret]
  go_ret
  have hdec : decNs q ((bs.drop 4).take (4 * q)) = decNs q (bs.drop 4) := decNs_take q _
  rw [hdec] at h3
  refine ⟨_, q, by rw [decNs_length]; rfl, .inr ⟨_, rfl, hsz, h3⟩, h23, k13⟩

theorem TookL.of_took {w : World} {p g : Nat} {bs : List UInt8} {err : Nat} {e : Ending} {w' : World} (h : Took w p g (.slice none 0 0) bs err e w') : TookL w p g [] bs err e w' :=
  ⟨none, 0, h.1, .inl rfl, h.2⟩

theorem rlist_any (w : World) (p g : Nat) (bs : List UInt8) (err : Nat) (most : Int) (hm : most ≤ 9223372036854775807) (hbig : bs.length ≤ 1048576) (h : Rd w p g bs err) :
    Calls Try.prog 25 #[.pointer (some ⟨p, 0, none⟩), .int .i64 most] w (TookL w p g (rList most bs err).1 (rList most bs err).2.1 (rList most bs err).2.2) := by
  obtain ⟨o, c, h⟩ := h
  unfold rList
  by_cases he : err ≠ 0
  · rw [if_pos he]
    have := list_fail w p g o c bs err most h (.inl he)
    rw [show lackE err = err by unfold lackE; rw [if_neg he]] at this
    exact this.mono fun _ _ => TookL.of_took
  · rw [if_neg he]
    have he0 : err = 0 := by omega
    subst he0
    by_cases hl : bs.length < 4
    · rw [if_pos hl]
      exact (list_fail w p g o c bs 0 most h (.inr (by omega))).mono fun _ _ => TookL.of_took
    · rw [if_neg hl]
      by_cases h1 : most < (hd4 bs : Int)
      · rw [if_pos h1]
        exact (list_more w p g o c bs most h (by omega) h1).mono fun _ _ => TookL.of_took
      · rw [if_neg h1]
        obtain ⟨M, rfl⟩ := Int.eq_ofNat_of_zero_le (show 0 ≤ most by omega)
        by_cases h2 : bs.length < 4 + 4 * hd4 bs
        · rw [if_pos h2]
          exact (list_short w p g o c bs M _ rfl h (by omega) (by omega) (by omega) h2).mono fun _ _ => TookL.of_took
        · rw [if_neg h2]
          exact list_ok w p g o c bs M _ rfl h (by omega) (by omega) (by omega) (by omega) hbig

theorem rlist_nil (w : World) (most : Int) : Calls Try.prog 25 #[.pointer none, .int .i64 most] w fun e w' => e = .returned (.slice none 0 0) ∧ w = w' := by
  go_enter Try.func25, Try.ntmps25
  go_wp2_with fail
  refine wp_scope_forth 0 rfl ?_
  go_wp2_with fail
  refine (length_nil _ most).mono ?_
  rintro e w1 ⟨rfl, rfl⟩
  go_wp2_with fail
  go_step3
  refine ⟨rfl, ?_⟩
  go_wp2_with fail
  refine (fail_nil _ _).mono ?_
  rintro e w1 ⟨rfl, rfl⟩
  go_wp2
  rw [Exit.noGoto_ret]
  go_ret
  exact ⟨rfl, rfl⟩

/-- A new reader: its pointer's block, and that of its bytes, are new. -/
def NewRd (w : World) (bs : List UInt8) (e : Ending) (w' : World) : Prop :=
  ∃ p g, e = .returned (.pointer (some ⟨p, 0, none⟩)) ∧ Rd w' p g bs 0 ∧ w.heap.size ≤ p ∧ w.heap.size ≤ g ∧ Only [] w w'

def NewRd2 (w : World) (bs : List UInt8) (e : Ending) (w' : World) : Prop :=
  ∃ p g, e = .returned (.pointer (some ⟨p, 0, none⟩)) ∧ Rd w' p g bs 0 ∧ w.heap.size ≤ p ∧ w.heap.size ≤ g ∧ Only [] w w' ∧ g < w'.heap.size

theorem newReader_two (w : World) (s : ByteArray) (hs : s.size ≤ 140737488351232) :
    Calls Try.prog 15 #[.string s] w (NewRd2 w s.data.toList) := by
  have hl : s.data.toList.length = s.size := by simp
  have HL := Lib.hid hl
  clear hl
  go_enter Try.func15, Try.ntmps15
  go_wp2_with (refine wpList_to_bytes _ rfl 9 25 5 (.tmp 3) rfl Try.underlying9 Try.underlying25 Try.underlying5 s rfl (by unfold maxLen; omega) ?_; intro w2 c k2 hc1 hc2 hb2 hlt2)
  go_ret
  have hlen := HL.out
  have hnew := Blk.new w2 70 #[.slice (some ⟨w.heap.size, 0, none⟩) s.size c, .int .i64 0]
  refine ⟨w2.heap.size, w.heap.size, rfl, ⟨0, c, ⟨by rw [hlen]; exact hnew, by omega, by rw [hlen]; exact hc1, hc2, hb2.kept ((Only.refl [] w2).alloc _) (by simp)⟩⟩, k2.size, Nat.le_refl _, k2.alloc _, by simp; omega⟩

theorem newReader_any (w : World) (s : ByteArray) (hs : s.size ≤ 140737488351232) :
    Calls Try.prog 15 #[.string s] w (NewRd w s.data.toList) :=
  (newReader_two w s hs).mono fun _ _ ⟨p, g, h1, h2, h3, h4, h5, _⟩ => ⟨p, g, h1, h2, h3, h4, h5⟩

end Go.Proofs.Ytfnpbekfgofhfaa
