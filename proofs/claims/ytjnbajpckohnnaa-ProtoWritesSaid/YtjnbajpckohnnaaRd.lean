/- The walks of a reader. -/
import Derived.Test.YtjnbajpckohnnaaChecked
import Derived.Test.YtjnbajpckohnnaaPure
import Derived.Test.YtjnbajpckohnnaaForth
import Derived.WalkKit
import Derived.WalkLawsBesides
import Derived.WalkSpells
import Derived.Outline
import Derived.KernelRfl
import Derived.LoopTactic
import Derived.Deep.QuietTactic
import Derived.BigQuiet
namespace Go.Proofs.Ytjnbajpckohnnaa
open Go.RowKit

theorem u32_join (i : Nat) (x y : Int) (hx0 : 0 ≤ x) (hx : x % 2 ^ i = 0) (hx1 : x < 4294967296) (hy0 : 0 ≤ y) (hy : y < 2 ^ i) (hy1 : y < 4294967296) : bits .or .u32 x y = x + y :=
  bits_join .u32 32 (by decide) (fun n h0 h1 => by rw [IntKind.wrap_u32]; omega) i x y hx0 hx (by omega) hy0 hy (by omega)

theorem number_bits (a b c d : UInt8) : bits .or .u32 (bits .or .u32 (bits .or .u32 ((a.toNat : Int) * 16777216) ((b.toNat : Int) * 65536)) ((c.toNat : Int) * 256)) (d.toNat : Int) = (decB a b c d : Nat) := by
  have := a.toNat_lt; have := b.toNat_lt; have := c.toNat_lt; have := d.toNat_lt
  rw [u32_join 24 ((a.toNat : Int) * 16777216) _ (by omega) (by omega) (by omega) (by omega) (by omega) (by omega),
    u32_join 16 ((a.toNat : Int) * 16777216 + (b.toNat : Int) * 65536) _ (by omega) (by omega) (by omega) (by omega) (by omega) (by omega),
    u32_join 8 ((a.toNat : Int) * 16777216 + (b.toNat : Int) * 65536 + (c.toNat : Int) * 256) _ (by omega) (by omega) (by omega) (by omega) (by omega) (by omega)]
  unfold decB
  omega

theorem number_cells (w : World) (g o n c : Nat) (a0 a1 a2 a3 : UInt8) (h0 : w.cell? ⟨g, o, none⟩ = some (.int .u8 (a0.toNat : Int))) (h1 : w.cell? ⟨g, o + 1, none⟩ = some (.int .u8 (a1.toNat : Int)))
    (h2 : w.cell? ⟨g, o + 2, none⟩ = some (.int .u8 (a2.toNat : Int))) (h3 : w.cell? ⟨g, o + 3, none⟩ = some (.int .u8 (a3.toNat : Int))) (hn : 4 ≤ n) :
    Calls Try.prog 36 #[.slice (some ⟨g, o, none⟩) n c] w fun e w' => e = .returned (.int .u32 (decB a0 a1 a2 a3 : Nat)) ∧ ∃ m, w' = w.drewN m := by
  have b0 : (a0.toNat : Int) < 256 := by have := a0.toNat_lt; omega
  have b1 : (a1.toNat : Int) < 256 := by have := a1.toNat_lt; omega
  have b2 : (a2.toNat : Int) < 256 := by have := a2.toNat_lt; omega
  have b3 : (a3.toNat : Int) < 256 := by have := a3.toNat_lt; omega
  have hn' : (4 : Int) ≤ n := by omega
  rw [← number_bits]
  go_enter Try.func36, Try.ntmps36
  go_wp2
  go_quiet (fail)
  go_wp2
  go_ret
  exact ⟨rfl, _, rfl⟩

theorem number_any (w : World) (g o n c : Nat) (l : List UInt8) (hb : BytesAt w g o l) (hl : 4 ≤ l.length) (hn : 4 ≤ n) :
    Calls Try.prog 36 #[.slice (some ⟨g, o, none⟩) n c] w fun e w' => e = .returned (.int .u32 (hd4 l : Nat)) ∧ ∃ m, w' = w.drewN m := by
  obtain ⟨a0, a1, a2, a3, r, rfl⟩ := four l hl
  have h0 := hb 0 (by simp)
  have h1 := hb 1 (by simp)
  have h2 := hb 2 (by simp)
  have h3 := hb 3 (by simp)
  exact number_cells w g o n c a0 a1 a2 a3 h0 h1 h2 h3 hn

/-- The reader behind the pointer to block p has bs left, from place o of block g on, and the error err. -/
structure RdAt (w : World) (p g o c : Nat) (bs : List UInt8) (err : Nat) : Prop where
  blk : Blk w p 81 #[.slice (some ⟨g, o, none⟩) bs.length c, .int .i64 (err : Int)]
  ne : g ≠ p
  le : bs.length ≤ c
  max : c ≤ maxLen
  bytes : BytesAt w g o bs
def Rd (w : World) (p g : Nat) (bs : List UInt8) (err : Nat) : Prop := ∃ o c, RdAt w p g o c bs err

theorem RdAt.kept {S : List Nat} {w w' : World} {p g o c : Nat} {bs : List UInt8} {err : Nat} (h : RdAt w p g o c bs err) (k : Only S w w') (hp : p ∉ S) (hg : g ∉ S) : RdAt w' p g o c bs err :=
  ⟨h.blk.kept k hp, h.ne, h.le, h.max, h.bytes.kept k hg⟩
theorem Rd.kept {S : List Nat} {w w' : World} {p g : Nat} {bs : List UInt8} {err : Nat} (h : Rd w p g bs err) (k : Only S w w') (hp : p ∉ S) (hg : g ∉ S) : Rd w' p g bs err := by
  obtain ⟨o, c, h⟩ := h
  exact ⟨o, c, h.kept k hp hg⟩
theorem RdAt.drewN {w : World} {p g o c : Nat} {bs : List UInt8} {err : Nat} (h : RdAt w p g o c bs err) (m : Nat) : RdAt (w.drewN m) p g o c bs err := ⟨h.blk, h.ne, h.le, h.max, h.bytes⟩
theorem Rd.drewN {w : World} {p g : Nat} {bs : List UInt8} {err : Nat} (h : Rd w p g bs err) (m : Nat) : Rd (w.drewN m) p g bs err := by
  obtain ⟨o, c, h⟩ := h
  exact ⟨o, c, h.drewN m⟩
theorem RdAt.c0 {w : World} {p g o c : Nat} {bs : List UInt8} {err : Nat} (h : RdAt w p g o c bs err) : w.cell? ⟨p, 0, none⟩ = some (.slice (some ⟨g, o, none⟩) bs.length c) := by simpa using h.blk.cell 0
theorem RdAt.c1 {w : World} {p g o c : Nat} {bs : List UInt8} {err : Nat} (h : RdAt w p g o c bs err) : w.cell? ⟨p, 1, none⟩ = some (.int .i64 (err : Int)) := by simpa using h.blk.cell 1

theorem err_any (w : World) (p g o c : Nat) (bs : List UInt8) (err : Nat) (h : RdAt w p g o c bs err) :
    Calls Try.prog 40 #[.pointer (some ⟨p, 0, none⟩)] w fun e w' => e = .returned (.int .i64 (err : Int)) ∧ w = w' := by
  have h1 := h.c1
  go_enter Try.func40, Try.ntmps40
  go_wp2
  go_ret
  exact ⟨rfl, rfl⟩
theorem err_nil (w : World) : Calls Try.prog 40 #[.pointer none] w fun e w' => e = .returned (.int .i64 2) ∧ w = w' := by
  go_enter Try.func40, Try.ntmps40
  go_wp2
  go_ret
  exact ⟨rfl, rfl⟩
theorem left_any (w : World) (p g o c : Nat) (bs : List UInt8) (err : Nat) (h : RdAt w p g o c bs err) :
    Calls Try.prog 41 #[.pointer (some ⟨p, 0, none⟩)] w fun e w' => e = .returned (.int .i64 (bs.length : Int)) ∧ w = w' := by
  have h1 := h.c0
  go_enter Try.func41, Try.ntmps41
  go_wp2
  go_ret
  exact ⟨rfl, rfl⟩
theorem left_nil (w : World) : Calls Try.prog 41 #[.pointer none] w fun e w' => e = .returned (.int .i64 0) ∧ w = w' := by
  go_enter Try.func41, Try.ntmps41
  go_wp2
  go_ret
  exact ⟨rfl, rfl⟩

theorem fail_any (w : World) (p g : Nat) (bs : List UInt8) (err e' : Nat) (h : Rd w p g bs err) :
    Calls Try.prog 37 #[.pointer (some ⟨p, 0, none⟩), .int .i64 (e' : Int)] w fun e w' => e = .returned (.tuple #[]) ∧ Rd w' p g bs e' ∧ Only [p] w w' := by
  obtain ⟨o, c, h⟩ := h
  have h1 := h.c1
  have f1 := h.blk.free 1
  have hdone : Rd (w.setCell ⟨p, 1, none⟩ (.int .i64 (e' : Int))) p g bs e' ∧ Only [p] w (w.setCell ⟨p, 1, none⟩ (.int .i64 (e' : Int))) := by
    have k : Only [p] w (w.setCell ⟨p, 1, none⟩ (.int .i64 (e' : Int))) := (Only.refl [p] w).setCell (.inl (by simp)) _
    exact ⟨⟨o, c, by simpa using h.blk.set 1 (.int .i64 (e' : Int)), h.ne, h.le, h.max, h.bytes.kept k (by simpa using h.ne)⟩, k⟩
  have H := Lib.hid hdone
  clear hdone
  go_enter Try.func37, Try.ntmps37
  go_wp2
  go_end0
  exact ⟨rfl, H.out⟩
theorem fail_nil (w : World) (x : Int) : Calls Try.prog 37 #[.pointer none, .int .i64 x] w fun e w' => e = .returned (.tuple #[]) ∧ w = w' := by
  go_enter Try.func37, Try.ntmps37
  go_wp2
  go_end0
  exact ⟨rfl, rfl⟩

theorem consume_done {w : World} {p g o c n : Nat} {bs : List UInt8} {err : Nat} (h : RdAt w p g o c bs err) (o' : Nat) (ho : n < c → o' = o + n) :
    Rd (w.setCell ⟨p, 0, none⟩ (.slice (some ⟨g, o', none⟩) (bs.length - n) (c - n))) p g (bs.drop n) err ∧ Only [p] w (w.setCell ⟨p, 0, none⟩ (.slice (some ⟨g, o', none⟩) (bs.length - n) (c - n))) := by
  have k : Only [p] w (w.setCell ⟨p, 0, none⟩ (.slice (some ⟨g, o', none⟩) (bs.length - n) (c - n))) := (Only.refl [p] w).setCell (.inl (by simp)) _
  refine ⟨⟨o', c - n, by simpa using h.blk.set 0 (.slice (some ⟨g, o', none⟩) (bs.length - n) (c - n)), h.ne, by have := h.le; simp; omega, by have := h.max; omega, ?_⟩, k⟩
  by_cases hc : n < c
  · obtain rfl := ho hc
    exact (h.bytes.kept k (by simpa using h.ne)).drop n
  · have := h.le
    rw [List.drop_of_length_le (by omega)]
    exact BytesAt.nil _ _ _

theorem consume_any (w : World) (p g o c : Nat) (bs : List UInt8) (err : Nat) (A : Option Addr) (n c' : Nat) (h : RdAt w p g o c bs err) (hn : n ≤ bs.length) :
    Calls Try.prog 35 #[.pointer (some ⟨p, 0, none⟩), .slice A n c'] w fun e w' => e = .returned (.tuple #[]) ∧ Rd w' p g (bs.drop n) err ∧ Only [p] w w' := by
  have h0 := h.c0
  have f0 := h.blk.free 0
  have hm := h.max
  have hle := h.le
  unfold maxLen at hm
  have H1 := Lib.hid (consume_done (n := n) h (o + n) (fun _ => rfl))
  have H2 := Lib.hid (consume_done (n := n) (o' := o) h)
  clear h
  go_enter Try.func35, Try.ntmps35
  go_wp2
  · have hcn : c = n := by assumption
    have h2 := H2.out (by intro h; omega)
    rw [show c - n = 0 by omega] at h2
    go_end0
    exact ⟨rfl, h2⟩
  · go_end0
    exact ⟨rfl, H1.out⟩

attribute [local go_sem] Forth.normal Forth.exit Forth.ret Forth.panic

theorem next_err (w : World) (p g o c : Nat) (bs : List UInt8) (err : Nat) (n : Int) (h : RdAt w p g o c bs err) (he : err ≠ 0) :
    Calls Try.prog 34 #[.pointer (some ⟨p, 0, none⟩), .int .u64 n] w fun e w' => e = .returned (.tuple #[.slice none 0 0, .int .i64 (err : Int)]) ∧ w = w' := by
  have he' : ((err : Int) != 0) = true := by simp; omega
  go_enter Try.func34, Try.ntmps34
  go_wp2_with fail
  refine wp_scope_forth 0 rfl ?_
  go_wp2_with fail
  refine (err_any _ p g o c bs err h).mono ?_
  rintro e w1 ⟨rfl, rfl⟩
  go_wp2_with fail
  go_step3
  refine ⟨rfl, ?_⟩
  go_wp2
  rw [Exit.noGoto_ret]
  go_ret2
  exact ⟨rfl, rfl⟩

theorem next_short (w : World) (p g o c : Nat) (bs : List UInt8) (n : Int) (h : RdAt w p g o c bs 0) (hn : (bs.length : Int) < n) :
    Calls Try.prog 34 #[.pointer (some ⟨p, 0, none⟩), .int .u64 n] w fun e w' => e = .returned (.tuple #[.slice none 0 0, .int .i64 2]) ∧ w = w' := by
  have h0 := h.c0
  have hm := h.max
  have hle := h.le
  have hl : bs.length ≤ 9223372036854775807 := by unfold maxLen at hm; omega
  clear hm hle
  go_enter Try.func34, Try.ntmps34
  go_wp2_with fail
  refine wp_scope_forth 0 rfl ?_
  go_wp2_with fail
  refine (err_any _ p g o c bs 0 h).mono ?_
  rintro e w1 ⟨rfl, rfl⟩
  go_wp2_with fail
  go_step3
  refine ⟨rfl, ?_⟩
  go_wp2
  rw [Exit.noGoto_ret]
  go_ret2
  exact ⟨rfl, rfl⟩

theorem next_ok (w : World) (p g o c : Nat) (bs : List UInt8) (x : Int) (n : Nat) (hx : x = n) (h : RdAt w p g o c bs 0) (hn : n ≤ bs.length) :
    Calls Try.prog 34 #[.pointer (some ⟨p, 0, none⟩), .int .u64 x] w fun e w' => e = .returned (.tuple #[.slice (some ⟨g, o, none⟩) n c, .int .i64 0]) ∧ w = w' := by
  have h0 := h.c0
  have hm := h.max
  have hle := h.le
  have hl : bs.length ≤ 9223372036854775807 := by unfold maxLen at hm; omega
  subst hx
  clear hm
  go_enter Try.func34, Try.ntmps34
  go_wp2_with fail
  refine wp_scope_forth 0 rfl ?_
  go_wp2_with fail
  refine (err_any _ p g o c bs 0 h).mono ?_
  rintro e w1 ⟨rfl, rfl⟩
  go_wp2_with fail
  rw [Forth.ret]
  go_ret2
  exact ⟨rfl, rfl⟩

theorem next_nil (w : World) (n : Int) :
    Calls Try.prog 34 #[.pointer none, .int .u64 n] w fun e w' => e = .returned (.tuple #[.slice none 0 0, .int .i64 2]) ∧ w = w' := by
  go_enter Try.func34, Try.ntmps34
  go_wp2_with fail
  refine wp_scope_forth 0 rfl ?_
  go_wp2_with fail
  refine (err_nil _).mono ?_
  rintro e w1 ⟨rfl, rfl⟩
  go_wp2_with fail
  go_step3
  refine ⟨rfl, ?_⟩
  go_wp2
  rw [Exit.noGoto_ret]
  go_ret2
  exact ⟨rfl, rfl⟩

/-- The error of a read that lacks bytes. -/
def lackE (err : Nat) : Nat := if err = 0 then 2 else err
theorem lackE_ne (err : Nat) : lackE err ≠ 0 := by unfold lackE; split <;> omega

/-- 'next' where the reader has an error, or bytes lack. -/
theorem next_fail (w : World) (p g o c : Nat) (bs : List UInt8) (err : Nat) (n : Int) (h : RdAt w p g o c bs err) (hn : err ≠ 0 ∨ (bs.length : Int) < n) :
    Calls Try.prog 34 #[.pointer (some ⟨p, 0, none⟩), .int .u64 n] w fun e w' => e = .returned (.tuple #[.slice none 0 0, .int .i64 (lackE err : Nat)]) ∧ w = w' := by
  by_cases he : err = 0
  · subst he
    exact next_short w p g o c bs n h (hn.resolve_left (by simp))
  · have := next_err w p g o c bs err n h he
    unfold lackE
    rw [if_neg he]
    exact this

/-- What a read leaves, behind a name: its value, what is left, and that the reader alone has turned. -/
def Took (w : World) (p g : Nat) (v : Value) (bs : List UInt8) (err : Nat) (e : Ending) (w' : World) : Prop := e = .returned v ∧ Rd w' p g bs err ∧ Only [p] w w'

theorem number_fail (w : World) (p g o c : Nat) (bs : List UInt8) (err : Nat) (h : RdAt w p g o c bs err) (hn : err ≠ 0 ∨ (bs.length : Int) < 4) :
    Calls Try.prog 25 #[.pointer (some ⟨p, 0, none⟩)] w (Took w p g (.int .u32 0) bs (lackE err)) := by
  have hne : (((lackE err : Nat) : Int) != 0) = true := by have := lackE_ne err; simp; omega
  go_enter Try.func25, Try.ntmps25
  go_wp2_with fail
  refine wp_scope_forth 0 rfl ?_
  go_wp2_with fail
  refine (next_fail _ p g o c bs err _ h hn).mono ?_
  rintro e w1 ⟨rfl, rfl⟩
  go_wp2_with fail
  go_step3
  refine ⟨rfl, ?_⟩
  go_wp2_with fail
  refine (fail_any _ p g bs err _ ⟨o, c, h⟩).mono ?_
  rintro e w1 ⟨rfl, h1, k1⟩
  go_wp2
  rw [Exit.noGoto_ret]
  go_ret
  exact ⟨rfl, h1, k1⟩

theorem number_ok (w : World) (p g o c : Nat) (bs : List UInt8) (h : RdAt w p g o c bs 0) (hn : 4 ≤ bs.length) :
    Calls Try.prog 25 #[.pointer (some ⟨p, 0, none⟩)] w (Took w p g (.int .u32 (hd4 bs : Nat)) (bs.drop 4) 0) := by
  go_enter Try.func25, Try.ntmps25
  go_wp2_with fail
  refine wp_scope_forth 0 rfl ?_
  go_wp2_with fail
  refine (next_ok _ p g o c bs _ 4 rfl h hn).mono ?_
  rintro e w1 ⟨rfl, rfl⟩
  go_wp2_with fail
  refine (consume_any _ p g o c bs 0 _ 4 c h hn).mono ?_
  rintro e w1 ⟨rfl, h1, k1⟩
  have hb := h.bytes.kept k1 (by simpa using h.ne)
  go_wp2_with fail
  refine (number_any _ g o 4 c bs hb hn (Nat.le_refl _)).mono ?_
  rintro e w2 ⟨rfl, m, rfl⟩
  go_wp2
  rw [Forth.ret]
  go_ret
  exact ⟨rfl, h1.drewN m, k1.drewN m⟩

theorem rnum_any (w : World) (p g : Nat) (bs : List UInt8) (err : Nat) (h : Rd w p g bs err) :
    Calls Try.prog 25 #[.pointer (some ⟨p, 0, none⟩)] w (Took w p g (.int .u32 ((rNumber bs err).1 : Int)) (rNumber bs err).2.1 (rNumber bs err).2.2) := by
  obtain ⟨o, c, h⟩ := h
  unfold rNumber
  by_cases he : err ≠ 0
  · rw [if_pos he]
    have := number_fail w p g o c bs err h (.inl he)
    rwa [show lackE err = err by unfold lackE; rw [if_neg he]] at this
  · rw [if_neg he]
    have he0 : err = 0 := by omega
    subst he0
    by_cases hl : bs.length < 4
    · rw [if_pos hl]
      exact number_fail w p g o c bs 0 h (.inr (by omega))
    · rw [if_neg hl]
      exact number_ok w p g o c bs h (by omega)

theorem rnum_nil (w : World) : Calls Try.prog 25 #[.pointer none] w fun e w' => e = .returned (.int .u32 0) ∧ w = w' := by
  go_enter Try.func25, Try.ntmps25
  go_wp2_with fail
  refine wp_scope_forth 0 rfl ?_
  go_wp2_with fail
  refine (next_nil _ _).mono ?_
  rintro e w1 ⟨rfl, rfl⟩
  go_wp2_with fail
  go_step3
  refine ⟨rfl, ?_⟩
  go_wp2_with fail
  refine (fail_nil _ _).mono ?_
  rintro e w1 ⟨rfl, rfl⟩
  go_wp2
  rw [Exit.noGoto_ret]
  go_ret
  exact ⟨rfl, rfl⟩

end Go.Proofs.Ytjnbajpckohnnaa
