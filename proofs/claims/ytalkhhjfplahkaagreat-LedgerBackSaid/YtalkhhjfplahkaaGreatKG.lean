/- Joined: Forth, Rd, Rd2, Wr, Wr2. -/
import Derived.Scope
import Derived.WalkMore
import Derived.Test.YtalkhhjfplahkaaGreatChecked
import Derived.Test.YtalkhhjfplahkaaGreatKA
import Derived.WalkKit
import Derived.WalkLawsBesides
import Derived.WalkSpells
import Derived.Outline
import Derived.KernelRfl
import Derived.LoopTactic
import Derived.Deep.QuietTactic
import Derived.BigQuiet
namespace Go.Proofs.YtalkhhjfplahkaaGreat

/-- As Q; by a goto to label l: what stands behind the label, from there on without a goto; by any other goto: no way out. -/
def Forth (P : Program) (l : Nat) (rest : Code) (Q : Exit → Act → World → Prop) : Exit → Act → World → Prop
  | .goto l', a, w => l' = l ∧ rest.wp P (Exit.noGoto Q) a w
  | e, a, w => Q e a w

section
variable {P : Program} {a : Act} {w : World} {Q : Exit → Act → World → Prop} {l : Nat} {rest : Code}
theorem Forth.normal : Forth P l rest Q .normal a w = Q .normal a w := rfl
theorem Forth.exit (id : Nat) : Forth P l rest Q (.exit id) a w = Q (.exit id) a w := rfl
theorem Forth.ret : Forth P l rest Q .ret a w = Q .ret a w := rfl
theorem Forth.panic (ch : List PanicEntry) : Forth P l rest Q (.panic ch) a w = Q (.panic ch) a w := rfl
theorem Forth.jump (h : rest.wp P (Exit.noGoto Q) a w) : Forth P l rest Q (.goto l) a w := ⟨rfl, h⟩

theorem wp_scope_forth {c : Code} (l : Nat) (hf : findLabel c l = some rest) (h : c.wp P (Forth P l rest Q) a w) : (Code.scope c).wp P Q a w := by
  intro b k cs
  have hg : gotoIn l (.inScope c :: k) = some (.code rest :: .inScope c :: k) := by simp [gotoIn, hf]
  obtain ⟨e, a1, w1, hq, harr⟩ := h b (.inScope c :: k) cs
  cases e with
  | normal => exact ⟨.normal, a1, w1, hq, .head step_scope (Steps.trans harr (.one step_inScope))⟩
  | exit id => exact ⟨.exit id, a1, w1, hq, fun k' hk => .head step_scope (harr k' (by simp [exitTo, hk]))⟩
  | goto l' =>
    obtain ⟨rfl, hr⟩ := hq
    obtain ⟨e2, a2, w2, hq2, harr2⟩ := hr b (.inScope c :: k) cs
    have hs := harr _ hg
    cases e2 with
    | normal => exact ⟨.normal, a2, w2, hq2, .head step_scope (Steps.trans hs (Steps.trans harr2 (.one step_inScope)))⟩
    | exit id => exact ⟨.exit id, a2, w2, hq2, fun k' hk => .head step_scope (Steps.trans hs (harr2 k' (by simp [exitTo, hk])))⟩
    | goto l' => exact hq2.elim
    | ret => exact ⟨_, a2, w2, hq2, .of_steps (.head step_scope hs) harr2⟩
    | panic ch => exact ⟨_, a2, w2, hq2, .of_steps (.head step_scope hs) harr2⟩
    | outgrown => exact ⟨_, a2, w2, hq2, .of_steps (.head step_scope hs) harr2⟩
  | ret => exact ⟨_, a1, w1, hq, .of_steps (.one step_scope) harr⟩
  | panic ch => exact ⟨_, a1, w1, hq, .of_steps (.one step_scope) harr⟩
  | outgrown => exact ⟨_, a1, w1, hq, .of_steps (.one step_scope) harr⟩
end
end Go.Proofs.YtalkhhjfplahkaaGreat
namespace Go.Proofs.YtalkhhjfplahkaaGreat
open Go.RowKit

theorem u32_join (i : Nat) (x y : Int) (hx0 : 0 ≤ x) (hx : x % 2 ^ i = 0) (hx1 : x < 4294967296) (hy0 : 0 ≤ y) (hy : y < 2 ^ i) (hy1 : y < 4294967296) : bits .or .u32 x y = x + y :=
  bits_join .u32 32 (by decide) (fun n h0 h1 => by rw [IntKind.wrap_u32]; omega) i x y hx0 hx (by omega) hy0 hy (by omega)

theorem number_bits (a b c d : UInt8) : bits .or .u32 (bits .or .u32 (bits .or .u32 ((a.toNat : Int) * 16777216) ((b.toNat : Int) * 65536)) ((c.toNat : Int) * 256)) (d.toNat : Int) = (decB a b c d : Nat) := by
  have := a.toNat_lt; have := b.toNat_lt; have := c.toNat_lt; have := d.toNat_lt
  rw [u32_join 24 ((a.toNat : Int) * 16777216) _ (by omega) (by omega) (by omega) (by omega) (by omega) (by omega),
    u32_join 16 ((a.toNat : Int) * 16777216 + (b.toNat : Int) * 65536) _ (by omega) (by omega) (by omega) (by omega) (by omega) (by omega),
    u32_join 8 ((a.toNat : Int) * 16777216 + (b.toNat : Int) * 65536 + (c.toNat : Int) * 256) _ (by omega) (by omega) (by omega) (by omega) (by omega) (by omega)]
  unfold decB
  omega

theorem number_cells (w : World) (g o n c : Nat) (a0 a1 a2 a3 : UInt8) (h0 : w.cell? ⟨g, o, none⟩ = some (.int .u8 (a0.toNat : Int))) (h1 : w.cell? ⟨g, o + 1, none⟩ = some (.int .u8 (a1.toNat : Int)))
    (h2 : w.cell? ⟨g, o + 2, none⟩ = some (.int .u8 (a2.toNat : Int))) (h3 : w.cell? ⟨g, o + 3, none⟩ = some (.int .u8 (a3.toNat : Int))) (hn : 4 ≤ n) :
    Calls Tryz.prog 88 #[.slice (some ⟨g, o, none⟩) n c] w fun e w' => e = .returned (.int .u32 (decB a0 a1 a2 a3 : Nat)) ∧ ∃ m, w' = w.drewN m := by
  have b0 : (a0.toNat : Int) < 256 := by have := a0.toNat_lt; omega
  have b1 : (a1.toNat : Int) < 256 := by have := a1.toNat_lt; omega
  have b2 : (a2.toNat : Int) < 256 := by have := a2.toNat_lt; omega
  have b3 : (a3.toNat : Int) < 256 := by have := a3.toNat_lt; omega
  have hn' : (4 : Int) ≤ n := by omega
  rw [← number_bits]
  go_enter Tryz.func88, Tryz.ntmps88
  go_wp2
  go_quiet (fail)
  go_wp2
  go_ret
  exact ⟨rfl, _, rfl⟩

theorem number_any (w : World) (g o n c : Nat) (l : List UInt8) (hb : BytesAt w g o l) (hl : 4 ≤ l.length) (hn : 4 ≤ n) :
    Calls Tryz.prog 88 #[.slice (some ⟨g, o, none⟩) n c] w fun e w' => e = .returned (.int .u32 (hd4 l : Nat)) ∧ ∃ m, w' = w.drewN m := by
  obtain ⟨a0, a1, a2, a3, r, rfl⟩ := four l hl
  have h0 := hb 0 (by simp)
  have h1 := hb 1 (by simp)
  have h2 := hb 2 (by simp)
  have h3 := hb 3 (by simp)
  exact number_cells w g o n c a0 a1 a2 a3 h0 h1 h2 h3 hn

/-- The reader behind the pointer to block p has bs left, from place o of block g on, and the error err. -/
structure RdAt (w : World) (p g o c : Nat) (bs : List UInt8) (err : Nat) : Prop where
  blk : Blk w p 97 #[.slice (some ⟨g, o, none⟩) bs.length c, .int .i64 (err : Int)]
  ne : g ≠ p
  le : bs.length ≤ c
  max : c ≤ maxLen
  bytes : BytesAt w g o bs
def Rd (w : World) (p g : Nat) (bs : List UInt8) (err : Nat) : Prop := ∃ o c, RdAt w p g o c bs err

theorem RdAt.kept {S : List Nat} {w w' : World} {p g o c : Nat} {bs : List UInt8} {err : Nat} (h : RdAt w p g o c bs err) (k : Only S w w') (hp : p ∉ S) (hg : g ∉ S) : RdAt w' p g o c bs err :=
  ⟨h.blk.kept k hp, h.ne, h.le, h.max, h.bytes.kept k hg⟩
theorem Rd.kept {S : List Nat} {w w' : World} {p g : Nat} {bs : List UInt8} {err : Nat} (h : Rd w p g bs err) (k : Only S w w') (hp : p ∉ S) (hg : g ∉ S) : Rd w' p g bs err := by
  obtain ⟨o, c, h⟩ := h
  exact ⟨o, c, h.kept k hp hg⟩
theorem RdAt.drewN {w : World} {p g o c : Nat} {bs : List UInt8} {err : Nat} (h : RdAt w p g o c bs err) (m : Nat) : RdAt (w.drewN m) p g o c bs err := ⟨h.blk, h.ne, h.le, h.max, h.bytes⟩
theorem Rd.drewN {w : World} {p g : Nat} {bs : List UInt8} {err : Nat} (h : Rd w p g bs err) (m : Nat) : Rd (w.drewN m) p g bs err := by
  obtain ⟨o, c, h⟩ := h
  exact ⟨o, c, h.drewN m⟩
theorem RdAt.c0 {w : World} {p g o c : Nat} {bs : List UInt8} {err : Nat} (h : RdAt w p g o c bs err) : w.cell? ⟨p, 0, none⟩ = some (.slice (some ⟨g, o, none⟩) bs.length c) := by simpa using h.blk.cell 0
theorem RdAt.c1 {w : World} {p g o c : Nat} {bs : List UInt8} {err : Nat} (h : RdAt w p g o c bs err) : w.cell? ⟨p, 1, none⟩ = some (.int .i64 (err : Int)) := by simpa using h.blk.cell 1

theorem err_any (w : World) (p g o c : Nat) (bs : List UInt8) (err : Nat) (h : RdAt w p g o c bs err) :
    Calls Tryz.prog 108 #[.pointer (some ⟨p, 0, none⟩)] w fun e w' => e = .returned (.int .i64 (err : Int)) ∧ w = w' := by
  have h1 := h.c1
  go_enter Tryz.func108, Tryz.ntmps108
  go_wp2
  go_ret
  exact ⟨rfl, rfl⟩
theorem err_nil (w : World) : Calls Tryz.prog 108 #[.pointer none] w fun e w' => e = .returned (.int .i64 2) ∧ w = w' := by
  go_enter Tryz.func108, Tryz.ntmps108
  go_wp2
  go_ret
  exact ⟨rfl, rfl⟩
theorem left_any (w : World) (p g o c : Nat) (bs : List UInt8) (err : Nat) (h : RdAt w p g o c bs err) :
    Calls Tryz.prog 109 #[.pointer (some ⟨p, 0, none⟩)] w fun e w' => e = .returned (.int .i64 (bs.length : Int)) ∧ w = w' := by
  have h1 := h.c0
  go_enter Tryz.func109, Tryz.ntmps109
  go_wp2
  go_ret
  exact ⟨rfl, rfl⟩
theorem left_nil (w : World) : Calls Tryz.prog 109 #[.pointer none] w fun e w' => e = .returned (.int .i64 0) ∧ w = w' := by
  go_enter Tryz.func109, Tryz.ntmps109
  go_wp2
  go_ret
  exact ⟨rfl, rfl⟩

theorem fail_any (w : World) (p g : Nat) (bs : List UInt8) (err e' : Nat) (h : Rd w p g bs err) :
    Calls Tryz.prog 89 #[.pointer (some ⟨p, 0, none⟩), .int .i64 (e' : Int)] w fun e w' => e = .returned (.tuple #[]) ∧ Rd w' p g bs e' ∧ Only [p] w w' := by
  obtain ⟨o, c, h⟩ := h
  have h1 := h.c1
  have f1 := h.blk.free 1
  have hdone : Rd (w.setCell ⟨p, 1, none⟩ (.int .i64 (e' : Int))) p g bs e' ∧ Only [p] w (w.setCell ⟨p, 1, none⟩ (.int .i64 (e' : Int))) := by
    have k : Only [p] w (w.setCell ⟨p, 1, none⟩ (.int .i64 (e' : Int))) := (Only.refl [p] w).setCell (.inl (by simp)) _
    exact ⟨⟨o, c, by simpa using h.blk.set 1 (.int .i64 (e' : Int)), h.ne, h.le, h.max, h.bytes.kept k (by simpa using h.ne)⟩, k⟩
  have H := Lib.hid hdone
  clear hdone
  go_enter Tryz.func89, Tryz.ntmps89
  go_wp2
  go_end0
  exact ⟨rfl, H.out⟩
theorem fail_nil (w : World) (x : Int) : Calls Tryz.prog 89 #[.pointer none, .int .i64 x] w fun e w' => e = .returned (.tuple #[]) ∧ w = w' := by
  go_enter Tryz.func89, Tryz.ntmps89
  go_wp2
  go_end0
  exact ⟨rfl, rfl⟩

theorem consume_done {w : World} {p g o c n : Nat} {bs : List UInt8} {err : Nat} (h : RdAt w p g o c bs err) (o' : Nat) (ho : n < c → o' = o + n) :
    Rd (w.setCell ⟨p, 0, none⟩ (.slice (some ⟨g, o', none⟩) (bs.length - n) (c - n))) p g (bs.drop n) err ∧ Only [p] w (w.setCell ⟨p, 0, none⟩ (.slice (some ⟨g, o', none⟩) (bs.length - n) (c - n))) := by
  have k : Only [p] w (w.setCell ⟨p, 0, none⟩ (.slice (some ⟨g, o', none⟩) (bs.length - n) (c - n))) := (Only.refl [p] w).setCell (.inl (by simp)) _
  refine ⟨⟨o', c - n, by simpa using h.blk.set 0 (.slice (some ⟨g, o', none⟩) (bs.length - n) (c - n)), h.ne, by have := h.le; simp; omega, by have := h.max; omega, ?_⟩, k⟩
  by_cases hc : n < c
  · obtain rfl := ho hc
    exact (h.bytes.kept k (by simpa using h.ne)).drop n
  · have := h.le
    rw [List.drop_of_length_le (by omega)]
    exact BytesAt.nil _ _ _

theorem consume_any (w : World) (p g o c : Nat) (bs : List UInt8) (err : Nat) (A : Option Addr) (n c' : Nat) (h : RdAt w p g o c bs err) (hn : n ≤ bs.length) :
    Calls Tryz.prog 87 #[.pointer (some ⟨p, 0, none⟩), .slice A n c'] w fun e w' => e = .returned (.tuple #[]) ∧ Rd w' p g (bs.drop n) err ∧ Only [p] w w' := by
  have h0 := h.c0
  have f0 := h.blk.free 0
  have hm := h.max
  have hle := h.le
  unfold maxLen at hm
  have H1 := Lib.hid (consume_done (n := n) h (o + n) (fun _ => rfl))
  have H2 := Lib.hid (consume_done (n := n) (o' := o) h)
  clear h
  go_enter Tryz.func87, Tryz.ntmps87
  go_wp2
  · have hcn : c = n := by assumption
    have h2 := H2.out (by intro h; omega)
    rw [show c - n = 0 by omega] at h2
    go_end0
    exact ⟨rfl, h2⟩
  · go_end0
    exact ⟨rfl, H1.out⟩

attribute [local go_sem] Forth.normal Forth.exit Forth.ret Forth.panic

theorem next_err (w : World) (p g o c : Nat) (bs : List UInt8) (err : Nat) (n : Int) (h : RdAt w p g o c bs err) (he : err ≠ 0) :
    Calls Tryz.prog 86 #[.pointer (some ⟨p, 0, none⟩), .int .u64 n] w fun e w' => e = .returned (.tuple #[.slice none 0 0, .int .i64 (err : Int)]) ∧ w = w' := by
  have he' : ((err : Int) != 0) = true := by simp; omega
  go_enter Tryz.func86, Tryz.ntmps86
  go_wp2_with fail
  refine wp_scope_forth 0 rfl ?_
  go_wp2_with fail
  refine (err_any _ p g o c bs err h).mono ?_
  rintro e w1 ⟨rfl, rfl⟩
  go_wp2_with fail
  go_step3
  refine ⟨rfl, ?_⟩
  go_wp2
  rw [Exit.noGoto_ret]
  go_ret2
  exact ⟨rfl, rfl⟩

theorem next_short (w : World) (p g o c : Nat) (bs : List UInt8) (n : Int) (h : RdAt w p g o c bs 0) (hn : (bs.length : Int) < n) :
    Calls Tryz.prog 86 #[.pointer (some ⟨p, 0, none⟩), .int .u64 n] w fun e w' => e = .returned (.tuple #[.slice none 0 0, .int .i64 2]) ∧ w = w' := by
  have h0 := h.c0
  have hm := h.max
  have hle := h.le
  have hl : bs.length ≤ 9223372036854775807 := by unfold maxLen at hm; omega
  clear hm hle
  go_enter Tryz.func86, Tryz.ntmps86
  go_wp2_with fail
  refine wp_scope_forth 0 rfl ?_
  go_wp2_with fail
  refine (err_any _ p g o c bs 0 h).mono ?_
  rintro e w1 ⟨rfl, rfl⟩
  go_wp2_with fail
  go_step3
  refine ⟨rfl, ?_⟩
  go_wp2
  rw [Exit.noGoto_ret]
  go_ret2
  exact ⟨rfl, rfl⟩

theorem next_ok (w : World) (p g o c : Nat) (bs : List UInt8) (x : Int) (n : Nat) (hx : x = n) (h : RdAt w p g o c bs 0) (hn : n ≤ bs.length) :
    Calls Tryz.prog 86 #[.pointer (some ⟨p, 0, none⟩), .int .u64 x] w fun e w' => e = .returned (.tuple #[.slice (some ⟨g, o, none⟩) n c, .int .i64 0]) ∧ w = w' := by
  have h0 := h.c0
  have hm := h.max
  have hle := h.le
  have hl : bs.length ≤ 9223372036854775807 := by unfold maxLen at hm; omega
  subst hx
  clear hm
  go_enter Tryz.func86, Tryz.ntmps86
  go_wp2_with fail
  refine wp_scope_forth 0 rfl ?_
  go_wp2_with fail
  refine (err_any _ p g o c bs 0 h).mono ?_
  rintro e w1 ⟨rfl, rfl⟩
  go_wp2_with fail
  rw [Forth.ret]
  go_ret2
  exact ⟨rfl, rfl⟩

theorem next_nil (w : World) (n : Int) :
    Calls Tryz.prog 86 #[.pointer none, .int .u64 n] w fun e w' => e = .returned (.tuple #[.slice none 0 0, .int .i64 2]) ∧ w = w' := by
  go_enter Tryz.func86, Tryz.ntmps86
  go_wp2_with fail
  refine wp_scope_forth 0 rfl ?_
  go_wp2_with fail
  refine (err_nil _).mono ?_
  rintro e w1 ⟨rfl, rfl⟩
  go_wp2_with fail
  go_step3
  refine ⟨rfl, ?_⟩
  go_wp2
  rw [Exit.noGoto_ret]
  go_ret2
  exact ⟨rfl, rfl⟩

/-- The error of a read that lacks bytes. -/
def lackE (err : Nat) : Nat := if err = 0 then 2 else err
theorem lackE_ne (err : Nat) : lackE err ≠ 0 := by unfold lackE; split <;> omega

/-- 'next' where the reader has an error, or bytes lack. -/
theorem next_fail (w : World) (p g o c : Nat) (bs : List UInt8) (err : Nat) (n : Int) (h : RdAt w p g o c bs err) (hn : err ≠ 0 ∨ (bs.length : Int) < n) :
    Calls Tryz.prog 86 #[.pointer (some ⟨p, 0, none⟩), .int .u64 n] w fun e w' => e = .returned (.tuple #[.slice none 0 0, .int .i64 (lackE err : Nat)]) ∧ w = w' := by
  by_cases he : err = 0
  · subst he
    exact next_short w p g o c bs n h (hn.resolve_left (by simp))
  · have := next_err w p g o c bs err n h he
    unfold lackE
    rw [if_neg he]
    exact this

/-- What a read leaves, behind a name: its value, what is left, and that the reader alone has turned. -/
def Took (w : World) (p g : Nat) (v : Value) (bs : List UInt8) (err : Nat) (e : Ending) (w' : World) : Prop := e = .returned v ∧ Rd w' p g bs err ∧ Only [p] w w'

theorem number_fail (w : World) (p g o c : Nat) (bs : List UInt8) (err : Nat) (h : RdAt w p g o c bs err) (hn : err ≠ 0 ∨ (bs.length : Int) < 4) :
    Calls Tryz.prog 65 #[.pointer (some ⟨p, 0, none⟩)] w (Took w p g (.int .u32 0) bs (lackE err)) := by
  have hne : (((lackE err : Nat) : Int) != 0) = true := by have := lackE_ne err; simp; omega
  go_enter Tryz.func65, Tryz.ntmps65
  go_wp2_with fail
  refine wp_scope_forth 0 rfl ?_
  go_wp2_with fail
  refine (next_fail _ p g o c bs err _ h hn).mono ?_
  rintro e w1 ⟨rfl, rfl⟩
  go_wp2_with fail
  go_step3
  refine ⟨rfl, ?_⟩
  go_wp2_with fail
  refine (fail_any _ p g bs err _ ⟨o, c, h⟩).mono ?_
  rintro e w1 ⟨rfl, h1, k1⟩
  go_wp2
  rw [Exit.noGoto_ret]
  go_ret
  exact ⟨rfl, h1, k1⟩

theorem number_ok (w : World) (p g o c : Nat) (bs : List UInt8) (h : RdAt w p g o c bs 0) (hn : 4 ≤ bs.length) :
    Calls Tryz.prog 65 #[.pointer (some ⟨p, 0, none⟩)] w (Took w p g (.int .u32 (hd4 bs : Nat)) (bs.drop 4) 0) := by
  go_enter Tryz.func65, Tryz.ntmps65
  go_wp2_with fail
  refine wp_scope_forth 0 rfl ?_
  go_wp2_with fail
  refine (next_ok _ p g o c bs _ 4 rfl h hn).mono ?_
  rintro e w1 ⟨rfl, rfl⟩
  go_wp2_with fail
  refine (consume_any _ p g o c bs 0 _ 4 c h hn).mono ?_
  rintro e w1 ⟨rfl, h1, k1⟩
  have hb := h.bytes.kept k1 (by simpa using h.ne)
  go_wp2_with fail
  refine (number_any _ g o 4 c bs hb hn (Nat.le_refl _)).mono ?_
  rintro e w2 ⟨rfl, m, rfl⟩
  go_wp2
  rw [Forth.ret]
  go_ret
  exact ⟨rfl, h1.drewN m, k1.drewN m⟩

theorem rnum_any (w : World) (p g : Nat) (bs : List UInt8) (err : Nat) (h : Rd w p g bs err) :
    Calls Tryz.prog 65 #[.pointer (some ⟨p, 0, none⟩)] w (Took w p g (.int .u32 ((rNumber bs err).1 : Int)) (rNumber bs err).2.1 (rNumber bs err).2.2) := by
  obtain ⟨o, c, h⟩ := h
  unfold rNumber
  by_cases he : err ≠ 0
  · rw [if_pos he]
    have := number_fail w p g o c bs err h (.inl he)
    rwa [show lackE err = err by unfold lackE; rw [if_neg he]] at this
  · rw [if_neg he]
    have he0 : err = 0 := by omega
    subst he0
    by_cases hl : bs.length < 4
    · rw [if_pos hl]
      exact number_fail w p g o c bs 0 h (.inr (by omega))
    · rw [if_neg hl]
      exact number_ok w p g o c bs h (by omega)

theorem rnum_nil (w : World) : Calls Tryz.prog 65 #[.pointer none] w fun e w' => e = .returned (.int .u32 0) ∧ w = w' := by
  go_enter Tryz.func65, Tryz.ntmps65
  go_wp2_with fail
  refine wp_scope_forth 0 rfl ?_
  go_wp2_with fail
  refine (next_nil _ _).mono ?_
  rintro e w1 ⟨rfl, rfl⟩
  go_wp2_with fail
  go_step3
  refine ⟨rfl, ?_⟩
  go_wp2_with fail
  refine (fail_nil _ _).mono ?_
  rintro e w1 ⟨rfl, rfl⟩
  go_wp2
  rw [Exit.noGoto_ret]
  go_ret
  exact ⟨rfl, rfl⟩

end Go.Proofs.YtalkhhjfplahkaaGreat
namespace Go.Proofs.YtalkhhjfplahkaaGreat
open Go.RowKit

attribute [local go_sem] Forth.normal Forth.exit Forth.ret Forth.panic

theorem u64_join (x y : Nat) (hx : x < 4294967296) (hy : y < 4294967296) : bits .or .u64 ((x : Int) * 4294967296) (y : Int) = ((x * 4294967296 + y : Nat) : Int) := by
  rw [bits_join .u64 64 (by decide) (fun n h0 h1 => by rw [IntKind.wrap_u64]; omega) 32 _ _ (by omega) (by omega) (by omega) (by omega) (by omega) (by omega)]
  omega

theorem size_u8 : ∀ w, (Go.sizeOf 5).run Tryz.prog w = .ok 1 w := fun _ => by kernel_rfl

theorem flag_fail (w : World) (p g o c : Nat) (bs : List UInt8) (err : Nat) (h : RdAt w p g o c bs err) (hn : err ≠ 0 ∨ (bs.length : Int) < 4) :
    Calls Tryz.prog 66 #[.pointer (some ⟨p, 0, none⟩)] w (Took w p g (.bool false) bs (lackE err)) := by
  have hne : (((lackE err : Nat) : Int) != 0) = true := by have := lackE_ne err; simp; omega
  go_enter Tryz.func66, Tryz.ntmps66
  go_wp2_with fail
  refine wp_scope_forth 0 rfl ?_
  go_wp2_with fail
  refine (next_fail _ p g o c bs err _ h hn).mono ?_
  rintro e w1 ⟨rfl, rfl⟩
  go_wp2_with fail
  go_step3
  refine ⟨rfl, ?_⟩
  go_wp2_with fail
  refine (fail_any _ p g bs err _ ⟨o, c, h⟩).mono ?_
  rintro e w1 ⟨rfl, h1, k1⟩
  go_wp2
  rw [Exit.noGoto_ret]
  go_ret
  exact ⟨rfl, h1, k1⟩

theorem flag_form (w : World) (p g o c : Nat) (bs : List UInt8) (h : RdAt w p g o c bs 0) (hn : 4 ≤ bs.length) (h1 : 1 < hd4 bs) :
    Calls Tryz.prog 66 #[.pointer (some ⟨p, 0, none⟩)] w (Took w p g (.bool false) bs 3) := by
  have h1' : (1 : Int) < (hd4 bs : Nat) := by omega
  go_enter Tryz.func66, Tryz.ntmps66
  go_wp2_with fail
  refine wp_scope_forth 0 rfl ?_
  go_wp2_with fail
  refine (next_ok _ p g o c bs _ 4 rfl h hn).mono ?_
  rintro e w1 ⟨rfl, rfl⟩
  go_wp2_with fail
  refine (number_any _ g o 4 c bs h.bytes hn (Nat.le_refl _)).mono ?_
  rintro e w2 ⟨rfl, m, rfl⟩
  go_wp2_with fail
  go_step3
  refine ⟨rfl, ?_⟩
  go_wp2_with fail
  refine (fail_any _ p g bs 0 3 ⟨o, c, h.drewN m⟩).mono ?_
  rintro e w1 ⟨rfl, h1, k1⟩
  go_wp2
  rw [Exit.noGoto_ret]
  go_ret
  exact ⟨rfl, h1, ((Only.refl [p] w).drewN m).trans k1⟩

theorem flag_ok (w : World) (p g o c : Nat) (bs : List UInt8) (h : RdAt w p g o c bs 0) (hn : 4 ≤ bs.length) (h1 : hd4 bs ≤ 1) :
    Calls Tryz.prog 66 #[.pointer (some ⟨p, 0, none⟩)] w (Took w p g (.bool (decide (hd4 bs = 1))) (bs.drop 4) 0) := by
  have h1' : ((hd4 bs : Nat) : Int) ≤ 1 := by omega
  have e1 : decide (hd4 bs = 1) = (((hd4 bs : Nat) : Int) == 1) := by
    rw [Bool.eq_iff_iff]; simp; omega
  rw [e1]
  clear e1
  go_enter Tryz.func66, Tryz.ntmps66
  go_wp2_with fail
  refine wp_scope_forth 0 rfl ?_
  go_wp2_with fail
  refine (next_ok _ p g o c bs _ 4 rfl h hn).mono ?_
  rintro e w1 ⟨rfl, rfl⟩
  go_wp2_with fail
  refine (number_any _ g o 4 c bs h.bytes hn (Nat.le_refl _)).mono ?_
  rintro e w2 ⟨rfl, m, rfl⟩
  go_wp2_with fail
  refine (consume_any _ p g o c bs 0 _ 4 c (h.drewN m) hn).mono ?_
  rintro e w1 ⟨rfl, h1, k1⟩
  have hb := h.bytes.kept (((Only.refl [p] w).drewN m).trans k1) (by simpa using h.ne)
  go_wp2_with fail
  refine (number_any _ g o 4 c bs hb hn (Nat.le_refl _)).mono ?_
  rintro e w2 ⟨rfl, m', rfl⟩
  go_wp2
  rw [Forth.ret]
  go_ret
  exact ⟨rfl, h1.drewN _, (((Only.refl [p] w).drewN m).trans k1).drewN _⟩

theorem rflag_any (w : World) (p g : Nat) (bs : List UInt8) (err : Nat) (h : Rd w p g bs err) :
    Calls Tryz.prog 66 #[.pointer (some ⟨p, 0, none⟩)] w (Took w p g (.bool (rFlag bs err).1) (rFlag bs err).2.1 (rFlag bs err).2.2) := by
  obtain ⟨o, c, h⟩ := h
  unfold rFlag
  by_cases he : err ≠ 0
  · rw [if_pos he]
    have := flag_fail w p g o c bs err h (.inl he)
    rwa [show lackE err = err by unfold lackE; rw [if_neg he]] at this
  · rw [if_neg he]
    have he0 : err = 0 := by omega
    subst he0
    by_cases hl : bs.length < 4
    · rw [if_pos hl]
      exact flag_fail w p g o c bs 0 h (.inr (by omega))
    · rw [if_neg hl]
      by_cases h1 : 1 < hd4 bs
      · rw [if_pos h1]
        exact flag_form w p g o c bs h (by omega) h1
      · rw [if_neg h1]
        exact flag_ok w p g o c bs h (by omega) (by omega)

theorem rflag_nil (w : World) : Calls Tryz.prog 66 #[.pointer none] w fun e w' => e = .returned (.bool false) ∧ w = w' := by
  go_enter Tryz.func66, Tryz.ntmps66
  go_wp2_with fail
  refine wp_scope_forth 0 rfl ?_
  go_wp2_with fail
  refine (next_nil _ _).mono ?_
  rintro e w1 ⟨rfl, rfl⟩
  go_wp2_with fail
  go_step3
  refine ⟨rfl, ?_⟩
  go_wp2_with fail
  refine (fail_nil _ _).mono ?_
  rintro e w1 ⟨rfl, rfl⟩
  go_wp2
  rw [Exit.noGoto_ret]
  go_ret
  exact ⟨rfl, rfl⟩

theorem rend_any (w : World) (p g : Nat) (bs : List UInt8) (err : Nat) (h : Rd w p g bs err) :
    Calls Tryz.prog 93 #[.pointer (some ⟨p, 0, none⟩)] w (Took w p g (.int .i64 (rEnd bs err : Nat)) bs (rEnd bs err)) := by
  obtain ⟨o, c, h⟩ := h
  unfold rEnd
  by_cases he : err ≠ 0
  · rw [if_pos he]
    have he' : ((err : Int) != 0) = true := by simp; omega
    go_enter Tryz.func93, Tryz.ntmps93
    go_wp2_with fail
    refine wp_scope_forth 0 rfl ?_
    go_wp2_with fail
    refine (err_any _ p g o c bs err h).mono ?_
    rintro e w1 ⟨rfl, rfl⟩
    go_wp2_with fail
    go_step3
    refine ⟨rfl, ?_⟩
    go_wp2_with fail
    refine (fail_any _ p g bs err _ ⟨o, c, h⟩).mono ?_
    rintro e w1 ⟨rfl, h1, k1⟩
    go_wp2
    rw [Exit.noGoto_ret]
    go_ret
    exact ⟨rfl, h1, k1⟩
  · rw [if_neg he]
    have he0 : err = 0 := by omega
    subst he0
    by_cases hl : bs.length = 0
    · rw [if_pos hl]
      have hl' : (bs.length : Int) ≤ 0 := by omega
      go_enter Tryz.func93, Tryz.ntmps93
      go_wp2_with fail
      refine wp_scope_forth 0 rfl ?_
      go_wp2_with fail
      refine (err_any _ p g o c bs 0 h).mono ?_
      rintro e w1 ⟨rfl, rfl⟩
      go_wp2_with fail
      refine (left_any _ p g o c bs 0 h).mono ?_
      rintro e w1 ⟨rfl, rfl⟩
      go_wp2
      rw [Forth.ret]
      go_ret
      exact ⟨rfl, ⟨o, c, h⟩, Only.refl _ _⟩
    · rw [if_neg hl]
      have hl' : (0 : Int) < (bs.length : Int) := by omega
      go_enter Tryz.func93, Tryz.ntmps93
      go_wp2_with fail
      refine wp_scope_forth 0 rfl ?_
      go_wp2_with fail
      refine (err_any _ p g o c bs 0 h).mono ?_
      rintro e w1 ⟨rfl, rfl⟩
      go_wp2_with fail
      refine (left_any _ p g o c bs 0 h).mono ?_
      rintro e w1 ⟨rfl, rfl⟩
      go_wp2_with fail
      go_step3
      refine ⟨rfl, ?_⟩
      go_wp2_with fail
      refine (fail_any _ p g bs 0 4 ⟨o, c, h⟩).mono ?_
      rintro e w1 ⟨rfl, h1, k1⟩
      go_wp2
      rw [Exit.noGoto_ret]
      go_ret
      exact ⟨rfl, h1, k1⟩

theorem rend_nil (w : World) : Calls Tryz.prog 93 #[.pointer none] w fun e w' => e = .returned (.int .i64 2) ∧ w = w' := by
  go_enter Tryz.func93, Tryz.ntmps93
  go_wp2_with fail
  refine wp_scope_forth 0 rfl ?_
  go_wp2_with fail
  refine (err_nil _).mono ?_
  rintro e w1 ⟨rfl, rfl⟩
  go_wp2_with fail
  go_step3
  refine ⟨rfl, ?_⟩
  go_wp2_with fail
  refine (fail_nil _ _).mono ?_
  rintro e w1 ⟨rfl, rfl⟩
  go_wp2
  rw [Exit.noGoto_ret]
  go_ret
  exact ⟨rfl, rfl⟩

end Go.Proofs.YtalkhhjfplahkaaGreat
namespace Go.Proofs.YtalkhhjfplahkaaGreat
open Go.RowKit

theorem info_u8 : (Tryz.prog.info? 5).map (fun i => (i.zero, i.size, i.bytes)) = some (some (.int .u8 0), 1, 1) := by kernel_rfl

/-- The writer behind the pointer to block p has written bs; its bytes lie in a block of F. -/
def Wr (w : World) (p : Nat) (F : List Nat) (bs : List UInt8) : Prop :=
  ∃ v, Blk w p 84 #[v] ∧ w.ownsRow 0 5 1 v bs.length (byteVs bs) ∧ v.ownBlock ≠ some p ∧ ∀ k, v.ownBlock = some k → k ∈ F

/-- Behind a write: what is written, and what alone has turned. -/
def Wrote (w w' : World) (p : Nat) (F : List Nat) (bs : List UInt8) : Prop :=
  ∃ F', Wr w' p F' bs ∧ Only (p :: F) w w' ∧ ∀ k ∈ F', k ∈ F ∨ w.heap.size ≤ k

/-- What a call without results leaves, behind a name. -/
def Gives (R : World → Prop) (e : Ending) (w' : World) : Prop := e = .returned (.tuple #[]) ∧ R w'

theorem Wr.lt {w : World} {p : Nat} {F : List Nat} {bs : List UInt8} (h : Wr w p F bs) : p < w.heap.size := by
  obtain ⟨v, h1, _⟩ := h
  exact h1.lt

theorem Wr.kept {S : List Nat} {w w' : World} {p : Nat} {F : List Nat} {bs : List UInt8} (h : Wr w p F bs) (k : Only S w w') (hp : p ∉ S) (hF : ∀ i ∈ F, i ∉ S) : Wr w' p F bs := by
  obtain ⟨v, h1, h2, h3, h4⟩ := h
  exact ⟨v, h1.kept k hp, ownsRow_kept h2 k (fun g hg => hF g (h4 g hg)), h3, h4⟩

theorem Wrote.from {w w0 w' : World} {p : Nat} {F : List Nat} {bs : List UInt8} (k : Only [] w w0) (h : Wrote w0 w' p F bs) : Wrote w w' p F bs := by
  obtain ⟨F', h1, h2, h3⟩ := h
  refine ⟨F', h1, (k.more (T := p :: F) (by simp)).then h2 (fun _ hi => .inl hi), fun i hi => (h3 i hi).imp id (fun h => Nat.le_trans k.size h)⟩

theorem Wrote.join {w w1 w2 : World} {p : Nat} {F F1 : List Nat} {bs : List UInt8} (k : Only (p :: F) w w1) (hF : ∀ i ∈ F1, i ∈ F ∨ w.heap.size ≤ i) (h : Wrote w1 w2 p F1 bs) : Wrote w w2 p F bs := by
  obtain ⟨F2, h1, h2, h3⟩ := h
  refine ⟨F2, h1, k.then h2 (fun i hi => ?_), fun i hi => ?_⟩
  · rcases List.mem_cons.1 hi with rfl | hi
    · exact .inl (by simp)
    · exact (hF i hi).imp (fun h => by simp [h]) id
  · rcases h3 i hi with h | h
    · exact hF i h
    · exact .inr (Nat.le_trans k.size h)

theorem put_done {w w1 : World} {p : Nat} {F : List Nat} {bs l : List UInt8} {old v' : Value} (hb : Blk w p 84 #[old]) (hne : old.ownBlock ≠ some p) (hF : ∀ k, old.ownBlock = some k → k ∈ F)
    (hown1 : w1.ownsRow 0 5 1 v' (bs.length + l.length) (byteVs bs ++ byteVs l)) (hg : w.grownBy w1 old.ownBlock) (hat : v'.ownBlock = old.ownBlock ∨ v'.ownBlock = some w.heap.size) :
    Wrote w (w1.setCell ⟨p, 0, none⟩ v') p F (bs ++ l) := by
  have hb1 : Blk w1 p 84 #[old] := (hg.block p hb.lt (fun e => hne e.symm)).trans hb
  have hv : v'.ownBlock ≠ some p := by
    rcases hat with h | h
    · rw [h]; exact hne
    · rw [h]; intro e; injection e with e; have := hb.lt; omega
  refine ⟨v'.ownBlock.toList, ⟨v', by simpa using hb1.set 0 v', ?_, hv, fun k hk => by simp [hk]⟩, ?_, fun k hk => ?_⟩
  · rw [List.length_append, byteVs_append]
    exact ownsRow_far hown1 hv _
  · exact ((Only.refl (p :: F) w).grown hg (fun k hk => .inl (by simp [hF k hk]))).setCell (.inl (by simp)) _
  · have hk' : v'.ownBlock = some k := by simpa using hk
    rcases hat with h | h
    · exact .inl (hF k (by rw [← h]; exact hk'))
    · rw [h] at hk'
      injection hk' with hk'
      exact .inr (by omega)

set_option maxHeartbeats 400000 in
theorem put_any (w : World) (p : Nat) (F : List Nat) (bs : List UInt8) (x : Value) (l : List UInt8) (hw : Wr w p F bs) (hx : SrcV w x l.length (byteVs l)) (hlen : bs.length + l.length ≤ 1048576) :
    Calls Tryz.prog 59 #[.pointer (some ⟨p, 0, none⟩), x] w (Gives (fun w' => Wrote w w' p F (bs ++ l))) := by
  obtain ⟨v, hb, hown, hne, hF⟩ := hw
  obtain ⟨A, c, rfl⟩ := ownsRow_slice hown
  obtain ⟨A', c', rfl, hrest⟩ := id hx
  have hcell := hb.cell 0
  simp only [List.getElem?_toArray, List.getElem?_cons_zero] at hcell
  go_enter Tryz.func59, Tryz.ntmps59
  go_wp2_with (at_builtin; refine wpList_append_src _ rfl (.tmp 10) (.tmp 11) 82 rfl 5 (.int .u8 0) 1 Tryz.underlying82 info_u8 rfl (.slice A bs.length c) bs.length (byteVs bs) rfl hown (.slice A' l.length c') l.length (byteVs l) rfl hx (byteVs_one l) ?c1 ?c2 ?go)
  case c1 => unfold maxLen; omega
  case c2 => omega
  case go =>
    intro v' w1 hown1 hg hat
    have hdone := Lib.hid (put_done hb hne hF hown1 hg hat)
    obtain ⟨A1, c1, rfl⟩ := ownsRow_slice hown1
    have hb1 : Blk w1 p 84 #[.slice A bs.length c] := (hg.block p hb.lt (fun e => hne e.symm)).trans hb
    have k0 := hb1.cell 0
    simp only [List.getElem?_toArray, List.getElem?_cons_zero] at k0
    have k1 := hb1.free 0
    clear hat hF hne hrest hx
    go_wp2
    go_end0
    exact ⟨rfl, hdone.out⟩

theorem put_nil (w : World) (x : Value) : Calls Tryz.prog 59 #[.pointer none, x] w (Gives (fun w' => w = w')) := by
  go_enter Tryz.func59, Tryz.ntmps59
  go_wp2
  go_end0
  exact ⟨rfl, rfl⟩

/-- Four bytes laid as a slice's literal. -/
theorem src_be4 (w : World) (n : Nat) (x : Int) (hx : x = n) (hn : n < 4294967296) : SrcV (w.alloc (.cells #[.int .u8 (x / 16777216), .int .u8 (x / 65536 % 256), .int .u8 (x / 256 % 256), .int .u8 (x % 256)] 5)) (.slice (some ⟨w.heap.size, 0, none⟩) 4 4) 4 (byteVs (be4 n)) := by
  subst hx
  have e : byteVs (be4 n) = [.int .u8 ((n : Int) / 16777216), .int .u8 ((n : Int) / 65536 % 256), .int .u8 ((n : Int) / 256 % 256), .int .u8 ((n : Int) % 256)] := by
    unfold byteVs be4
    simp only [List.map_cons, List.map_nil, byteV_ofNat]
    congr 2
    omega
  rw [e]
  refine ⟨_, _, rfl, rfl, .inr ⟨_, rfl, fun j u hu => ?_⟩⟩
  rw [addr_add, Nat.zero_add, (Blk.new w 5 _).cell j]
  simpa using hu

theorem wnumber_any (w : World) (p : Nat) (F : List Nat) (bs : List UInt8) (x : Int) (n : Nat) (hx : x = n) (hn : n < 4294967296) (hw : Wr w p F bs) (hlen : bs.length + 4 ≤ 1048576) :
    Calls Tryz.prog 35 #[.pointer (some ⟨p, 0, none⟩), .int .u32 x] w (Gives (fun w' => Wrote w w' p F (bs ++ be4 n))) := by
  have h0 : 0 ≤ x := by omega
  have h1 : x < 4294967296 := by omega
  have hs := Lib.hid (src_be4 w n x hx hn)
  clear hx
  go_enter Tryz.func35, Tryz.ntmps35
  go_wp2_with fail
  refine (put_any _ p F bs _ (be4 n) (hw.kept ((Only.refl [] w).alloc _) (by simp) (by simp)) hs.out hlen).mono ?_
  rintro e w1 ⟨rfl, hw1⟩
  go_wp2
  go_end0
  exact ⟨rfl, hw1.from ((Only.refl [] w).alloc _)⟩

theorem wnumber_nil (w : World) (x : Int) (h0 : 0 ≤ x) (h1 : x < 4294967296) :
    Calls Tryz.prog 35 #[.pointer none, .int .u32 x] w (Gives (fun w' => Only [] w w')) := by
  go_enter Tryz.func35, Tryz.ntmps35
  go_wp2_with fail
  refine (put_nil _ _).mono ?_
  rintro e w1 ⟨rfl, rfl⟩
  go_wp2
  go_end0
  exact ⟨rfl, (Only.refl [] w).alloc _⟩

theorem wflag_any (w : World) (p : Nat) (F : List Nat) (bs : List UInt8) (b : Bool) (hw : Wr w p F bs) (hlen : bs.length + 4 ≤ 1048576) :
    Calls Tryz.prog 38 #[.pointer (some ⟨p, 0, none⟩), .bool b] w (Gives (fun w' => Wrote w w' p F (bs ++ be4 b.toNat))) := by
  cases b <;>
  · go_enter Tryz.func38, Tryz.ntmps38
    go_wp2_with fail
    refine (wnumber_any _ p F bs _ _ rfl (by decide) hw hlen).mono ?_
    rintro e w1 ⟨rfl, hw1⟩
    go_wp2
    first
    | (go_end0; exact ⟨rfl, hw1⟩)
    | (refine bodyPost_ret (results_none rfl _ _ _) rfl ?_; exact ⟨rfl, hw1⟩)

theorem wflag_nil (w : World) (b : Bool) :
    Calls Tryz.prog 38 #[.pointer none, .bool b] w (Gives (fun w' => Only [] w w')) := by
  cases b <;>
  · go_enter Tryz.func38, Tryz.ntmps38
    go_wp2_with fail
    refine (wnumber_nil _ _ (by decide) (by decide)).mono ?_
    rintro e w1 ⟨rfl, hw1⟩
    go_wp2
    first
    | (go_end0; exact ⟨rfl, hw1⟩)
    | (refine bodyPost_ret (results_none rfl _ _ _) rfl ?_; exact ⟨rfl, hw1⟩)

end Go.Proofs.YtalkhhjfplahkaaGreat
namespace Go.Proofs.YtalkhhjfplahkaaGreat
open Go.RowKit

theorem padN_lt (n : Nat) : padN n < 4 := by unfold padN; omega

theorem padding_any (w : World) (x : Int) (n : Nat) (hx : x = n) (hn : n < 18446744073709551616) :
    Calls Tryz.prog 60 #[.int .u64 x] w fun e w' => e = .returned (.int .u64 (padN n : Nat)) ∧ w = w' := by
  have h0 : 0 ≤ x := by omega
  have h1 : x < 18446744073709551616 := by omega
  have e : ((padN n : Nat) : Int) = (4 - x % 4) % 4 := by unfold padN; omega
  rw [e]
  clear e hx
  go_enter Tryz.func60, Tryz.ntmps60
  go_wp2
  go_ret
  exact ⟨rfl, rfl⟩

set_option maxHeartbeats 400000 in
theorem wtext_any (w : World) (p : Nat) (F : List Nat) (bs : List UInt8) (s : ByteArray) (hw : Wr w p F bs) (hlen : bs.length + s.size + 8 ≤ 1048576) :
    Calls Tryz.prog 40 #[.pointer (some ⟨p, 0, none⟩), .string s] w (Gives (fun w' => Wrote w w' p F (bs ++ encT s.data.toList))) := by
  have hs : s.size ≤ 1048576 := by omega
  have hl : s.data.toList.length = s.size := by simp
  have hpad := padN_lt s.size
  have hp0 := hw.lt
  go_enter Tryz.func40, Tryz.ntmps40
  go_wp2_with fail
  refine (wnumber_any _ p F bs _ s.size (by omega) (by omega) hw (by omega)).mono ?_
  rintro e w1 ⟨rfl, hw1⟩
  obtain ⟨F1, a1, a2, a3⟩ := hw1
  have H3 := Lib.hid a3
  clear a3
  go_wp2_with (refine wpList_to_bytes _ rfl 9 82 5 (.tmp 13) rfl Tryz.underlying9 Tryz.underlying82 Tryz.underlying5 s rfl (by unfold maxLen; omega) ?_; intro w2 c k2 hc1 hc2 hb2 hlt2)
  have hsrc := SrcV.of_bytes c hb2
  rw [hl] at hsrc
  have hsrc' := hsrc
  rw [← hl] at hsrc'
  refine (put_any _ p F1 _ _ s.data.toList (a1.kept k2 (by simp) (by simp)) (by rw [hl]; exact hsrc) (by simp [be4_length]; omega)).mono ?_
  rintro e w3 ⟨rfl, hw3⟩
  have hw3' := hw3.from k2
  obtain ⟨F3, b1, b2, b3⟩ := hw3'
  have H5 := Lib.hid b3
  clear b3 hw3 hsrc hsrc' hb2
  obtain ⟨i0, hi, hz0, hz1, hz2⟩ := info_parts info_u8
  go_wp2_with fail
  refine (padding_any _ _ s.size (by omega) (by omega)).mono ?_
  rintro e w4 ⟨rfl, rfl⟩
  go_wp2_with (refine wpList_make_full _ rfl (.tmp 18) (.tmp 18) 82 rfl 0 5 i0 (.int .u8 0) 1 Tryz.underlying82 hi hz0 hz1 .u64 .u64 _ _ (padN s.size) rfl rfl rfl rfl ?c1 ?c2 ?c3 ?go)
  case c1 => rw [hz2]; omega
  case c2 => unfold maxLen; omega
  case c3 => omega
  case go =>
    intro w5 hown5 hg5
    have k5 : Only [] w3 w5 := (Only.refl [] w3).grown hg5 (by intro k hk; cases hk)
    rw [madeCells_bytes] at hown5
    have hsrc5 := ownsRow_src hown5
    clear hown5
    go_wp2_with fail
    refine (put_any _ p F3 _ _ (zeros (padN s.size)) (b1.kept k5 (by simp) (by simp)) (by simpa [zeros] using hsrc5) (by simp [be4_length, zeros]; omega)).mono ?_
    rintro e w6 ⟨rfl, hw6⟩
    have hw6' := hw6.from k5
    go_wp2
    go_end0
    refine ⟨rfl, Wrote.join a2 H3.out (Wrote.join b2 H5.out ?_)⟩
    simpa [encT] using hw6'

theorem wtext_nil (w : World) (s : ByteArray) (hs : s.size ≤ 140737488351232) :
    Calls Tryz.prog 40 #[.pointer none, .string s] w (Gives (fun w' => Only [] w w')) := by
  have hpad := padN_lt s.size
  obtain ⟨i0, hi, hz0, hz1, hz2⟩ := info_parts info_u8
  go_enter Tryz.func40, Tryz.ntmps40
  go_wp2_with fail
  refine (wnumber_nil _ _ (by omega) (by omega)).mono ?_
  rintro e w1 ⟨rfl, k1⟩
  go_wp2_with (refine wpList_to_bytes _ rfl 9 82 5 (.tmp 13) rfl Tryz.underlying9 Tryz.underlying82 Tryz.underlying5 s rfl (by unfold maxLen; omega) ?_; intro w2 c k2 hc1 hc2 hb2 hlt2)
  refine (put_nil _ _).mono ?_
  rintro e w3 ⟨rfl, rfl⟩
  clear hb2
  go_wp2_with fail
  refine (padding_any _ _ s.size (by omega) (by omega)).mono ?_
  rintro e w4 ⟨rfl, rfl⟩
  go_wp2_with (refine wpList_make_full _ rfl (.tmp 18) (.tmp 18) 82 rfl 0 5 i0 (.int .u8 0) 1 Tryz.underlying82 hi hz0 hz1 .u64 .u64 _ _ (padN s.size) rfl rfl rfl rfl ?c1 ?c2 ?c3 ?go)
  case c1 => rw [hz2]; omega
  case c2 => unfold maxLen; omega
  case c3 => omega
  case go =>
    intro w5 hown5 hg5
    have k5 : Only [] w2 w5 := (Only.refl [] w2).grown hg5 (by intro k hk; cases hk)
    clear hown5
    go_wp2_with fail
    refine (put_nil _ _).mono ?_
    rintro e w6 ⟨rfl, rfl⟩
    go_wp2
    go_end0
    exact ⟨rfl, (k1.trans k2).trans k5⟩

set_option maxHeartbeats 400000 in
theorem wlist_any (w : World) (p : Nat) (F : List Nat) (bs : List UInt8) (A : Option Addr) (c : Nat) (l : List Nat) (hw : Wr w p F bs) (hl : Nums w (p :: F) A l) (h32 : ∀ n ∈ l, n < 4294967296) (hlen : bs.length + 4 * l.length + 4 ≤ 1048576) :
    Calls Tryz.prog 39 #[.pointer (some ⟨p, 0, none⟩), .slice A l.length c] w (Gives (fun w' => Wrote w w' p F (bs ++ encL l))) := by
  have hL : l.length ≤ 1048576 := by omega
  have H32 := Lib.hid h32
  have HL := Lib.hid hl
  clear h32 hl
  go_enter Tryz.func39, Tryz.ntmps39
  go_wp2_with fail
  refine (wnumber_any _ p F bs _ l.length (by omega) (by omega) hw (by omega)).mono ?_
  rintro e w1 ⟨rfl, hw1⟩
  go_wp2_with fail
  go_loopw [13] (fun i wr => ∃ k : Nat, k ≤ l.length ∧ i = .int .i64 k ∧ Wrote w wr p F (bs ++ be4 l.length ++ encNs (l.take k))) (fun i _ => l.length - (intOf i).toNat)
  case atStart => exact ⟨0, Nat.zero_le _, rfl, by simpa [encNs] using hw1⟩
  case round =>
    obtain ⟨k, hk, rfl, hwr⟩ := hrel
    by_cases hlt : k < l.length
    · obtain ⟨F1, a1, a2, a3⟩ := hwr
      have H3 := Lib.hid a3
      clear a3
      obtain ⟨g, o, rfl, hgS, hnums⟩ : ∃ g o, A = some ⟨g, o, none⟩ ∧ g ∉ p :: F ∧ NumsAt w g o l := by
        rcases HL.out with h0 | h0
        · rw [h0] at hlt; simp at hlt
        · exact h0
      have hcell := (hnums.kept a2 hgS) k hlt
      have h32 := H32.out _ (List.getElem_mem hlt)
      have hbl : (bs ++ be4 l.length ++ encNs (l.take k)).length + 4 ≤ 1048576 := by simp [be4_length, encNs_length]; omega
      clear hnums hgS hw1 hw
      go_wp2_with fail
      refine (wnumber_any _ p F1 _ _ l[k] rfl h32 a1 hbl).mono ?_
      rintro e w2 ⟨rfl, hw2⟩
      go_wp2
      go_roundw
      case rel => exact ⟨k + 1, by omega, by go_num, by
        have := Wrote.join a2 H3.out hw2
        rw [encNs_take l k hlt]
        simpa using this⟩
      case measure => simp [intOf]; omega
    · obtain rfl : k = l.length := by omega
      clear hw1 hw
      go_wp2
      go_end0
      exact ⟨rfl, by simpa [encL] using hwr⟩

theorem bytes_any (w : World) (p : Nat) (F : List Nat) (bs : List UInt8) (hw : Wr w p F bs) :
    Calls Tryz.prog 37 #[.pointer (some ⟨p, 0, none⟩)] w fun e w' => e = .returned (.string (strOf bs)) ∧ w = w' := by
  obtain ⟨v, hb, hown, hne, hF⟩ := hw
  obtain ⟨A, c, rfl⟩ := ownsRow_slice hown
  have hcell := hb.cell 0
  simp only [List.getElem?_toArray, List.getElem?_cons_zero] at hcell
  have hsrc := ownsRow_src hown
  go_enter Tryz.func37, Tryz.ntmps37
  go_wp2_with (refine wpList_to_string _ rfl 82 9 5 (.tmp 8) rfl Tryz.underlying82 Tryz.underlying5 Tryz.underlying9 A bs.length c bs rfl hsrc ?_)
  go_ret
  exact ⟨rfl, rfl⟩

theorem bytes_nil (w : World) :
    Calls Tryz.prog 37 #[.pointer none] w fun e w' => e = .returned (.string ⟨#[]⟩) ∧ w = w' := by
  go_enter Tryz.func37, Tryz.ntmps37
  go_wp2
  go_ret
  exact ⟨rfl, rfl⟩

end Go.Proofs.YtalkhhjfplahkaaGreat
