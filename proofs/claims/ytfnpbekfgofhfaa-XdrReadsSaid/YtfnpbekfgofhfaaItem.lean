/- Items: how they are written, by the program and by the document. -/
import Derived.Test.YtfnpbekfgofhfaaRef
namespace Go.Proofs.Ytfnpbekfgofhfaa
open Go.RowKit

/-- An item, its list as it lies in memory. -/
structure It where
  kind : Int
  n : Nat
  s : ByteArray
  A : Option Addr
  c : Nat
  l : List Nat

def It.cells (x : It) : Array Value := #[.int .i64 x.kind, .int .u64 (x.n : Int), .string x.s, .slice x.A x.l.length x.c]

/-- An item's bytes. -/
def It.bytes (x : It) : List UInt8 :=
  if x.kind.tmod 5 = 0 then be4 (x.n % 4294967296) else if x.kind.tmod 5 = 1 then be8 x.n else if x.kind.tmod 5 = 2 then be4 (decide (x.n % 2 = 1)).toNat
  else if x.kind.tmod 5 = 3 then encT x.s.data.toList else if x.kind.tmod 5 = 4 then encL x.l else []

/-- The item's sizes are such as are looked at; its numbers are numbers. -/
structure It.Fits (x : It) : Prop where
  n : x.n < 18446744073709551616
  s : x.s.size ≤ 2000
  l : x.l.length ≤ 500
  u : ∀ n ∈ x.l, n < 4294967296

theorem It.bytes_length (x : It) (h : x.Fits) : x.bytes.length ≤ 2010 ∧ x.bytes.length % 4 = 0 := by
  have hs : x.s.data.toList.length = x.s.size := by simp
  have hp := padN_lt x.s.size
  have h1 := h.s
  have h2 := h.l
  have hm : (4 + x.s.size + padN x.s.size) % 4 = 0 := (padN_test x.s.size _ (Nat.le_refl _)).2 rfl
  unfold It.bytes
  repeat' split
  all_goals simp only [be4_length, be8_length, encT_length, encL_length, List.length_nil, hs]
  all_goals first | omega | exact ⟨by decide, trivial⟩

set_option maxHeartbeats 1000000 in
theorem write_any (w : World) (p : Nat) (F : List Nat) (bs : List UInt8) (x : It) (hx : x.Fits) (hw : Wr w p F bs) (hl : Nums w (p :: F) x.A x.l) (hlen : bs.length + 2010 ≤ 1048576) :
    Calls Try.prog 12 #[.pointer (some ⟨p, 0, none⟩), .agg x.cells] w (Gives (fun w' => Wrote w w' p F (bs ++ x.bytes))) := by
  obtain ⟨kind, n, s, A, c, l⟩ := x
  have hn := hx.n
  have hs := hx.s
  have hll := hx.l
  have hu := Lib.hid hx.u
  have k0 : Only [] w (w.alloc (.cells #[.int .i64 kind, .int .u64 (n : Int), .string s, .slice A l.length c] 33)) := (Only.refl [] w).alloc _
  have hw0 := hw.kept k0 (by simp) (by simp)
  have hl0 : Nums (w.alloc (.cells #[.int .i64 kind, .int .u64 (n : Int), .string s, .slice A l.length c] 33)) (p :: F) A l := by
    rcases hl with h | ⟨g, o, h1, h2, h3⟩
    · exact .inl h
    · exact .inr ⟨g, o, h1, h2, h3.kept k0 (by simp)⟩
  have HL := Lib.hid hl0
  have HN := Lib.hid hn
  clear hl hl0 hx hw hn
  simp only at hs hll hu HN
  unfold It.cells It.bytes
  simp only
  by_cases e0 : kind.tmod 5 = 0
  · rw [if_pos e0]
    go_enter Try.func12, Try.ntmps12
    go_wp2_with fail
    refine (wnumber_any _ p F bs _ (n % 4294967296) (by omega) (by omega) hw0 (by omega)).mono ?_
    rintro e w1 ⟨rfl, hw1⟩
    go_wp2
    go_end0
    exact ⟨rfl, hw1.from k0⟩
  · have f0 : (kind.tmod 5 == 0) = false := by simpa using e0
    rw [if_neg e0]
    clear e0
    by_cases e1 : kind.tmod 5 = 1
    · rw [if_pos e1]
      clear f0
      go_enter Try.func12, Try.ntmps12
      go_wp2_with fail
      refine (wlong_any _ p F bs _ n rfl HN.out hw0 (by omega)).mono ?_
      rintro e w1 ⟨rfl, hw1⟩
      go_wp2
      go_end0
      exact ⟨rfl, hw1.from k0⟩
    · have f1 : (kind.tmod 5 == 1) = false := by simpa using e1
      rw [if_neg e1]
      clear e1
      by_cases e2 : kind.tmod 5 = 2
      · rw [if_pos e2]
        clear f0 f1
        have hb : ((n : Int) % 2 == 1) = decide (n % 2 = 1) := by
          rw [Bool.eq_iff_iff]; simp; omega
        go_enter Try.func12, Try.ntmps12
        go_wp2_with fail
        refine (wflag_any _ p F bs _ hw0 (by omega)).mono ?_
        rintro e w1 ⟨rfl, hw1⟩
        go_wp2
        go_end0
        exact ⟨rfl, hw1.from k0⟩
      · have f2 : (kind.tmod 5 == 2) = false := by simpa using e2
        rw [if_neg e2]
        clear e2
        by_cases e3 : kind.tmod 5 = 3
        · rw [if_pos e3]
          clear f0 f1 f2
          go_enter Try.func12, Try.ntmps12
          go_wp2_with fail
          refine (wtext_any _ p F bs s hw0 (by omega)).mono ?_
          rintro e w1 ⟨rfl, hw1⟩
          go_wp2
          go_end0
          exact ⟨rfl, hw1.from k0⟩
        · have f3 : (kind.tmod 5 == 3) = false := by simpa using e3
          rw [if_neg e3]
          clear e3
          by_cases e4 : kind.tmod 5 = 4
          · rw [if_pos e4]
            clear f0 f1 f2 f3
            go_enter Try.func12, Try.ntmps12
            go_wp2_with fail
            refine (wlist_any _ p F bs A c l hw0 HL.out hu.out (by omega)).mono ?_
            rintro e w1 ⟨rfl, hw1⟩
            go_wp2
            go_end0
            exact ⟨rfl, hw1.from k0⟩
          · have f4 : (kind.tmod 5 == 4) = false := by simpa using e4
            rw [if_neg e4]
            clear e4
            go_enter Try.func12, Try.ntmps12
            go_wp2
            go_end0
            refine ⟨rfl, Wrote.from k0 ?_⟩
            rw [List.append_nil]
            exact ⟨F, hw0, Only.refl _ _, fun k hk => .inl hk⟩

set_option maxHeartbeats 1000000 in
theorem text_any (w : World) (x : It) (hx : x.Fits) (hl : Nums w [] x.A x.l) :
    Calls Try.prog 13 #[.agg x.cells] w fun e w' => e = .returned (.string (strOf x.bytes)) ∧ Only [] w w' := by
  obtain ⟨kind, n, s, A, c, l⟩ := x
  have hn := hx.n
  have hs := hx.s
  have hll := hx.l
  have hu := Lib.hid hx.u
  have k0 : Only [] w (w.alloc (.cells #[.int .i64 kind, .int .u64 (n : Int), .string s, .slice A l.length c] 33)) := (Only.refl [] w).alloc _
  have hl0 : Nums (w.alloc (.cells #[.int .i64 kind, .int .u64 (n : Int), .string s, .slice A l.length c] 33)) [] A l := by
    rcases hl with h | ⟨g, o, h1, h2, h3⟩
    · exact .inl h
    · exact .inr ⟨g, o, h1, h2, h3.kept k0 (by simp)⟩
  have HL := Lib.hid hl0
  have HN := Lib.hid hn
  clear hl hl0 hx hn
  simp only at hs hll hu HN
  unfold It.cells It.bytes
  simp only
  by_cases e0 : kind.tmod 5 = 0
  · rw [if_pos e0]
    go_enter Try.func13, Try.ntmps13
    go_wp2_with fail
    refine (fnumber_any _ _ (n % 4294967296) (by omega) (by omega)).mono ?_
    rintro e w1 ⟨rfl, k1⟩
    go_wp2
    go_ret
    exact ⟨rfl, k0.trans k1⟩
  · have f0 : (kind.tmod 5 == 0) = false := by simpa using e0
    rw [if_neg e0]
    clear e0
    by_cases e1 : kind.tmod 5 = 1
    · rw [if_pos e1]
      clear f0
      go_enter Try.func13, Try.ntmps13
      go_wp2_with fail
      refine (flong_any _ _ n rfl HN.out).mono ?_
      rintro e w1 ⟨rfl, k1⟩
      go_wp2
      go_ret
      exact ⟨rfl, k0.trans k1⟩
    · have f1 : (kind.tmod 5 == 1) = false := by simpa using e1
      rw [if_neg e1]
      clear e1
      by_cases e2 : kind.tmod 5 = 2
      · rw [if_pos e2]
        clear f0 f1
        have hb : ((n : Int) % 2 == 1) = decide (n % 2 = 1) := by
          rw [Bool.eq_iff_iff]; simp; omega
        go_enter Try.func13, Try.ntmps13
        go_wp2_with fail
        refine (fflag_any _ _).mono ?_
        rintro e w1 ⟨rfl, k1⟩
        go_wp2
        go_ret
        exact ⟨rfl, k0.trans k1⟩
      · have f2 : (kind.tmod 5 == 2) = false := by simpa using e2
        rw [if_neg e2]
        clear e2
        by_cases e3 : kind.tmod 5 = 3
        · rw [if_pos e3]
          clear f0 f1 f2
          go_enter Try.func13, Try.ntmps13
          go_wp2_with fail
          refine (ftext_any _ s (by omega)).mono ?_
          rintro e w1 ⟨rfl, k1⟩
          go_wp2
          go_ret
          exact ⟨rfl, k0.trans k1⟩
        · have f3 : (kind.tmod 5 == 3) = false := by simpa using e3
          rw [if_neg e3]
          clear e3
          by_cases e4 : kind.tmod 5 = 4
          · rw [if_pos e4]
            clear f0 f1 f2 f3
            go_enter Try.func13, Try.ntmps13
            go_wp2_with fail
            refine (flist_any _ A c l HL.out hu.out (by omega)).mono ?_
            rintro e w1 ⟨rfl, k1⟩
            go_wp2
            go_ret
            exact ⟨rfl, k0.trans k1⟩
          · have f4 : (kind.tmod 5 == 4) = false := by simpa using e4
            rw [if_neg e4]
            clear e4
            go_enter Try.func13, Try.ntmps13
            go_wp2
            go_ret
            exact ⟨rfl, k0⟩

/-- From place o of block g on lie the items its, four cells each. -/
def ItemsAt (w : World) (g o : Nat) (its : List It) : Prop := ∀ j (h : j < its.length), w.cell? ⟨g, o + j * 4, none⟩ = some (.int .i64 its[j].kind) ∧ w.cell? ⟨g, o + j * 4 + 1, none⟩ = some (.int .u64 (its[j].n : Int)) ∧
  w.cell? ⟨g, o + j * 4 + 2, none⟩ = some (.string its[j].s) ∧ w.cell? ⟨g, o + j * 4 + 3, none⟩ = some (.slice its[j].A its[j].l.length its[j].c)

/-- The slice at A reads as the items its; all of it lies below block B. -/
structure Its (w : World) (B : Nat) (A : Option Addr) (its : List It) : Prop where
  at_ : its = [] ∨ ∃ g o, A = some ⟨g, o, none⟩ ∧ g < B ∧ ItemsAt w g o its
  lists : ∀ x ∈ its, x.l = [] ∨ ∃ g o, x.A = some ⟨g, o, none⟩ ∧ g < B ∧ NumsAt w g o x.l
  n : ∀ x ∈ its, x.n < 18446744073709551616
  u : ∀ x ∈ its, ∀ n ∈ x.l, n < 4294967296
  s : ∀ x ∈ its, x.s.size ≤ 9223372036854775807
  l : ∀ x ∈ its, x.l.length ≤ 9223372036854775807

theorem Its.kept {w w' : World} {B : Nat} {A : Option Addr} {its : List It} (h : Its w B A its) {S : List Nat} (k : Only S w w') (hS : ∀ i ∈ S, B ≤ i) : Its w' B A its := by
  have hn : ∀ g, g < B → g ∉ S := fun g hg hm => by have := hS g hm; omega
  refine ⟨h.at_.imp id ?_, fun x hx => (h.lists x hx).imp id ?_, h.n, h.u, h.s, h.l⟩
  · rintro ⟨g, o, h1, h2, h3⟩
    exact ⟨g, o, h1, h2, fun j hj => ⟨k.cell (h3 j hj).1 (hn g h2), k.cell (h3 j hj).2.1 (hn g h2), k.cell (h3 j hj).2.2.1 (hn g h2), k.cell (h3 j hj).2.2.2 (hn g h2)⟩⟩
  · rintro ⟨g, o, h1, h2, h3⟩
    exact ⟨g, o, h1, h2, h3.kept k (hn g h2)⟩

/-- Are there more items, or longer ones, than are looked at? -/
def greatB (its : List It) : Bool := decide (60 < its.length) || its.any fun x => decide (2000 < x.s.size) || decide (500 < x.l.length)

theorem great_take (its : List It) (k : Nat) (h : k < its.length) : ((its.take (k + 1)).any fun x => decide (2000 < x.s.size) || decide (500 < x.l.length)) = (((its.take k).any fun x => decide (2000 < x.s.size) || decide (500 < x.l.length)) || (decide (2000 < its[k].s.size) || decide (500 < its[k].l.length))) := by
  rw [List.take_succ_eq_append_getElem h, List.any_append]
  simp
theorem great_at (its : List It) (k : Nat) (h : k < its.length) (h0 : (decide (2000 < its[k].s.size) || decide (500 < its[k].l.length)) = true) : (its.any fun x => decide (2000 < x.s.size) || decide (500 < x.l.length)) = true :=
  List.any_eq_true.2 ⟨its[k], List.getElem_mem h, h0⟩

set_option maxHeartbeats 400000 in
theorem great_any (w : World) (B : Nat) (A : Option Addr) (c : Nat) (its : List It) (h : Its w B A its) (hlen : its.length ≤ 9223372036854775807) :
    Calls Try.prog 11 #[.slice A its.length c] w fun e w' => e = .returned (.bool (greatB its)) ∧ w = w' := by
  unfold greatB
  by_cases h60 : 60 < its.length
  · have h60' : (60 : Int) < (its.length : Int) := by omega
    have e1 : decide (60 < its.length) = true := by simpa using h60
    rw [e1, Bool.true_or]
    clear e1
    go_enter Try.func11, Try.ntmps11
    go_wp2
    go_ret
    exact ⟨rfl, rfl⟩
  · have h60' : (its.length : Int) ≤ 60 := by omega
    have e1 : decide (60 < its.length) = false := by simpa using h60
    rw [e1, Bool.false_or]
    clear e1 hlen
    go_enter Try.func11, Try.ntmps11
    go_wp2
    go_loop [3] (fun i => ∃ k : Nat, k ≤ its.length ∧ i = .int .i64 k ∧ ((its.take k).any fun x => decide (2000 < x.s.size) || decide (500 < x.l.length)) = false) (fun i => its.length - (intOf i).toNat)
    case atStart => exact ⟨0, Nat.zero_le _, rfl, by simp⟩
    case round =>
      obtain ⟨k, hk, rfl, hz⟩ := hrel
      have HZ := Lib.hid hz
      clear hz
      by_cases hlt : k < its.length
      · obtain ⟨g, o, rfl, hgB, hits⟩ : ∃ g o, A = some ⟨g, o, none⟩ ∧ g < B ∧ ItemsAt w g o its := by
          rcases h.at_ with h0 | h0
          · rw [h0] at hlt; simp at hlt
          · exact h0
        obtain ⟨c0, c1, c2, c3⟩ := hits k hlt
        have hs := h.s _ (List.getElem_mem hlt)
        have hl := h.l _ (List.getElem_mem hlt)
        clear hits c0 c1
        by_cases hg : (decide (2000 < its[k].s.size) || decide (500 < its[k].l.length)) = true
        · have hany := Lib.hid (great_at its k hlt hg)
          by_cases h2 : 2000 < its[k].s.size
          · have h2' : (2000 : Int) < (its[k].s.size : Int) := by omega
            clear hg h2
            go_wp2
            go_ret
            exact ⟨by rw [hany.out]; rfl, rfl⟩
          · have h2' : (its[k].s.size : Int) ≤ 2000 := by omega
            have h3' : (500 : Int) < (its[k].l.length : Int) := by simp [h2] at hg; omega
            clear hg h2
            go_wp2
            go_ret
            exact ⟨by rw [hany.out]; rfl, rfl⟩
        · have hgf : (decide (2000 < its[k].s.size) || decide (500 < its[k].l.length)) = false := by simpa using hg
          have h2' : (its[k].s.size : Int) ≤ 2000 := by simp at hg; omega
          have h3' : (its[k].l.length : Int) ≤ 500 := by simp at hg; omega
          have HT := Lib.hid (great_take its k hlt)
          have HG := Lib.hid hgf
          clear hg hgf
          go_wp2
          go_round
          case rel => exact ⟨k + 1, by omega, by go_num, by rw [HT.out, HZ.out, HG.out]; rfl⟩
          case measure => simp [intOf]; omega
      · obtain rfl : k = its.length := by omega
        go_wp2
        go_ret
        have := HZ.out
        rw [List.take_length] at this
        exact ⟨by rw [this]; rfl, rfl⟩

theorem great_no {its : List It} (h : greatB its = false) : its.length ≤ 60 ∧ ∀ x ∈ its, x.s.size ≤ 2000 ∧ x.l.length ≤ 500 := by
  unfold greatB at h
  simp only [Bool.or_eq_false_iff, decide_eq_false_iff_not, Nat.not_lt, List.any_eq_false, Bool.or_eq_true, decide_eq_true_eq, not_or] at h
  exact ⟨h.1, h.2⟩

end Go.Proofs.Ytfnpbekfgofhfaa
