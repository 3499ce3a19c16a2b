/- The walks of the document's reader. -/
import Derived.Test.YtjnbajpckohnnaaRef
import Derived.Test.YtjnbajpckohnnaaPure2
import Derived.IntWalk
namespace Go.Proofs.Ytjnbajpckohnnaa
open Go.RowKit

theorem index_strOf {P : Program} (t : TypeId) (ht : P.underlying t = some .string) (bs : List UInt8) (i : Nat) (x : Int) (k : IntKind) (hx : x = i) (h : i < bs.length) :
    ∀ W : World, (Instr.index t (.string (strOf bs)) (.int k x)).run P W = .ok (.int .u8 ((bs[i].toNat : Nat) : Int)) W := by
  intro W
  subst hx
  have hs := strOf_size bs
  rw [run_index_string W t _ k _ ht, dif_pos ⟨by omega, by omega⟩]
  rfl

theorem from_strOf {P : Program} (t : TypeId) (ht : P.underlying t = some .string) (bs : List UInt8) (i : Nat) (x : Int) (k : IntKind) (hx : x = i) (h : i ≤ bs.length) :
    ∀ W : World, (Instr.slice t (.string (strOf bs)) (some (.int k x)) none none).run P W = .ok (.string (strOf (bs.drop i))) W := by
  intro W
  subst hx
  have hs := strOf_size bs
  rw [run_slice_string_from_if W t _ k _ ht, if_pos ⟨by omega, by omega⟩, hs]
  congr 2
  show (ByteArray.mk bs.toArray).extract _ _ = _
  rw [ByteArray.extract_mk, Int.toNat_natCast, List.take_of_length_le (by simp)]
  rfl

theorem part_strOf {P : Program} (t : TypeId) (ht : P.underlying t = some .string) (bs : List UInt8) (i j : Nat) (x y : Int) (k k' : IntKind) (hx : x = i) (hy : y = j) (hij : i ≤ j) (h : j ≤ bs.length) :
    ∀ W : World, (Instr.slice t (.string (strOf bs)) (some (.int k x)) (some (.int k' y)) none).run P W = .ok (.string (strOf ((bs.drop i).take (j - i)))) W := by
  intro W
  subst hx
  subst hy
  have hs := strOf_size bs
  rw [run_slice_string W t _ k k' _ _ ht (by omega) (by omega) (by omega)]
  congr 2
  show (ByteArray.mk bs.toArray).extract _ _ = _
  rw [ByteArray.extract_mk, Int.toNat_natCast, Int.toNat_natCast]
  rfl

/-- The document's reader behind the pointer to block q has bs left, and the error err. -/
def Rf (w : World) (q : Nat) (bs : List UInt8) (err : Nat) : Prop := Blk w q 71 #[.string (strOf bs), .int .i64 (err : Int)]

theorem Rf.kept {S : List Nat} {w w' : World} {q : Nat} {bs : List UInt8} {err : Nat} (h : Rf w q bs err) (k : Only S w w') (hq : q ∉ S) : Rf w' q bs err := Blk.kept h k hq
theorem Rf.drew {w : World} {q : Nat} {bs : List UInt8} {err : Nat} (h : Rf w q bs err) : Rf w.drew q bs err := h
theorem Rf.drewN {w : World} {q : Nat} {bs : List UInt8} {err : Nat} (h : Rf w q bs err) (n : Nat) : Rf (w.drewN n) q bs err := h
theorem Rf.c0 {w : World} {q : Nat} {bs : List UInt8} {err : Nat} (h : Rf w q bs err) : w.cell? ⟨q, 0, none⟩ = some (.string (strOf bs)) := by simpa using Blk.cell h 0
theorem Rf.c1 {w : World} {q : Nat} {bs : List UInt8} {err : Nat} (h : Rf w q bs err) : w.cell? ⟨q, 1, none⟩ = some (.int .i64 (err : Int)) := by simpa using Blk.cell h 1
theorem Rf.set0 {w : World} {q : Nat} {bs : List UInt8} {err : Nat} (h : Rf w q bs err) (cs : List UInt8) : Rf (w.setCell ⟨q, 0, none⟩ (.string (strOf cs))) q cs err := by
  unfold Rf; simpa using Blk.set h 0 (.string (strOf cs))
theorem Rf.set1 {w : World} {q : Nat} {bs : List UInt8} {err : Nat} (h : Rf w q bs err) (e' : Nat) (x : Int) (hx : x = e') : Rf (w.setCell ⟨q, 1, none⟩ (.int .i64 x)) q bs e' := by
  subst hx
  unfold Rf; simpa using Blk.set h 1 (.int .i64 (e' : Int))
theorem only_set (w : World) (q i : Nat) (v : Value) : Only [q] w (w.setCell ⟨q, i, none⟩ v) := (Only.refl [q] w).setCell (.inl (by simp)) v

/-- What a read leaves, behind a name. -/
def FTook (w : World) (q : Nat) (v : Value) (bs : List UInt8) (err : Nat) (e : Ending) (w' : World) : Prop := e = .returned v ∧ Rf w' q bs err ∧ Only [q] w w'

theorem fat_short (w : World) (q : Nat) (bs : List UInt8) (err : Nat) (h : Rf w q bs err) (hl : bs.length < 4) :
    Calls Try.prog 42 #[.pointer (some ⟨q, 0, none⟩)] w fun e w' => e = .returned (.int .i64 (-1)) ∧ w = w' := by
  have h0 := h.c0
  have hs := strOf_size bs
  have hl' : (bs.length : Int) < 4 := by omega
  go_enter Try.func42, Try.ntmps42
  go_wp2
  go_ret
  exact ⟨rfl, rfl⟩

set_option maxRecDepth 100000 in
theorem fat_ok (w : World) (q : Nat) (bs : List UInt8) (err : Nat) (h : Rf w q bs err) (hl : 4 ≤ bs.length) :
    Calls Try.prog 42 #[.pointer (some ⟨q, 0, none⟩)] w fun e w' => e = .returned (.int .i64 (hd4 bs : Nat)) ∧ ∃ m, w' = w.drewN m := by
  have h0 := h.c0
  have hs := strOf_size bs
  have hl' : (4 : Int) ≤ bs.length := by omega
  obtain ⟨a0, a1, a2, a3, r, hb⟩ := four bs hl
  have i0 := index_strOf (P := Try.prog) 9 Try.underlying9 bs 0 0 .i64 rfl (by omega)
  have i1 := index_strOf (P := Try.prog) 9 Try.underlying9 bs 1 1 .i64 rfl (by omega)
  have i2 := index_strOf (P := Try.prog) 9 Try.underlying9 bs 2 2 .i64 rfl (by omega)
  have i3 := index_strOf (P := Try.prog) 9 Try.underlying9 bs 3 3 .i64 rfl (by omega)
  have e0 : bs[0].toNat = a0.toNat := by subst hb; rfl
  have e1 : bs[1].toNat = a1.toNat := by subst hb; rfl
  have e2 : bs[2].toNat = a2.toNat := by subst hb; rfl
  have e3 : bs[3].toNat = a3.toNat := by subst hb; rfl
  rw [e0] at i0; rw [e1] at i1; rw [e2] at i2; rw [e3] at i3
  have hd : ((hd4 bs : Nat) : Int) = (((a0.toNat : Int) * 256 + a1.toNat) * 256 + a2.toNat) * 256 + a3.toNat := by subst hb; show ((decB a0 a1 a2 a3 : Nat) : Int) = _; unfold decB; omega
  obtain ⟨v, hv⟩ : ∃ v : Int, ((hd4 bs : Nat) : Int) = v := ⟨_, rfl⟩
  rw [hv] at hd ⊢
  have HV := Lib.hid hd
  clear hv
  have b0 : (a0.toNat : Int) < 256 := by have := a0.toNat_lt; omega
  have b1 : (a1.toNat : Int) < 256 := by have := a1.toNat_lt; omega
  have b2 : (a2.toNat : Int) < 256 := by have := a2.toNat_lt; omega
  have b3 : (a3.toNat : Int) < 256 := by have := a3.toNat_lt; omega
  clear hd e0 e1 e2 e3 hb hl
  go_enter Try.func42, Try.ntmps42
  go_wp2
  go_quiet (fail)
  go_wp2
  go_ret
  exact ⟨by rw [HV.out]; rfl, _, rfl⟩

theorem fat_is (w : World) (q : Nat) (bs : List UInt8) (err v : Nat) (hv : hd4 bs = v) (h : Rf w q bs err) (hl : 4 ≤ bs.length) :
    Calls Try.prog 42 #[.pointer (some ⟨q, 0, none⟩)] w fun e w' => e = .returned (.int .i64 (v : Int)) ∧ ∃ m, w' = w.drewN m := by
  subst hv
  exact fat_ok w q bs err h hl

theorem fat_int (w : World) (q : Nat) (bs : List UInt8) (err : Nat) (x : Int) (hx : (hd4 bs : Int) = x) (h : Rf w q bs err) (hl : 4 ≤ bs.length) :
    Calls Try.prog 42 #[.pointer (some ⟨q, 0, none⟩)] w fun e w' => e = .returned (.int .i64 x) ∧ ∃ m, w' = w.drewN m := by
  subst hx
  exact fat_ok w q bs err h hl

theorem gnum_any (w : World) (q : Nat) (bs : List UInt8) (err : Nat) (h : Rf w q bs err) :
    Calls Try.prog 29 #[.pointer (some ⟨q, 0, none⟩)] w (FTook w q (.int .u32 ((rNumber bs err).1 : Int)) (rNumber bs err).2.1 (rNumber bs err).2.2) := by
  have h0 := h.c0
  have h1 := h.c1
  have f0 := Blk.free h 0
  have f1 := Blk.free h 1
  unfold rNumber
  by_cases he : err ≠ 0
  · rw [if_pos he]
    have he' : ((err : Int) != 0) = true := by simp; omega
    go_enter Try.func29, Try.ntmps29
    go_wp2
    go_ret
    exact ⟨rfl, h, Only.refl _ _⟩
  · rw [if_neg he]
    have he0 : err = 0 := by omega
    subst he0
    clear he
    by_cases hl : bs.length < 4
    · rw [if_pos hl]
      go_enter Try.func29, Try.ntmps29
      go_wp2_with fail
      refine (fat_short _ q bs 0 h hl).mono ?_
      rintro e w1 ⟨rfl, rfl⟩
      go_wp2
      go_ret
      exact ⟨rfl, h.set1 2 2 rfl, only_set _ _ _ _⟩
    · rw [if_neg hl]
      have hlt := hd4_lt bs
      obtain ⟨v, hv⟩ : ∃ v : Int, (hd4 bs : Int) = v := ⟨_, rfl⟩
      have hlt' : v < 4294967296 := by omega
      have hlt0 : 0 ≤ v := by omega
      simp only
      rw [hv]
      have HV := Lib.hid hv
      have HL := Lib.hid hl
      have hsl := from_strOf (P := Try.prog) 9 Try.underlying9 bs 4 4 .i64 rfl (by omega)
      clear hv hl hlt
      go_enter Try.func29, Try.ntmps29
      go_wp2_with fail
      refine (fat_int _ q bs 0 v HV.out h (by have := HL.out; omega)).mono ?_
      rintro e w1 ⟨rfl, m, rfl⟩
      go_wp2
      go_ret
      exact ⟨rfl, (h.drewN m).set0 _, ((Only.refl [q] w).drewN m).trans (only_set _ _ _ _)⟩

theorem gend_any (w : World) (q : Nat) (bs : List UInt8) (err : Nat) (h : Rf w q bs err) :
    Calls Try.prog 31 #[.pointer (some ⟨q, 0, none⟩)] w (FTook w q (.int .i64 (rEnd bs err : Nat)) bs (rEnd bs err)) := by
  have h0 := h.c0
  have h1 := h.c1
  have f1 := Blk.free h 1
  have hs := strOf_size bs
  unfold rEnd
  by_cases he : err ≠ 0
  · rw [if_pos he]
    have he' : ((err : Int) == 0) = false := by simp; omega
    go_enter Try.func31, Try.ntmps31
    go_wp2
    go_ret
    exact ⟨rfl, h, Only.refl _ _⟩
  · rw [if_neg he]
    have he0 : err = 0 := by omega
    subst he0
    clear he
    by_cases hl : bs.length = 0
    · rw [if_pos hl]
      have hl' : (bs.length : Int) ≤ 0 := by omega
      clear hl
      go_enter Try.func31, Try.ntmps31
      go_wp2
      go_ret
      exact ⟨rfl, h, Only.refl _ _⟩
    · rw [if_neg hl]
      have hl' : (0 : Int) < (bs.length : Int) := by omega
      clear hl
      go_enter Try.func31, Try.ntmps31
      go_wp2
      go_ret
      exact ⟨rfl, h.set1 4 4 rfl, only_set _ _ _ _⟩

end Go.Proofs.Ytjnbajpckohnnaa
