/- The document's reader and writer of texts. (Out of stage 2's texts.) -/
import Derived.Test.YthpjkhmkjhgbkaaGreatDoorGb
import Derived.IntWalk
namespace Go.Proofs.YthpjkhmkjhgbkaaGreatDoor
open Go.RowKit

theorem index_strOf5 {P : Program} (t : TypeId) (ht : P.underlying t = some .string) (bs : List UInt8) (i : Nat) (x : Int) (k : IntKind) (hx : x = i) (h : i < bs.length) :
    ∀ W : World, (Instr.index t (.string (strOf bs)) (.int k x)).run P W = .ok (.int .u8 ((bs[i].toNat : Nat) : Int)) W := by
  intro W
  subst hx
  have hs := strOf_size bs
  rw [run_index_string W t _ k _ ht, dif_pos ⟨by omega, by omega⟩]
  rfl

theorem part_strOf {P : Program} (t : TypeId) (ht : P.underlying t = some .string) (bs : List UInt8) (i j : Nat) (x y : Int) (k k' : IntKind) (hx : x = i) (hy : y = j) (hij : i ≤ j) (h : j ≤ bs.length) :
    ∀ W : World, (Instr.slice t (.string (strOf bs)) (some (.int k x)) (some (.int k' y)) none).run P W = .ok (.string (strOf ((bs.drop i).take (j - i)))) W := by
  intro W
  subst hx
  subst hy
  have hs := strOf_size bs
  rw [run_slice_string W t _ k k' _ _ ht (by omega) (by omega) (by omega)]
  congr 2
  show (ByteArray.mk bs.toArray).extract _ _ = _
  rw [ByteArray.extract_mk, Int.toNat_natCast, Int.toNat_natCast]
  rfl

/-- The document's reader behind the pointer to block q has bs left, and the error err. -/
def Rf (w : World) (q : Nat) (bs : List UInt8) (err : Nat) : Prop := Blk w q 164 #[.string (strOf bs), .int .i64 (err : Int)]

theorem Rf.kept {S : List Nat} {w w' : World} {q : Nat} {bs : List UInt8} {err : Nat} (h : Rf w q bs err) (k : Only S w w') (hq : q ∉ S) : Rf w' q bs err := Blk.kept h k hq
theorem Rf.drew {w : World} {q : Nat} {bs : List UInt8} {err : Nat} (h : Rf w q bs err) : Rf w.drew q bs err := h
theorem Rf.drewN {w : World} {q : Nat} {bs : List UInt8} {err : Nat} (h : Rf w q bs err) (n : Nat) : Rf (w.drewN n) q bs err := h
theorem Rf.c0 {w : World} {q : Nat} {bs : List UInt8} {err : Nat} (h : Rf w q bs err) : w.cell? ⟨q, 0, none⟩ = some (.string (strOf bs)) := by simpa using Blk.cell h 0
theorem Rf.c1 {w : World} {q : Nat} {bs : List UInt8} {err : Nat} (h : Rf w q bs err) : w.cell? ⟨q, 1, none⟩ = some (.int .i64 (err : Int)) := by simpa using Blk.cell h 1
theorem Rf.set0 {w : World} {q : Nat} {bs : List UInt8} {err : Nat} (h : Rf w q bs err) (cs : List UInt8) : Rf (w.setCell ⟨q, 0, none⟩ (.string (strOf cs))) q cs err := by
  unfold Rf; simpa using Blk.set h 0 (.string (strOf cs))
theorem Rf.set1 {w : World} {q : Nat} {bs : List UInt8} {err : Nat} (h : Rf w q bs err) (e' : Nat) (x : Int) (hx : x = e') : Rf (w.setCell ⟨q, 1, none⟩ (.int .i64 x)) q bs e' := by
  subst hx
  unfold Rf; simpa using Blk.set h 1 (.int .i64 (e' : Int))
theorem only_set (w : World) (q i : Nat) (v : Value) : Only [q] w (w.setCell ⟨q, i, none⟩ v) := (Only.refl [q] w).setCell (.inl (by simp)) v

/-- What a read leaves, behind a name. -/
def FTook (w : World) (q : Nat) (v : Value) (bs : List UInt8) (err : Nat) (e : Ending) (w' : World) : Prop := e = .returned v ∧ Rf w' q bs err ∧ Only [q] w w'

theorem fat_short (w : World) (q : Nat) (bs : List UInt8) (err : Nat) (h : Rf w q bs err) (hl : bs.length < 4) :
    Calls Tryz.prog 124 #[.pointer (some ⟨q, 0, none⟩)] w fun e w' => e = .returned (.int .i64 (-1)) ∧ w = w' := by
  have h0 := h.c0
  have hs := strOf_size bs
  have hl' : (bs.length : Int) < 4 := by omega
  go_enter Tryz.func124, Tryz.ntmps124
  go_wp2
  go_ret
  exact ⟨rfl, rfl⟩

set_option maxRecDepth 100000 in
theorem fat_ok (w : World) (q : Nat) (bs : List UInt8) (err : Nat) (h : Rf w q bs err) (hl : 4 ≤ bs.length) :
    Calls Tryz.prog 124 #[.pointer (some ⟨q, 0, none⟩)] w fun e w' => e = .returned (.int .i64 (hd4 bs : Nat)) ∧ ∃ m, w' = w.drewN m := by
  have h0 := h.c0
  have hs := strOf_size bs
  have hl' : (4 : Int) ≤ bs.length := by omega
  obtain ⟨a0, a1, a2, a3, r, hb⟩ := four bs hl
  have i0 := index_strOf5 (P := Tryz.prog) 9 Tryz.underlying9 bs 0 0 .i64 rfl (by omega)
  have i1 := index_strOf5 (P := Tryz.prog) 9 Tryz.underlying9 bs 1 1 .i64 rfl (by omega)
  have i2 := index_strOf5 (P := Tryz.prog) 9 Tryz.underlying9 bs 2 2 .i64 rfl (by omega)
  have i3 := index_strOf5 (P := Tryz.prog) 9 Tryz.underlying9 bs 3 3 .i64 rfl (by omega)
  have e0 : bs[0].toNat = a0.toNat := by subst hb; rfl
  have e1 : bs[1].toNat = a1.toNat := by subst hb; rfl
  have e2 : bs[2].toNat = a2.toNat := by subst hb; rfl
  have e3 : bs[3].toNat = a3.toNat := by subst hb; rfl
  rw [e0] at i0; rw [e1] at i1; rw [e2] at i2; rw [e3] at i3
  have hd : ((hd4 bs : Nat) : Int) = (((a0.toNat : Int) * 256 + a1.toNat) * 256 + a2.toNat) * 256 + a3.toNat := by subst hb; show ((decB a0 a1 a2 a3 : Nat) : Int) = _; unfold decB; omega
  obtain ⟨v, hv⟩ : ∃ v : Int, ((hd4 bs : Nat) : Int) = v := ⟨_, rfl⟩
  rw [hv] at hd ⊢
  have HV := Lib.hid hd
  clear hv
  have b0 : (a0.toNat : Int) < 256 := by have := a0.toNat_lt; omega
  have b1 : (a1.toNat : Int) < 256 := by have := a1.toNat_lt; omega
  have b2 : (a2.toNat : Int) < 256 := by have := a2.toNat_lt; omega
  have b3 : (a3.toNat : Int) < 256 := by have := a3.toNat_lt; omega
  clear hd e0 e1 e2 e3 hb hl
  go_enter Tryz.func124, Tryz.ntmps124
  go_wp2
  go_quiet (fail)
  go_wp2
  go_ret
  exact ⟨by rw [HV.out]; rfl, _, rfl⟩

theorem fat_is (w : World) (q : Nat) (bs : List UInt8) (err v : Nat) (hv : hd4 bs = v) (h : Rf w q bs err) (hl : 4 ≤ bs.length) :
    Calls Tryz.prog 124 #[.pointer (some ⟨q, 0, none⟩)] w fun e w' => e = .returned (.int .i64 (v : Int)) ∧ ∃ m, w' = w.drewN m := by
  subst hv
  exact fat_ok w q bs err h hl

theorem fat_int (w : World) (q : Nat) (bs : List UInt8) (err : Nat) (x : Int) (hx : (hd4 bs : Int) = x) (h : Rf w q bs err) (hl : 4 ≤ bs.length) :
    Calls Tryz.prog 124 #[.pointer (some ⟨q, 0, none⟩)] w fun e w' => e = .returned (.int .i64 x) ∧ ∃ m, w' = w.drewN m := by
  subst hx
  exact fat_ok w q bs err h hl

theorem gnum_any (w : World) (q : Nat) (bs : List UInt8) (err : Nat) (h : Rf w q bs err) :
    Calls Tryz.prog 91 #[.pointer (some ⟨q, 0, none⟩)] w (FTook w q (.int .u32 ((rNumber bs err).1 : Int)) (rNumber bs err).2.1 (rNumber bs err).2.2) := by
  have h0 := h.c0
  have h1 := h.c1
  have f0 := Blk.free h 0
  have f1 := Blk.free h 1
  unfold rNumber
  by_cases he : err ≠ 0
  · rw [if_pos he]
    have he' : ((err : Int) != 0) = true := by simp; omega
    go_enter Tryz.func91, Tryz.ntmps91
    go_wp2
    go_ret
    exact ⟨rfl, h, Only.refl _ _⟩
  · rw [if_neg he]
    have he0 : err = 0 := by omega
    subst he0
    clear he
    by_cases hl : bs.length < 4
    · rw [if_pos hl]
      go_enter Tryz.func91, Tryz.ntmps91
      go_wp2_with fail
      refine (fat_short _ q bs 0 h hl).mono ?_
      rintro e w1 ⟨rfl, rfl⟩
      go_wp2
      go_ret
      exact ⟨rfl, h.set1 2 2 rfl, only_set _ _ _ _⟩
    · rw [if_neg hl]
      have hlt := hd4_lt bs
      obtain ⟨v, hv⟩ : ∃ v : Int, (hd4 bs : Int) = v := ⟨_, rfl⟩
      have hlt' : v < 4294967296 := by omega
      have hlt0 : 0 ≤ v := by omega
      simp only
      rw [hv]
      have HV := Lib.hid hv
      have HL := Lib.hid hl
      have hsl := from_strOf (P := Tryz.prog) 9 Tryz.underlying9 bs 4 4 .i64 rfl (by omega)
      clear hv hl hlt
      go_enter Tryz.func91, Tryz.ntmps91
      go_wp2_with fail
      refine (fat_int _ q bs 0 v HV.out h (by have := HL.out; omega)).mono ?_
      rintro e w1 ⟨rfl, m, rfl⟩
      go_wp2
      go_ret
      exact ⟨rfl, (h.drewN m).set0 _, ((Only.refl [q] w).drewN m).trans (only_set _ _ _ _)⟩

theorem pad_test (n k : Nat) (hk : k ≤ padN n) : (n + k) % 4 = 0 ↔ k = padN n := by
  unfold padN at *
  omega

theorem gtext_fail (w : World) (q : Nat) (bs : List UInt8) (err : Nat) (most : Int) (h : Rf w q bs err) (hf : err ≠ 0 ∨ bs.length < 4) :
    Calls Tryz.prog 92 #[.pointer (some ⟨q, 0, none⟩), .int .i64 most] w (FTook w q (.string ⟨#[]⟩) bs (lackE err)) := by
  have h1 := h.c1
  have f1 := Blk.free h 1
  unfold lackE
  by_cases he : err = 0
  · subst he
    have hl : bs.length < 4 := hf.resolve_left (by simp)
    rw [if_pos rfl]
    go_enter Tryz.func92, Tryz.ntmps92
    go_wp2_with fail
    refine (fat_short _ q bs 0 h hl).mono ?_
    rintro e w1 ⟨rfl, rfl⟩
    go_wp2
    go_ret
    exact ⟨rfl, h.set1 2 2 rfl, only_set _ _ _ _⟩
  · rw [if_neg he]
    have he' : ((err : Int) != 0) = true := by simp; omega
    go_enter Tryz.func92, Tryz.ntmps92
    go_wp2
    go_ret
    exact ⟨rfl, h, Only.refl _ _⟩

theorem gtext_more (w : World) (q : Nat) (bs : List UInt8) (most : Int) (h : Rf w q bs 0) (hl : 4 ≤ bs.length) (hm : most < (hd4 bs : Int)) :
    Calls Tryz.prog 92 #[.pointer (some ⟨q, 0, none⟩), .int .i64 most] w (FTook w q (.string ⟨#[]⟩) bs 4) := by
  have h1 := h.c1
  have f1 := Blk.free h 1
  obtain ⟨x, hx⟩ : ∃ x : Int, (hd4 bs : Int) = x := ⟨_, rfl⟩
  have hx0 : 0 ≤ x := by omega
  rw [hx] at hm
  have HX := Lib.hid hx
  have HL := Lib.hid hl
  clear hx hl
  go_enter Tryz.func92, Tryz.ntmps92
  go_wp2_with fail
  refine (fat_int _ q bs 0 x HX.out h HL.out).mono ?_
  rintro e w1 ⟨rfl, m, rfl⟩
  go_wp2
  go_ret
  exact ⟨rfl, (h.drewN m).set1 4 4 rfl, ((Only.refl [q] w).drewN m).trans (only_set _ _ _ _)⟩

/-- The padding's bytes, up to the j-th, are zero. -/
def ZeroTo (bs : List UInt8) (n j : Nat) : Prop := ((bs.drop (4 + n)).take j).any (· != 0) = false

set_option maxHeartbeats 1000000 in
theorem gtext_rest (w : World) (q : Nat) (bs : List UInt8) (most : Int) (h : Rf w q bs 0) (hl : 4 ≤ bs.length) (hm : (hd4 bs : Int) ≤ most) (hbig : bs.length ≤ 1048576) :
    Calls Tryz.prog 92 #[.pointer (some ⟨q, 0, none⟩), .int .i64 most] w (FTook w q (.string (strOf (rText most bs 0).1)) (rText most bs 0).2.1 (rText most bs 0).2.2) := by
  have h0 := h.c0
  have h1 := h.c1
  have f0 := Blk.free h 0
  have f1 := Blk.free h 1
  have hs := strOf_size bs
  have hlt := hd4_lt bs
  have hp := padN_lt (hd4 bs)
  unfold rText
  rw [if_neg (by simp), if_neg (by omega), if_neg (by omega)]
  obtain ⟨x, hx⟩ : ∃ x : Int, (hd4 bs : Int) = x := ⟨_, rfl⟩
  obtain ⟨P, hP⟩ : ∃ P, padN (hd4 bs) = P := ⟨_, rfl⟩
  have hx0 : 0 ≤ x := by omega
  have hx1 : x < 4294967296 := by omega
  have hxm : x ≤ most := by omega
  rw [hP] at hp ⊢
  have HX := Lib.hid hx
  have HP := Lib.hid hP
  have HL := Lib.hid hl
  have hpt : Hid (∀ k, k ≤ P → ((hd4 bs + k) % 4 = 0 ↔ k = P)) := by rw [← hP]; exact fun k hk => pad_test _ k hk
  by_cases hsh : bs.length < 4 + hd4 bs + P
  · rw [if_pos hsh]
    have hshI : (bs.length : Int) - 4 < x + (P : Int) := by omega
    clear hx hl hlt hP hm hsh
    go_enter Tryz.func92, Tryz.ntmps92
    go_wp2_with fail
    refine (fat_int _ q bs 0 x HX.out h HL.out).mono ?_
    rintro e w1 ⟨rfl, m, rfl⟩
    go_wp2_with fail
    go_loop [6] (fun t => ∃ k : Nat, k ≤ P ∧ t = .int .i64 (x + (k : Int))) (fun t => P - (intOf t - x).toNat)
    case atStart => exact ⟨0, Nat.zero_le _, by simp⟩
    case round =>
      obtain ⟨k, hk, rfl⟩ := hrel
      by_cases he : k = P
      · have ht : ((x + (k : Int)) % 4 != 0) = false := by
          have h1 := (hpt.out k hk).2 he
          have h2 := HX.out
          rw [bne_eq_false_iff_eq]
          omega
        have HE := Lib.hid he
        subst he
        go_wp2
        go_ret
        exact ⟨rfl, (h.drewN m).set1 2 2 rfl, ((Only.refl [q] w).drewN m).trans (only_set _ _ _ _)⟩
      · have ht : ((x + (k : Int)) % 4 != 0) = true := by
          have h1 := mt (hpt.out k hk).1 he
          have h2 := HX.out
          rw [bne_iff_ne]
          omega
        have hkl : k < P := by omega
        clear he
        go_wp2
        go_round
        case rel => exact ⟨k + 1, by omega, by simp; omega⟩
        case measure => simp [intOf]; omega
  · rw [if_neg hsh]
    have hshI : x + (P : Int) ≤ (bs.length : Int) - 4 := by omega
    have hxs : x ≤ 1048576 := by omega
    have hlen4 : (4 : Int) ≤ (bs.length : Int) := by omega
    have H4 : Hid (4 + hd4 bs + P ≤ bs.length) := by show 4 + hd4 bs + P ≤ bs.length; omega
    obtain ⟨R, hR⟩ : ∃ R, (if ((bs.drop (4 + hd4 bs)).take P).any (· != 0) = true then (([], bs, 3) : List UInt8 × List UInt8 × Nat) else ((bs.drop 4).take (hd4 bs), bs.drop (4 + hd4 bs + P), 0)) = R := ⟨_, rfl⟩
    rw [hR]
    have HR := Lib.hid hR
    have hsl := part_strOf (P := Tryz.prog) 9 Tryz.underlying9 bs 4 (4 + hd4 bs) 4 (4 + x) .i64 .i64 rfl (by omega) (by omega) (by omega)
    have hsl2 := from_strOf (P := Tryz.prog) 9 Tryz.underlying9 bs (4 + hd4 bs + P) (4 + (x + (P : Int))) .i64 (by omega) (by omega)
    have HS1 := Lib.hid hsl
    have HS2 := Lib.hid hsl2
    clear hx hl hlt hP hm hsh hR hsl hsl2 hx1
    go_enter Tryz.func92, Tryz.ntmps92
    go_wp2_with fail
    refine (fat_int _ q bs 0 x HX.out h HL.out).mono ?_
    rintro e w1 ⟨rfl, m, rfl⟩
    go_wp2_with fail
    go_loop [6] (fun t => ∃ k : Nat, k ≤ P ∧ t = .int .i64 (x + (k : Int))) (fun t => P - (intOf t - x).toNat)
    case atStart => exact ⟨0, Nat.zero_le _, by simp⟩
    case round =>
      obtain ⟨k, hk, rfl⟩ := hrel
      by_cases he : k = P
      · have ht : ((x + (k : Int)) % 4 != 0) = false := by
          have h1 := (hpt.out k hk).2 he
          have h2 := HX.out
          rw [bne_eq_false_iff_eq]
          omega
        subst he
        go_wp2
        clear ht
        go_loop [7] (fun t => ∃ j : Nat, j ≤ k ∧ t = .int .i64 (x + (j : Int)) ∧ ZeroTo bs (hd4 bs) j) (fun t => k - (intOf t - x).toNat)
        case atStart => exact ⟨0, Nat.zero_le _, by simp, by simp [ZeroTo]⟩
        case round =>
          obtain ⟨j, hj, rfl, hz⟩ := hrel
          have HZ := Lib.hid hz
          clear hz
          by_cases hlt : j < k
          · have hi := index_strOf5 (P := Tryz.prog) 9 Tryz.underlying9 bs (4 + hd4 bs + j) (4 + (x + (j : Int))) .i64 (by have := HX.out; omega) (by have := H4.out; omega)
            have hin : 4 + hd4 bs + j < bs.length := by have := H4.out; omega
            obtain ⟨b, hb⟩ : ∃ b, bs[4 + hd4 bs + j] = b := ⟨_, rfl⟩
            rw [hb] at hi
            have HB := Lib.hid hb
            have HIN := Lib.hid hin
            clear hb
            by_cases h0b : b = 0
            · have ht : ((b.toNat : Int) != 0) = false := by rw [h0b]; rfl
              have HB0 := Lib.hid h0b
              clear h0b
              go_wp2
              go_round
              case rel =>
                refine ⟨j + 1, by omega, by simp; omega, ?_⟩
                have hl2 : j < (bs.drop (4 + hd4 bs)).length := by have := HIN.out; simp; omega
                unfold ZeroTo
                rw [any_take _ j hl2, HZ.out, List.getElem_drop]
                have e1 := HB.out
                rw [e1, HB0.out]
                rfl
              case measure => simp [intOf]; omega
            · have h1b : (b != 0) = true := by simpa using h0b
              have ht : ((b.toNat : Int) != 0) = true := by
                rw [bne_iff_ne]
                intro e
                apply h0b
                apply UInt8.toNat_inj.1
                have : b.toNat = 0 := by omega
                simpa using this
              have H1B := Lib.hid h1b
              clear h0b h1b
              go_wp2
              go_ret
              have hany : ((bs.drop (4 + hd4 bs)).take k).any (· != 0) = true := by
                have hl2 : j < ((bs.drop (4 + hd4 bs)).take k).length := by have := H4.out; simp; omega
                refine any_at _ j hl2 ?_
                rw [List.getElem_take, List.getElem_drop]
                have e1 := HB.out
                rw [e1]
                exact H1B.out
              have hR2 := HR.out
              rw [if_pos hany] at hR2
              rw [← hR2]
              exact ⟨rfl, (h.drewN m).set1 3 3 rfl, ((Only.refl [q] w).drewN m).trans (only_set _ _ _ _)⟩
          · obtain rfl : j = k := by omega
            have hsl := HS1.out
            have hsl2 := HS2.out
            go_wp2
            go_ret
            have hR2 := HR.out
            rw [if_neg (by rw [show ((bs.drop (4 + hd4 bs)).take j).any (· != 0) = false from HZ.out]; simp)] at hR2
            rw [← hR2]
            refine ⟨?_, (h.drewN m).set0 _, ((Only.refl [q] w).drewN m).trans (only_set _ _ _ _)⟩
            rfl
      · have ht : ((x + (k : Int)) % 4 != 0) = true := by
          have h1 := mt (hpt.out k hk).1 he
          have h2 := HX.out
          rw [bne_iff_ne]
          omega
        have hkl : k < P := by omega
        clear he
        go_wp2
        go_round
        case rel => exact ⟨k + 1, by omega, by simp; omega⟩
        case measure => simp [intOf]; omega

theorem lackE_zero : lackE 0 = 2 := rfl
theorem lackE_of {err : Nat} (h : err ≠ 0) : lackE err = err := by unfold lackE; rw [if_neg h]

theorem gtext_any (w : World) (q : Nat) (bs : List UInt8) (err : Nat) (most : Int) (hbig : bs.length ≤ 1048576) (h : Rf w q bs err) :
    Calls Tryz.prog 92 #[.pointer (some ⟨q, 0, none⟩), .int .i64 most] w (FTook w q (.string (strOf (rText most bs err).1)) (rText most bs err).2.1 (rText most bs err).2.2) := by
  by_cases he : err ≠ 0
  · rw [rText_err _ _ _ he]
    have := gtext_fail w q bs err most h (.inl he)
    rwa [lackE_of he] at this
  · have he0 : err = 0 := by omega
    subst he0
    by_cases hl : bs.length < 4
    · have e : rText most bs 0 = ([], bs, 2) := by unfold rText; rw [if_neg (by simp), if_pos hl]
      rw [e]
      exact gtext_fail w q bs 0 most h (.inr hl)
    · by_cases hm : most < (hd4 bs : Int)
      · have e : rText most bs 0 = ([], bs, 4) := by unfold rText; rw [if_neg (by simp), if_neg hl, if_pos hm]
        rw [e]
        exact gtext_more w q bs most h (by omega) hm
      · exact gtext_rest w q bs most h (by omega) (by omega) hbig

theorem padN_test (n k : Nat) (hk : k ≤ padN n) : (4 + n + k) % 4 = 0 ↔ k = padN n := by
  unfold padN at *
  omega
theorem zeros_snoc (k : Nat) : zeros k ++ [0] = zeros (k + 1) := by
  unfold zeros
  rw [List.replicate_succ']

/-- A text on its way: its length, its bytes, k zero bytes. -/
def textAt (l : List UInt8) (k : Nat) : List UInt8 := be4 l.length ++ l ++ zeros k
theorem textAt_length (l : List UInt8) (k : Nat) : (textAt l k).length = 4 + l.length + k := by simp [textAt, be4_length, zeros]; omega
theorem textAt_zero (l : List UInt8) : be4 l.length ++ l = textAt l 0 := by simp [textAt, zeros]
theorem textAt_snoc (l : List UInt8) (k : Nat) : textAt l k ++ [0] = textAt l (k + 1) := by unfold textAt; rw [List.append_assoc, zeros_snoc]
theorem textAt_end (l : List UInt8) : textAt l (padN l.length) = encT l := by simp [textAt, encT]

set_option maxHeartbeats 400000 in
theorem ftext_list (w : World) (l : List UInt8) (hs : l.length ≤ 1048576) :
    Calls Tryz.prog 126 #[.string (strOf l)] w fun e w' => e = .returned (.string (strOf (encT l))) ∧ Only [] w w' := by
  have hsize : (strOf l).size = l.length := strOf_size l
  have hpad := padN_lt l.length
  have h0 := textAt_zero l
  go_enter Tryz.func126, Tryz.ntmps126
  go_wp2_with fail
  refine (fnumber_any _ _ l.length (by omega) (by omega)).mono ?_
  rintro e w1 ⟨rfl, k1⟩
  go_wp2_with (refine wpList_concat _ rfl 9 9 (.tmp 7) (.tmp 8) rfl (be4 l.length) l rfl rfl (by simp [be4_length]; omega) ?_)
  clear h0 hsize
  go_loop [3] (fun t => ∃ k : Nat, k ≤ padN l.length ∧ t = .string (strOf (textAt l k))) (fun t => 4 + l.length + padN l.length - strLen t)
  case atStart => exact ⟨0, Nat.zero_le _, rfl⟩
  case round =>
    obtain ⟨k, hk, rfl⟩ := hrel
    have hsz : (strOf (textAt l k)).size = 4 + l.length + k := by rw [strOf_size, textAt_length]
    by_cases he : k = padN l.length
    · have ht : ((4 + (l.length : Int) + (k : Int)) % 4 != 0) = false := by
        have := (padN_test l.length k hk).2 he
        simp; omega
      have HE := Lib.hid he
      clear he
      go_wp2
      go_ret
      refine ⟨?_, k1⟩
      have := HE.out
      subst this
      rw [← textAt_end]
      rfl
    · have ht : ((4 + (l.length : Int) + (k : Int)) % 4 != 0) = true := by
        have := mt (padN_test l.length k hk).1 he
        simp; omega
      have hlt : k < padN l.length := by omega
      clear he
      have H1 := Lib.hid (textAt_snoc l k)
      have H2 := Lib.hid (textAt_length l k)
      go_wp2_with (refine wpList_concat _ rfl 9 9 (.tmp 14) _ rfl (textAt l k) [0] rfl rfl (by rw [H2.out]; simp; omega) ?_)
      rw [H1.out]
      go_wp2
      go_round
      case rel => exact ⟨k + 1, by omega, rfl⟩
      case measure => simp only [strLen, strOf_size, textAt_length]; omega

theorem ftext_any (w : World) (s : ByteArray) (hs : s.size ≤ 1048576) :
    Calls Tryz.prog 126 #[.string s] w fun e w' => e = .returned (.string (strOf (encT s.data.toList))) ∧ Only [] w w' := by
  have := ftext_list w s.data.toList (by simpa using hs)
  rwa [strOf_toList] at this


end Go.Proofs.YthpjkhmkjhgbkaaGreatDoor
