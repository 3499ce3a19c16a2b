/- The walks of the document's reader, more: texts and lists. -/
import Derived.Test.YtjnbajpckohnnaaFr
namespace Go.Proofs.Ytjnbajpckohnnaa
open Go.RowKit

theorem pad_test (n k : Nat) (hk : k ≤ padN n) : (n + k) % 4 = 0 ↔ k = padN n := by
  unfold padN at *
  omega

theorem gtext_fail (w : World) (q : Nat) (bs : List UInt8) (err : Nat) (most : Int) (h : Rf w q bs err) (hf : err ≠ 0 ∨ bs.length < 4) :
    Calls Try.prog 30 #[.pointer (some ⟨q, 0, none⟩), .int .i64 most] w (FTook w q (.string ⟨#[]⟩) bs (lackE err)) := by
  have h1 := h.c1
  have f1 := Blk.free h 1
  unfold lackE
  by_cases he : err = 0
  · subst he
    have hl : bs.length < 4 := hf.resolve_left (by simp)
    rw [if_pos rfl]
    go_enter Try.func30, Try.ntmps30
    go_wp2_with fail
    refine (fat_short _ q bs 0 h hl).mono ?_
    rintro e w1 ⟨rfl, rfl⟩
    go_wp2
    go_ret
    exact ⟨rfl, h.set1 2 2 rfl, only_set _ _ _ _⟩
  · rw [if_neg he]
    have he' : ((err : Int) != 0) = true := by simp; omega
    go_enter Try.func30, Try.ntmps30
    go_wp2
    go_ret
    exact ⟨rfl, h, Only.refl _ _⟩

theorem gtext_more (w : World) (q : Nat) (bs : List UInt8) (most : Int) (h : Rf w q bs 0) (hl : 4 ≤ bs.length) (hm : most < (hd4 bs : Int)) :
    Calls Try.prog 30 #[.pointer (some ⟨q, 0, none⟩), .int .i64 most] w (FTook w q (.string ⟨#[]⟩) bs 4) := by
  have h1 := h.c1
  have f1 := Blk.free h 1
  obtain ⟨x, hx⟩ : ∃ x : Int, (hd4 bs : Int) = x := ⟨_, rfl⟩
  have hx0 : 0 ≤ x := by omega
  rw [hx] at hm
  have HX := Lib.hid hx
  have HL := Lib.hid hl
  clear hx hl
  go_enter Try.func30, Try.ntmps30
  go_wp2_with fail
  refine (fat_int _ q bs 0 x HX.out h HL.out).mono ?_
  rintro e w1 ⟨rfl, m, rfl⟩
  go_wp2
  go_ret
  exact ⟨rfl, (h.drewN m).set1 4 4 rfl, ((Only.refl [q] w).drewN m).trans (only_set _ _ _ _)⟩

/-- The padding's bytes, up to the j-th, are zero. -/
def ZeroTo (bs : List UInt8) (n j : Nat) : Prop := ((bs.drop (4 + n)).take j).any (· != 0) = false

set_option maxHeartbeats 1000000 in
theorem gtext_rest (w : World) (q : Nat) (bs : List UInt8) (most : Int) (h : Rf w q bs 0) (hl : 4 ≤ bs.length) (hm : (hd4 bs : Int) ≤ most) (hbig : bs.length ≤ 1048576) :
    Calls Try.prog 30 #[.pointer (some ⟨q, 0, none⟩), .int .i64 most] w (FTook w q (.string (strOf (rText most bs 0).1)) (rText most bs 0).2.1 (rText most bs 0).2.2) := by
  have h0 := h.c0
  have h1 := h.c1
  have f0 := Blk.free h 0
  have f1 := Blk.free h 1
  have hs := strOf_size bs
  have hlt := hd4_lt bs
  have hp := padN_lt (hd4 bs)
  unfold rText
  rw [if_neg (by simp), if_neg (by omega), if_neg (by omega)]
  obtain ⟨x, hx⟩ : ∃ x : Int, (hd4 bs : Int) = x := ⟨_, rfl⟩
  obtain ⟨P, hP⟩ : ∃ P, padN (hd4 bs) = P := ⟨_, rfl⟩
  have hx0 : 0 ≤ x := by omega
  have hx1 : x < 4294967296 := by omega
  have hxm : x ≤ most := by omega
  rw [hP] at hp ⊢
  have HX := Lib.hid hx
  have HP := Lib.hid hP
  have HL := Lib.hid hl
  have hpt : Hid (∀ k, k ≤ P → ((hd4 bs + k) % 4 = 0 ↔ k = P)) := by rw [← hP]; exact fun k hk => pad_test _ k hk
  by_cases hsh : bs.length < 4 + hd4 bs + P
  · rw [if_pos hsh]
    have hshI : (bs.length : Int) - 4 < x + (P : Int) := by omega
    clear hx hl hlt hP hm hsh
    go_enter Try.func30, Try.ntmps30
    go_wp2_with fail
    refine (fat_int _ q bs 0 x HX.out h HL.out).mono ?_
    rintro e w1 ⟨rfl, m, rfl⟩
    go_wp2_with fail
    go_loop [6] (fun t => ∃ k : Nat, k ≤ P ∧ t = .int .i64 (x + (k : Int))) (fun t => P - (intOf t - x).toNat)
    case atStart => exact ⟨0, Nat.zero_le _, by simp⟩
    case round =>
      obtain ⟨k, hk, rfl⟩ := hrel
      by_cases he : k = P
      · have ht : ((x + (k : Int)) % 4 != 0) = false := by
          have h1 := (hpt.out k hk).2 he
          have h2 := HX.out
          rw [bne_eq_false_iff_eq]
          omega
        have HE := Lib.hid he
        subst he
        go_wp2
        go_ret
        exact ⟨rfl, (h.drewN m).set1 2 2 rfl, ((Only.refl [q] w).drewN m).trans (only_set _ _ _ _)⟩
      · have ht : ((x + (k : Int)) % 4 != 0) = true := by
          have h1 := mt (hpt.out k hk).1 he
          have h2 := HX.out
          rw [bne_iff_ne]
          omega
        have hkl : k < P := by omega
        clear he
        go_wp2
        go_round
        case rel => exact ⟨k + 1, by omega, by simp; omega⟩
        case measure => simp [intOf]; omega
  · rw [if_neg hsh]
    have hshI : x + (P : Int) ≤ (bs.length : Int) - 4 := by omega
    have hxs : x ≤ 1048576 := by omega
    have hlen4 : (4 : Int) ≤ (bs.length : Int) := by omega
    have H4 : Hid (4 + hd4 bs + P ≤ bs.length) := by show 4 + hd4 bs + P ≤ bs.length; omega
    obtain ⟨R, hR⟩ : ∃ R, (if ((bs.drop (4 + hd4 bs)).take P).any (· != 0) = true then (([], bs, 3) : List UInt8 × List UInt8 × Nat) else ((bs.drop 4).take (hd4 bs), bs.drop (4 + hd4 bs + P), 0)) = R := ⟨_, rfl⟩
    rw [hR]
    have HR := Lib.hid hR
    have hsl := part_strOf (P := Try.prog) 9 Try.underlying9 bs 4 (4 + hd4 bs) 4 (4 + x) .i64 .i64 rfl (by omega) (by omega) (by omega)
    have hsl2 := from_strOf (P := Try.prog) 9 Try.underlying9 bs (4 + hd4 bs + P) (4 + (x + (P : Int))) .i64 (by omega) (by omega)
    have HS1 := Lib.hid hsl
    have HS2 := Lib.hid hsl2
    clear hx hl hlt hP hm hsh hR hsl hsl2 hx1
    go_enter Try.func30, Try.ntmps30
    go_wp2_with fail
    refine (fat_int _ q bs 0 x HX.out h HL.out).mono ?_
    rintro e w1 ⟨rfl, m, rfl⟩
    go_wp2_with fail
    go_loop [6] (fun t => ∃ k : Nat, k ≤ P ∧ t = .int .i64 (x + (k : Int))) (fun t => P - (intOf t - x).toNat)
    case atStart => exact ⟨0, Nat.zero_le _, by simp⟩
    case round =>
      obtain ⟨k, hk, rfl⟩ := hrel
      by_cases he : k = P
      · have ht : ((x + (k : Int)) % 4 != 0) = false := by
          have h1 := (hpt.out k hk).2 he
          have h2 := HX.out
          rw [bne_eq_false_iff_eq]
          omega
        subst he
        go_wp2
        clear ht
        go_loop [7] (fun t => ∃ j : Nat, j ≤ k ∧ t = .int .i64 (x + (j : Int)) ∧ ZeroTo bs (hd4 bs) j) (fun t => k - (intOf t - x).toNat)
        case atStart => exact ⟨0, Nat.zero_le _, by simp, by simp [ZeroTo]⟩
        case round =>
          obtain ⟨j, hj, rfl, hz⟩ := hrel
          have HZ := Lib.hid hz
          clear hz
          by_cases hlt : j < k
          · have hi := index_strOf (P := Try.prog) 9 Try.underlying9 bs (4 + hd4 bs + j) (4 + (x + (j : Int))) .i64 (by have := HX.out; omega) (by have := H4.out; omega)
            have hin : 4 + hd4 bs + j < bs.length := by have := H4.out; omega
            obtain ⟨b, hb⟩ : ∃ b, bs[4 + hd4 bs + j] = b := ⟨_, rfl⟩
            rw [hb] at hi
            have HB := Lib.hid hb
            have HIN := Lib.hid hin
            clear hb
            by_cases h0b : b = 0
            · have ht : ((b.toNat : Int) != 0) = false := by rw [h0b]; rfl
              have HB0 := Lib.hid h0b
              clear h0b
              go_wp2
              go_round
              case rel =>
                refine ⟨j + 1, by omega, by simp; omega, ?_⟩
                have hl2 : j < (bs.drop (4 + hd4 bs)).length := by have := HIN.out; simp; omega
                unfold ZeroTo
                rw [any_take _ j hl2, HZ.out, List.getElem_drop]
                have e1 := HB.out
                rw [e1, HB0.out]
                rfl
              case measure => simp [intOf]; omega
            · have h1b : (b != 0) = true := by simpa using h0b
              have ht : ((b.toNat : Int) != 0) = true := by
                rw [bne_iff_ne]
                intro e
                apply h0b
                apply UInt8.toNat_inj.1
                have : b.toNat = 0 := by omega
                simpa using this
              have H1B := Lib.hid h1b
              clear h0b h1b
              go_wp2
              go_ret
              have hany : ((bs.drop (4 + hd4 bs)).take k).any (· != 0) = true := by
                have hl2 : j < ((bs.drop (4 + hd4 bs)).take k).length := by have := H4.out; simp; omega
                refine any_at _ j hl2 ?_
                rw [List.getElem_take, List.getElem_drop]
                have e1 := HB.out
                rw [e1]
                exact H1B.out
              have hR2 := HR.out
              rw [if_pos hany] at hR2
              rw [← hR2]
              exact ⟨rfl, (h.drewN m).set1 3 3 rfl, ((Only.refl [q] w).drewN m).trans (only_set _ _ _ _)⟩
          · obtain rfl : j = k := by omega
            have hsl := HS1.out
            have hsl2 := HS2.out
            go_wp2
            go_ret
            have hR2 := HR.out
            rw [if_neg (by rw [show ((bs.drop (4 + hd4 bs)).take j).any (· != 0) = false from HZ.out]; simp)] at hR2
            rw [← hR2]
            refine ⟨?_, (h.drewN m).set0 _, ((Only.refl [q] w).drewN m).trans (only_set _ _ _ _)⟩
            rfl
      · have ht : ((x + (k : Int)) % 4 != 0) = true := by
          have h1 := mt (hpt.out k hk).1 he
          have h2 := HX.out
          rw [bne_iff_ne]
          omega
        have hkl : k < P := by omega
        clear he
        go_wp2
        go_round
        case rel => exact ⟨k + 1, by omega, by simp; omega⟩
        case measure => simp [intOf]; omega

theorem lackE_zero : lackE 0 = 2 := rfl
theorem lackE_of {err : Nat} (h : err ≠ 0) : lackE err = err := by unfold lackE; rw [if_neg h]

theorem gtext_any (w : World) (q : Nat) (bs : List UInt8) (err : Nat) (most : Int) (hbig : bs.length ≤ 1048576) (h : Rf w q bs err) :
    Calls Try.prog 30 #[.pointer (some ⟨q, 0, none⟩), .int .i64 most] w (FTook w q (.string (strOf (rText most bs err).1)) (rText most bs err).2.1 (rText most bs err).2.2) := by
  by_cases he : err ≠ 0
  · rw [rText_err _ _ _ he]
    have := gtext_fail w q bs err most h (.inl he)
    rwa [lackE_of he] at this
  · have he0 : err = 0 := by omega
    subst he0
    by_cases hl : bs.length < 4
    · have e : rText most bs 0 = ([], bs, 2) := by unfold rText; rw [if_neg (by simp), if_pos hl]
      rw [e]
      exact gtext_fail w q bs 0 most h (.inr hl)
    · by_cases hm : most < (hd4 bs : Int)
      · have e : rText most bs 0 = ([], bs, 4) := by unfold rText; rw [if_neg (by simp), if_neg hl, if_pos hm]
        rw [e]
        exact gtext_more w q bs most h (by omega) hm
      · exact gtext_rest w q bs most h (by omega) (by omega) hbig

/-- What a read of a list leaves, behind a name. -/
def FTookL (w : World) (q : Nat) (l : List Nat) (bs : List UInt8) (err : Nat) (e : Ending) (w' : World) : Prop :=
  ∃ A c, e = .returned (.slice A l.length c) ∧ (l = [] ∨ ∃ h, A = some ⟨h, 0, none⟩ ∧ w.heap.size ≤ h ∧ NumsAt w' h 0 l) ∧ Rf w' q bs err ∧ Only [q] w w'
theorem FTookL.of_took {w : World} {q : Nat} {bs : List UInt8} {err : Nat} {e : Ending} {w' : World} (h : FTook w q (.slice none 0 0) bs err e w') : FTookL w q [] bs err e w' :=
  ⟨none, 0, h.1, .inl rfl, h.2⟩

/-- The cells of numbers, as a list. -/
def numL (l : List Nat) : List Value := l.map fun n : Nat => Value.int .u32 (n : Int)
theorem numL_one (l : List Nat) : ∀ u ∈ numL l, u.oneCell' = true := by
  intro u hu
  simp only [numL, List.mem_map] at hu
  obtain ⟨b, _, rfl⟩ := hu
  rfl

/-- The list on its way: j numbers are appended. -/
def ListTo (w : World) (q : Nat) (bs : List UInt8) (j : Nat) (V : Value) (wr : World) : Prop :=
  wr.ownsRow 0 22 1 V j (numL (decNs j (bs.drop 4))) ∧ (∀ g, V.ownBlock = some g → w.heap.size ≤ g) ∧ Rf wr q (bs.drop (4 + 4 * j)) 0 ∧ Only [q] w wr

theorem decNs_snoc (n : Nat) (l : List UInt8) : decNs (n + 1) l = decNs n l ++ [hd4 (l.drop (4 * n))] := by
  induction n generalizing l with
  | zero => simp [decNs]
  | succ n ih =>
    rw [decNs, ih]
    simp only [decNs, List.cons_append, List.drop_drop]
    rw [show 4 + 4 * n = 4 * (n + 1) by omega]

end Go.Proofs.Ytjnbajpckohnnaa
