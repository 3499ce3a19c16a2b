/- The document's Of, Put, Cut, Length. -/
import Derived.Test.YtchlcmgdfbabdaaDoorRef7
import Derived.Laws.Concat
namespace Go.Proofs.YtchlcmgdfbabdaaDoor.Pgs
open Go.RowKit

set_option maxRecDepth 100000 in
set_option maxHeartbeats 1000000 in
theorem of_any (w : World) (b : List UInt8) (hb : b.length = 1024) :
    Calls Tryd.prog 35 #[.string (strOf b)] w fun e w' => ∃ v, e = .returned v ∧ Mine pgE 2 53 w w' v (pages b) := by
  have hpart := fun (k : Nat) (hk : k < 32) => part_strOf (P := Tryd.prog) 9 Tryd.underlying9 b (k * 32) (k * 32 + 32) (32 * (k : Int)) (32 * (k : Int) + 32) .i64 .i64 (by omega) (by omega) (by omega) (by omega)
  have hsz := strOf_size b
  rw [hb] at hsz
  generalize hs : strOf b = s at *
  replace hs := Lib.hid hs
  replace hpart := Lib.hid hpart
  have hcl := fun k hk => chunk_len hb (k := k) hk
  replace hcl := Lib.hid hcl
  clear hb
  go_enter Tryd.func35, Tryd.ntmps35
  go_wp2_with fail
  go_loopw [3, 4] (fun v i wr => ∃ k : Nat, k ≤ 32 ∧ i = .int .i64 k ∧ Mine pgE 2 53 w wr v (pagesF (chunk b) k)) (fun _ i _ => 32 - (intOf i).toNat)
  case atStart => exact ⟨0, by omega, rfl, Mine.start _ _ _ (Only.refl [] w)⟩
  case round =>
    obtain ⟨k, hk, rfl, hm⟩ := hrel
    by_cases hlt : k < 32
    · have hc := hcl.out k hlt
      have hyes := fun h => pagesF_yes (f := chunk b) (k := k) h
      have hno := fun h => pagesF_no (f := chunk b) (k := k) h
      have hpl := pagesF_len (chunk b) k
      have hp := hpart.out k hlt
      rw [show k * 32 + 32 - k * 32 = 32 by omega] at hp
      change ∀ W : World, (Instr.slice 9 (.string s) (some (.int .i64 (32 * (k : Int)))) (some (.int .i64 (32 * (k : Int) + 32))) none).run Tryd.prog W = .ok (.string (strOf (chunk b k))) W at hp
      have hcall := fun W => noughts_any W (chunk b k) (by omega)
      generalize chunk b k = c at *
      generalize hL : pagesF (chunk b) k = L at *
      have hw1 : IntKind.i64.wrap (32 * (k : Int)) = 32 * (k : Int) := by rw [IntKind.wrap_i64]; omega
      have hw2 : IntKind.i64.wrap (32 * (k : Int) + 32) = 32 * (k : Int) + 32 := by rw [IntKind.wrap_i64]; omega
      replace hL := Lib.hid hL
      replace hyes := Lib.hid hyes
      replace hno := Lib.hid hno
      replace hc := Lib.hid hc
      cases hz : allZ c with
      | true =>
        have hnext := Lib.hid (hyes.out hz)
        rw [hz] at hcall
        replace hz := Lib.hid hz
        rw [← hnext.out] at hm
        generalize strOf c = cs at *
        go_wp2_with fail
        refine (hcall _).mono ?_; rintro e w1 ⟨rfl, rfl⟩
        replace hm := Lib.hid hm
        go_wp2
        go_roundw
        case rel => exact ⟨k + 1, by omega, by go_num, hm.out⟩
        case measure => simp [intOf]; omega
      | false =>
        have hnext := Lib.hid (hno.out hz)
        rw [hz] at hcall
        replace hz := Lib.hid hz
        go_wp2_with fail
        refine (hcall _).mono ?_; rintro e w1 ⟨rfl, rfl⟩
        go_wp2_with (at_builtin; go_must (refine wpList_push rfl _ _ 22 rfl 53 _ 24 pgE_length (by decide) pgE_one Tryd.underlying22 info_pg rfl _ L.length L rfl (hm.keep ((Only.refl [] w1).alloc (.cells #[.int .i64 (k : Int), .string (strOf c)] 53))).own w1.heap.size ⟨k, c⟩ _ rfl (Blk.new w1 _ _) (by unfold maxLen; omega) (by omega) ?_); intro vv w6 h6 g6 a6)
        have hm6 := (hm.keep ((Only.refl [] w1).alloc (.cells #[.int .i64 (k : Int), .string (strOf c)] 53))).pushed h6 g6 a6
        rw [← hnext.out] at hm6
        replace hm6 := Lib.hid hm6
        clear hm h6 g6 a6
        go_wp2
        go_roundw
        case rel => exact ⟨k + 1, by omega, by go_num, hm6.out⟩
        case measure => simp [intOf]; omega
    · have hk32 : k = 32 := by omega
      subst hk32
      have hfin := Lib.hid hm
      clear hm
      go_wp2
      go_ret
      exact ⟨_, rfl, hfin.out⟩

set_option maxRecDepth 100000 in
theorem rput_any (w : World) (A : Option Addr) (c n : Nat) (o : List Pg) (h : Obj7 w A n o) (p : Nat) (off : Int) (d : List UInt8) (ho : off = p) (hb : p + d.length ≤ 1024) :
    Calls Tryd.prog 21 #[.slice A n c, .int .i64 off, .string (strOf d)] w fun e w' => ∃ v, e = .returned v ∧ Mine pgE 2 53 w w' v (pages (lay (body o) p d)) := by
  have hbl := body_len h.okay
  have h1 := fun W (k : Only [] w W) => rbytes_any W A c n o (h.kept k) 0 1024 0 1024 rfl rfl (by omega)
  rw [List.drop_zero, List.take_of_length_le (by omega)] at h1
  have hll : (lay (body o) p d).length = 1024 := by rw [lay_len (by omega)]; exact hbl
  have hcall := fun W => of_any W (lay (body o) p d) hll
  generalize body o = b at *
  subst ho
  have hup := upto_strOf (P := Tryd.prog) 9 Tryd.underlying9 b p p .i64 rfl (by omega)
  have hfr := from_strOf (P := Tryd.prog) 9 Tryd.underlying9 b (p + d.length) ((p : Int) + (d.length : Int)) .i64 (by omega) (by omega)
  have hwr : IntKind.i64.wrap ((p : Int) + (d.length : Int)) = (p : Int) + (d.length : Int) := by rw [IntKind.wrap_i64]; omega
  have e1 : strOf (lay b p d) = strOf (b.take p) ++ strOf d ++ strOf (b.drop (p + d.length)) := by
    rw [strOf_append, strOf_append, lay, List.append_assoc]
  rw [e1] at hcall
  have s1 := strOf_size (b.take p)
  have s2 := strOf_size d
  have s3 := strOf_size (b.drop (p + d.length))
  rw [List.length_take, Nat.min_eq_left (by omega)] at s1
  rw [List.length_drop, hbl] at s3
  have hdl : d.length ≤ 1024 := by omega
  generalize hD : d.length = dl at *
  replace hD := Lib.hid hD
  have hcat : (strOf (b.take p) ++ strOf d).size = p + dl := by
    rw [strOf_append, strOf_size, List.length_append, List.length_take, hbl, hD.out]; omega
  generalize strOf (b.take p) = S1 at *
  generalize strOf (b.drop (p + dl)) = S3 at *
  generalize strOf d = S2 at *
  generalize strOf b = S at *
  generalize lay b p d = y at *
  have hadd1 : ∀ W, (Op.stringOp .add S1 S2).run Tryd.prog W = .ok (.string (S1 ++ S2)) W := fun W => run_string_add_sum W S1 S2 (by omega)
  have hadd2 : ∀ W, (Op.stringOp .add (S1 ++ S2) S3).run Tryd.prog W = .ok (.string (S1 ++ S2 ++ S3)) W := fun W => run_string_add_sum W _ S3 (by omega)
  clear h hbl
  replace h1 := Lib.hid h1
  replace hll := Lib.hid hll
  replace e1 := Lib.hid e1
  go_enter Tryd.func21, Tryd.ntmps21
  go_wp2_with fail
  refine (h1.out _ (Only.refl [] w)).mono ?_; rintro e w1 ⟨rfl, k1⟩
  go_wp2_with fail
  go_still_tail 12, (by kernel_rfl)
  change wpList _ _ _ _ _ w1.drew
  have k2 := k1.drew
  generalize w1.drew = wd at *
  go_wp2_with fail
  refine (hcall _).mono ?_; rintro e w3 ⟨v, rfl, hm⟩
  have hm' := Lib.hid (Mine.from k2 hm)
  clear hm
  go_wp2
  go_ret
  exact ⟨v, rfl, hm'.out⟩

theorem cutB_snoc {b : List UInt8} (hb : b.length = 1024) {m k : Nat} (hm : m ≤ 1024) (hk : k < 1024) : (cutB b m).take (k + 1) = (cutB b m).take k ++ [if k < m then bAt b k else 0] := by
  have hl := cutB_len hb hm
  have hg := cutB_get hb hm k
  rw [List.take_add_one, List.getElem?_eq_getElem (by omega)]
  rw [List.getD_eq_getElem?_getD, List.getElem?_eq_getElem (by omega)] at hg
  unfold bAt
  rw [← hg]
  rfl
theorem one_part {b : List UInt8} {k : Nat} (h : k < b.length) : (b.drop k).take (k + 1 - k) = [bAt b k] := by
  rw [show k + 1 - k = 0 + 1 by omega, part_snoc (by omega)]
  simp

set_option maxRecDepth 100000 in
theorem rcut_any (w : World) (A : Option Addr) (c n : Nat) (o : List Pg) (h : Obj7 w A n o) (m : Nat) (size : Int) (hm : (m : Int) = min size 1024) (h0 : 0 ≤ size) :
    Calls Tryd.prog 22 #[.slice A n c, .int .i64 size] w fun e w' => ∃ v, e = .returned v ∧ Mine pgE 2 53 w w' v (pages (cutB (body o) m)) := by
  have hbl := body_len h.okay
  have hm1 : m ≤ 1024 := by omega
  have h1 := fun W (k : Only [] w W) => rbytes_any W A c n o (h.kept k) 0 1024 0 1024 rfl rfl (by omega)
  rw [List.drop_zero, List.take_of_length_le (by omega)] at h1
  have hcl := cutB_len hbl hm1
  have hcall := fun W => of_any W (cutB (body o) m) hcl
  generalize body o = b at *
  have hpart := fun (k : Nat) (hk : k < 1024) => part_strOf (P := Tryd.prog) 9 Tryd.underlying9 b k (k + 1) (k : Int) ((k : Int) + 1) .i64 .i64 rfl (by omega) (by omega) (by omega)
  have hone := fun (k : Nat) (hk : k < 1024) => one_part (b := b) (k := k) (by omega)
  have hsn := fun (k : Nat) (hk : k < 1024) => cutB_snoc hbl hm1 hk
  have hcmp : ∀ k : Nat, k < 1024 → ((k : Int) < size ↔ k < m) := fun k hk => by omega
  have hsz := strOf_size b
  rw [hbl] at hsz
  generalize strOf b = S at *
  replace hpart := Lib.hid hpart
  replace hone := Lib.hid hone
  replace hsn := Lib.hid hsn
  replace hcmp := Lib.hid hcmp
  replace h1 := Lib.hid h1
  replace hcall := Lib.hid hcall
  replace hm := Lib.hid hm
  generalize hY : cutB b m = Y at *
  clear h hbl
  go_enter Tryd.func22, Tryd.ntmps22
  go_wp2_with fail
  refine (h1.out _ (Only.refl [] w)).mono ?_; rintro e w1 ⟨rfl, k1⟩
  go_wp2_with fail
  go_loopw [6, 7] (fun s i wr => ∃ k : Nat, k ≤ 1024 ∧ i = .int .i64 k ∧ s = .string (strOf (Y.take k)) ∧ wr = w1) (fun _ i _ => 1024 - (intOf i).toNat)
  case atStart => exact ⟨0, by omega, rfl, rfl, rfl⟩
  case round =>
    obtain ⟨k, hk, rfl, rfl, rfl⟩ := hrel
    by_cases hlt : k < 1024
    · have hp := hpart.out k hlt
      rw [hone.out k hlt] at hp
      have hnext := hsn.out k hlt
      have hc := hcmp.out k hlt
      have hs1 := strOf_size (Y.take k)
      rw [List.length_take, Nat.min_eq_left (by omega)] at hs1
      by_cases hkm : k < m
      · rw [if_pos hkm] at hnext
        have hd : decide ((k : Int) < size) = true := decide_eq_true (hc.2 hkm)
        have hs2 := strOf_size [bAt b k]
        have happ := strOf_append (Y.take k) [bAt b k]
        rw [← hnext] at happ
        generalize strOf (Y.take k) = S1 at *
        generalize strOf [bAt b k] = S2 at *
        have hadd : ∀ W, (Op.stringOp .add S1 S2).run Tryd.prog W = .ok (.string (S1 ++ S2)) W := fun W => run_string_add_sum W S1 S2 (by rw [hs1, hs2]; simp; omega)
        rw [happ] at hadd
        replace hnext := Lib.hid hnext
        replace hkm := Lib.hid hkm
        replace happ := Lib.hid happ
        clear hc hs2
        go_wp2_with fail
        go_roundw
        case rel => exact ⟨k + 1, by omega, by go_num, rfl, trivial⟩
        case measure => simp [intOf]; omega
      · rw [if_neg hkm] at hnext
        have hd : decide ((k : Int) < size) = false := decide_eq_false (fun h => hkm (hc.1 h))
        have hs2 := strOf_size [0]
        have happ := strOf_append (Y.take k) [0]
        rw [← hnext] at happ
        rw [show strOf [0] = ⟨#[0]⟩ from rfl] at happ hs2
        generalize strOf (Y.take k) = S1 at *
        have hadd : ∀ W, (Op.stringOp .add S1 ⟨#[0]⟩).run Tryd.prog W = .ok (.string (S1 ++ ⟨#[0]⟩)) W := fun W => run_string_add_sum W S1 _ (by rw [hs1, hs2]; simp; omega)
        rw [happ] at hadd
        replace hnext := Lib.hid hnext
        replace hkm := Lib.hid hkm
        replace happ := Lib.hid happ
        clear hc hs2
        go_wp2_with fail
        go_roundw
        case rel => exact ⟨k + 1, by omega, by go_num, rfl, trivial⟩
        case measure => simp [intOf]; omega
    · have hk2 : k = 1024 := by omega
      subst hk2
      rw [List.take_of_length_le (by omega)]
      have k1' := Lib.hid k1
      clear k1
      go_wp2_with fail
      refine (hcall.out _).mono ?_; rintro e w3 ⟨v, rfl, hm⟩
      have hm' := Lib.hid (Mine.from k1'.out hm)
      clear hm
      go_wp2
      go_ret
      exact ⟨v, rfl, hm'.out⟩

set_option maxRecDepth 100000 in
theorem rlength_any (w : World) (A : Option Addr) (c n : Nat) (o : List Pg) (h : Obj7 w A n o) :
    Calls Tryd.prog 15 #[.slice A n c] w fun e w' => ∃ L : Nat, e = .returned (.int .i64 (L : Int)) ∧ IsEnd (body o) L ∧ w' = w := by
  have hbl := body_len h.okay
  have hat := fun x (hx : x < 1024) => at_any w A c n o h x hx
  generalize body o = b at *
  replace hat := Lib.hid hat
  clear h
  replace hbl := Lib.hid hbl
  go_enter Tryd.func15, Tryd.ntmps15
  go_wp2_with fail
  go_loopw [3] (fun i wr => ∃ k : Nat, k ≤ 1024 ∧ i = .int .i64 k ∧ Hid (∀ j, k ≤ j → b.getD j 0 = 0) ∧ wr = w) (fun i _ => (intOf i).toNat)
  case atStart => exact ⟨1024, by omega, rfl, fun j hj => by rw [List.getD_eq_getElem?_getD, List.getElem?_eq_none (by have := hbl.out; omega)]; rfl, rfl⟩
  case round =>
    obtain ⟨k, hk, rfl, hz, rfl⟩ := hrel
    cases k with
    | zero =>
      have hend : IsEnd b 0 := ⟨by omega, hz.out, .inl rfl⟩
      replace hend := Lib.hid hend
      clear hz
      go_wp2
      go_ret
      exact ⟨0, rfl, hend.out, rfl⟩
    | succ j =>
      have hcall := hat.out j (by omega)
      have hend : ¬ bAt b j = 0 → IsEnd b (j + 1) := fun hne => ⟨by have := hbl.out; omega, hz.out, .inr hne⟩
      have hnext : bAt b j = 0 → Hid (∀ i, j ≤ i → b.getD i 0 = 0) := fun he i hi => by
        by_cases hij : i = j
        · subst hij; exact he
        · exact hz.out i (by omega)
      replace hend := Lib.hid hend
      replace hnext := Lib.hid hnext
      clear hz
      have hj : j < 1024 := by omega
      generalize hx : bAt b j = x at *
      replace hx := Lib.hid hx
      unfold byteV at hcall
      by_cases hx0 : x = 0
      · have hn2 := hnext.out hx0
        have hz0 : (x.toNat : Int) = 0 := by rw [hx0]; rfl
        rw [hz0] at hcall
        replace hx0 := Lib.hid hx0
        go_wp2_with fail
        refine hcall.mono ?_; rintro e w1 ⟨rfl, rfl⟩
        go_wp2_with fail
        go_roundw
        case rel => exact ⟨j, by omega, by go_num, hn2, trivial⟩
        case measure => simp [intOf]
      · have he2 := Lib.hid (hend.out hx0)
        have hz0 := byte_nz hx0
        generalize (x.toNat : Int) = xi at *
        replace hx0 := Lib.hid hx0
        go_wp2_with fail
        refine hcall.mono ?_; rintro e w1 ⟨rfl, rfl⟩
        go_wp2
        go_ret
        exact ⟨j + 1, by rfl, he2.out, rfl⟩

end Go.Proofs.YtchlcmgdfbabdaaDoor.Pgs
