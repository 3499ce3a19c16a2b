/- Joined: Fun7, Fun8, Same7, Yes7, Key7, Chg7, Alive7, Tot7, Open7, Ld7, Load7. -/
import Derived.Test.YtmelaiefbpdifaaGreatDoorGJa
import Derived.Laws.Concat
/- within, Bytes, Put, Cut, Length. -/
namespace Go.Proofs.YtmelaiefbpdifaaGreatDoor.Pgs
open Go.RowKit
def inB (off len : Int) : Bool := decide (0 ≤ off ∧ 0 ≤ len ∧ off ≤ 1024 - len)
theorem inB_yes {off len : Int} (h : inB off len = true) : 0 ≤ off ∧ 0 ≤ len ∧ off ≤ 1024 - len := of_decide_eq_true h
theorem inB_of {off len : Int} (h0 : 0 ≤ off) (h1 : 0 ≤ len) (h2 : off ≤ 1024 - len) : inB off len = true := decide_eq_true ⟨h0, h1, h2⟩
theorem inB_no {off len : Int} (h : ¬ (0 ≤ off ∧ 0 ≤ len ∧ off ≤ 1024 - len)) : inB off len = false := decide_eq_false h
theorem within_any (w : World) (off len : Int) (l9 : len ≤ 9223372036854775807) :
  Calls Tryz.prog 66 #[.int .i64 off, .int .i64 len] w fun e w' => e = .returned (.bool (inB off len)) ∧ w' = w := by
 by_cases h0 : 0 ≤ off
 ·by_cases h1 : 0 ≤ len
  ·by_cases h2 : off ≤ 1024 - len
   ·rw [inB_of h0 h1 h2]
    go_enter Tryz.func66, Tryz.ntmps66
    go_wp2
    go_ret
    exact ⟨rfl, rfl⟩
   ·rw [inB_no (fun h => h2 h.2.2)]
    have d2 : decide (off ≤ 1024 - len) = false := by simpa using h2
    go_enter Tryz.func66, Tryz.ntmps66
    go_wp2
    go_ret
    exact ⟨rfl, rfl⟩
  ·rw [inB_no (fun h => h1 h.2.1)]
   have d1 : decide (0 ≤ len) = false := by simpa using h1
   go_enter Tryz.func66, Tryz.ntmps66
   go_wp2
   go_ret
   exact ⟨rfl, rfl⟩
 ·rw [inB_no (fun h => h0 h.1)]
  have d1 : decide (0 ≤ off) = false := by simpa using h0
  go_enter Tryz.func66, Tryz.ntmps66
  go_wp2
  go_ret
  exact ⟨rfl, rfl⟩
theorem body_part (q k h : Nat) (x y : Int) (hx : x = k) (hy : y = h) (hk : k ≤ h) (hh : h ≤ 1024) :
  ∃ off : Nat, (k < 1024 → off = k) ∧ ∀ W : World, (Instr.sliceAt 146 (.pointer (some ⟨q, 0, none⟩)) (some (.int .i64 x)) (some (.int .i64 y)) none).run Tryz.prog W = .ok (.slice (some ⟨q, off, none⟩) (h - k) (1024 - k)) W := by
 subst hx
 subst hy
 have ht : Tryz.prog.underlying 146 = some (.array (Tryz.prog.arrayLen 146) (Tryz.prog.elem 146)) := by kernel_rfl
 have hl : Tryz.prog.arrayLen 146 = 1024 := by kernel_rfl
 have he : Tryz.prog.elem 146 = 5 := by kernel_rfl
 refine ⟨if 1024 = k then 0 else k, fun h => by rw [if_neg (by omega)], fun W => ?_⟩
 rw [run_sliceAt_array_lh W _ _ ht .i64 .i64 (k : Int) (h : Int) (by omega) (by omega) (by rw [hl]; omega), hl, he, Tryz.sizeOf5]
 by_cases h : 1024 = k
 ·simp [Result.andThen, slicedAt, ← h]
 ·simp [Result.andThen, slicedAt, h, addr_add]
theorem part_bytes {w : World} {g off : Nat} {t : TypeId} {b : List UInt8} {k m c : Nat} (hb : Blk w g t (byteVs b).toArray) (h : k + m ≤ b.length) (ho : 0 < m → off = k) : SrcV w (.slice (some ⟨g, off, none⟩) m c) m (byteVs ((b.drop k).take m)) := by
 have hl : ((b.drop k).take m).length = m := by rw [List.length_take, List.length_drop]; omega
 by_cases h0 : m = 0
 ·subst h0
  exact ⟨_, _, rfl, by simp [byteVs], .inl rfl⟩
 ·have ho' := ho (by omega)
  subst ho'
  have h1 : BytesAt w g (0 + off) (b.drop off) := (bytes_of_blk hb).drop off
  rw [Nat.zero_add] at h1
  have h2 := SrcV.of_bytes c (h1.take m)
  rw [hl] at h2
  exact h2
section
variable (w : World) (A : Option Addr) (c n : Nat) (o : List Pg) (hn : n = o.length) (hA : Els pgE 2 w A o) (hl : n ≤ 9223372036854775807)
include hn hA hl
theorem bytes_no (off len : Int) (l9 : len ≤ 9223372036854775807) (h : ¬ (right o = true ∧ inB off len = true)) :
  Calls Tryz.prog 25 #[.slice A n c, .int .i64 off, .int .i64 len] w fun e w' => e = .returned (.tuple #[.string ⟨#[]⟩, .int .i64 1]) ∧ Only [] w w' := by
 have h1 := fun W (h : Els pgE 2 W A o) => right_any W A c n o hn h hl
 have h2 := fun W => within_any W off len l9
 cases hr : right o with
 | false =>
  rw [hr] at h1
  clear h hn
  go_enter Tryz.func25, Tryz.ntmps25
  go_wp2_with fail
  refine (h1 _ hA).mono ?_; rintro e w1 ⟨rfl, k1⟩
  go_wp2
  go_ret2
  exact ⟨rfl, k1⟩
 | true =>
  have hi : inB off len = false := by
   cases hb : inB off len with
   | false => rfl
   | true => exact (h ⟨hr, hb⟩).elim
  rw [hr] at h1
  rw [hi] at h2
  clear h hn
  go_enter Tryz.func25, Tryz.ntmps25
  go_wp2_with fail
  refine (h1 _ hA).mono ?_; rintro e w1 ⟨rfl, k1⟩
  go_wp2_with fail
  refine (h2 _).mono ?_; rintro e w2 ⟨rfl, rfl⟩
  go_wp2
  go_ret2
  exact ⟨rfl, k1⟩
set_option maxRecDepth 100000 in
theorem bytes_ok (p m : Nat) (off len : Int) (ho : off = p) (hm : len = m) (hr : right o = true) (hb : p + m ≤ 1024) :
  Calls Tryz.prog 25 #[.slice A n c, .int .i64 off, .int .i64 len] w fun e w' => e = .returned (.tuple #[.string (strOf (((body o).drop p).take m)), .int .i64 0]) ∧ Only [] w w' := by
 have h1 := fun W (h : Els pgE 2 W A o) => right_any W A c n o hn h hl
 have h2 := fun W => within_any W off len (by omega)
 have h3 := fun W (h : Els pgE 2 W A o) => spread_any W A c n o hn h hr
 have hbl := body_len hr
 rw [hr] at h1
 rw [inB_of (by omega) (by omega) (by omega)] at h2
 have hz0 := (zero_of_info zero_body).1
 obtain ⟨Z, hZ⟩ : ∃ Z, Z = (byteVs (zs 1024)).toArray := ⟨_, rfl⟩
 rw [← hZ] at hz0
 have hZ3 : Z.size = 1024 := by rw [hZ]; simp [byteVs, zs]
 clear hZ hn hr
 generalize body o = b at *
 obtain ⟨C, hC⟩ : ∃ C, C = (byteVs b).toArray := ⟨_, rfl⟩
 have hone : C.all (·.oneCell') = true := by rw [hC]; exact one_bytes b
 have hC3 : C.size = 1024 := by rw [hC]; simp [byteVs, hbl]
 rw [← hC] at h3
 have hs1 : (Tryz.prog.info? 146).map (·.size) = some C.size := by rw [hC3]; exact size_body
 have hs2 : Z.size = C.size := hZ3.trans hC3.symm
 have hwr : IntKind.i64.wrap (off + len) = off + len := by rw [IntKind.wrap_i64]; omega
 have o0 : 0 ≤ off := by omega
 have m0 : 0 ≤ len := by omega
 have om : off + len ≤ 1024 := by omega
 replace hs1 := Lib.hid hs1
 replace hs2 := Lib.hid hs2
 replace hone := Lib.hid hone
 replace hC3 := Lib.hid hC3
 replace hC := Lib.hid hC
 replace hbl := Lib.hid hbl
 replace ho := Lib.hid ho
 replace hm := Lib.hid hm
 have H3 := Lib.hid h3
 clear h3
 go_enter Tryz.func25, Tryz.ntmps25
 go_wp2_with fail
 refine (h1 _ hA).mono ?_; rintro e w1 ⟨rfl, k1⟩
 go_wp2_with fail
 refine (h2 _).mono ?_; rintro e w2 ⟨rfl, rfl⟩
 go_wp2_with fail
 refine (H3.out _ (hA.kept k1 (by simp))).mono ?_; rintro e w3 ⟨rfl, k3⟩
 have k4 := k1.trans k3
 obtain ⟨off', ho1, hsl⟩ := body_part w3.heap.size p (p + m) off (off + len) ho.out (by have := ho.out; have := hm.out; omega) (by omega) hb
 rw [show p + m - p = m by omega] at hsl
 replace ho1 := Lib.hid ho1
 clear k1 k3
 go_wp2_with (first
  | (refine wpList_store_whole rfl 146 (.tmp 8) (.tmp 19) rfl w3.heap.size Z C rfl rfl (Blk.new w3 _ _) hs1.out hs2.out hone.out ?_; intro w4 h4 k5)
  | (refine wpList_to_string _ rfl 103 9 5 (.tmp 24) rfl Tryz.underlying103 Tryz.underlying5 Tryz.underlying9 (some ⟨w3.heap.size, off', none⟩) m (1024 - p) ((b.drop p).take m) rfl (part_bytes (w := w4) (t := 146) (by rw [hC.out] at h4; exact h4) (by rw [hbl.out]; exact hb) (fun h => ho1.out (by omega))) ?_))
 have k6 : Only [] w w4 := (k4.alloc (.cells Z 146)).then k5 (by
  intro i hi
  simp at hi
  subst hi
  exact .inr k4.size)
 replace k6 := Lib.hid k6
 clear h4 k5
 go_wp2
 go_ret2
 exact ⟨rfl, k6.out⟩
end
end Go.Proofs.YtmelaiefbpdifaaGreatDoor.Pgs
/- Put, Cut, Length. -/
namespace Go.Proofs.YtmelaiefbpdifaaGreatDoor.Pgs
open Go.RowKit
section
variable (w : World) (A : Option Addr) (c n : Nat) (o : List Pg) (hn : n = o.length) (hA : Els pgE 2 w A o) (hl : n ≤ 9223372036854775807)
include hn hA hl
theorem put_no (off : Int) (d : List UInt8) (hd : d.length ≤ 1048576) (h : ¬ (right o = true ∧ inB off d.length = true)) :
  Calls Tryz.prog 203 #[.slice A n c, .int .i64 off, .string (strOf d)] w fun e w' => e = .returned (.tuple #[.slice none 0 0, .int .i64 1]) ∧ Only [] w w' := by
 have h1 := fun W (h : Els pgE 2 W A o) => right_any W A c n o hn h hl
 have h2 := fun W => within_any W off d.length (by omega)
 cases hr : right o with
 | false =>
  rw [hr] at h1
  clear h hn
  go_enter Tryz.func203, Tryz.ntmps203
  go_wp2_with fail
  refine (h1 _ hA).mono ?_; rintro e w1 ⟨rfl, k1⟩
  go_wp2
  go_ret2
  exact ⟨rfl, k1⟩
 | true =>
  have hi : inB off d.length = false := by
   cases hb : inB off d.length with
   | false => rfl
   | true => exact (h ⟨hr, hb⟩).elim
  rw [hi] at h2
  have hsz := strOf_size d
  have hsz' : ((strOf d).size : Int) = d.length := by omega
  generalize strOf d = s at *
  generalize (d.length : Int) = dl at *
  clear hsz
  rw [hr] at h1
  clear h hn
  go_enter Tryz.func203, Tryz.ntmps203
  go_wp2_with fail
  refine (h1 _ hA).mono ?_; rintro e w1 ⟨rfl, k1⟩
  go_wp2_with fail
  refine (h2 _).mono ?_; rintro e w2 ⟨rfl, rfl⟩
  go_wp2
  go_ret2
  exact ⟨rfl, k1⟩
theorem cut_no (size : Int) (h : ¬ (right o = true ∧ 0 ≤ size)) :
  Calls Tryz.prog 205 #[.slice A n c, .int .i64 size] w fun e w' => e = .returned (.tuple #[.slice none 0 0, .int .i64 1]) ∧ Only [] w w' := by
 have h1 := fun W (h : Els pgE 2 W A o) => right_any W A c n o hn h hl
 cases hr : right o with
 | false =>
  rw [hr] at h1
  clear h hn
  go_enter Tryz.func205, Tryz.ntmps205
  go_wp2_with fail
  refine (h1 _ hA).mono ?_; rintro e w1 ⟨rfl, k1⟩
  go_wp2
  go_ret2
  exact ⟨rfl, k1⟩
 | true =>
  have hi : decide (size < 0) = true := decide_eq_true (by
   have : ¬ 0 ≤ size := fun h0 => h ⟨hr, h0⟩
   omega)
  rw [hr] at h1
  clear h hn
  go_enter Tryz.func205, Tryz.ntmps205
  go_wp2_with fail
  refine (h1 _ hA).mono ?_; rintro e w1 ⟨rfl, k1⟩
  go_wp2
  go_ret2
  exact ⟨rfl, k1⟩
set_option maxRecDepth 100000 in
theorem put_ok (p : Nat) (off : Int) (d : List UInt8) (ho : off = p) (hr : right o = true) (hb : p + d.length ≤ 1024) :
  Calls Tryz.prog 203 #[.slice A n c, .int .i64 off, .string (strOf d)] w fun e w' => ∃ v, e = .returned (.tuple #[v, .int .i64 0]) ∧ Mine pgE 2 138 w w' v (pages (lay (body o) p d)) := by
 have h1 := fun W (h : Els pgE 2 W A o) => right_any W A c n o hn h hl
 have h2 := fun W => within_any W off d.length (by omega)
 have h3 := fun W (h : Els pgE 2 W A o) => spread_any W A c n o hn h hr
 have hbl := body_len hr
 rw [hr] at h1
 rw [inB_of (by omega) (by omega) (by omega)] at h2
 have hz0 := (zero_of_info zero_body).1
 obtain ⟨Z, hZ⟩ : ∃ Z, Z = (byteVs (zs 1024)).toArray := ⟨_, rfl⟩
 rw [← hZ] at hz0
 have hZ3 : Z.size = 1024 := by rw [hZ]; simp [byteVs, zs]
 clear hZ hn hr
 generalize body o = b at *
 obtain ⟨C, hC⟩ : ∃ C, C = (byteVs b).toArray := ⟨_, rfl⟩
 have hone : C.all (·.oneCell') = true := by rw [hC]; exact one_bytes b
 have hC3 : C.size = 1024 := by rw [hC]; simp [byteVs, hbl]
 rw [← hC] at h3
 have hs1 : (Tryz.prog.info? 146).map (·.size) = some C.size := by rw [hC3]; exact size_body
 have hs2 : Z.size = C.size := hZ3.trans hC3.symm
 have hll : (lay b p d).length = 1024 := by rw [lay_len (by omega)]; exact hbl
 have hsz := strOf_size d
 have hsz' : ((strOf d).size : Int) = d.length := by omega
 obtain ⟨s, hs⟩ : ∃ s, s = strOf d := ⟨_, rfl⟩
 rw [← hs] at hsz'
 rw [← hs]
 obtain ⟨dl, hdl⟩ : ∃ dl : Int, dl = (d.length : Int) := ⟨_, rfl⟩
 rw [← hdl] at hsz' h2
 have o0 : 0 ≤ off := by omega
 have o1 : off ≤ 1024 := by omega
 clear hsz
 replace hs1 := Lib.hid hs1
 replace hs2 := Lib.hid hs2
 replace hone := Lib.hid hone
 replace hC3 := Lib.hid hC3
 replace hC := Lib.hid hC
 replace hbl := Lib.hid hbl
 replace ho := Lib.hid ho
 replace hs := Lib.hid hs
 replace hdl := Lib.hid hdl
 replace hll := Lib.hid hll
 have H3 := Lib.hid h3
 clear h3
 go_enter Tryz.func203, Tryz.ntmps203
 go_wp2_with fail
 refine (h1 _ hA).mono ?_; rintro e w1 ⟨rfl, k1⟩
 go_wp2_with fail
 refine (h2 _).mono ?_; rintro e w2 ⟨rfl, rfl⟩
 go_wp2_with fail
 refine (H3.out _ (hA.kept k1 (by simp))).mono ?_; rintro e w3 ⟨rfl, k3⟩
 have k4 := k1.trans k3
 obtain ⟨off', ho1, ho2, hsl⟩ := body_from w3.heap.size p off ho.out (by omega)
 have ho3 : d ≠ [] → off' = p := fun h => ho1 (by have := List.length_pos_iff.2 h; omega)
 have ho4 : off' + d.length ≤ 1024 := by omega
 replace ho3 := Lib.hid ho3
 replace ho4 := Lib.hid ho4
 clear k1 k3 ho1 ho2
 go_wp2_with (first
  | (refine wpList_store_whole rfl 146 (.tmp 8) (.tmp 20) rfl w3.heap.size Z C rfl rfl (Blk.new w3 _ _) hs1.out hs2.out hone.out ?_; intro w4 h4 k5)
  | (refine wpList_copy_text rfl (.tmp 22) (.tmp 23) 103 9 rfl 5 Tryz.underlying103 (by kernel_rfl) w3.heap.size p off' (1024 - p) (1024 - p) d rfl (by rw [← hs.out]; rfl) b 146 (by rw [hC.out] at h4; exact h4) (by omega) ho3.out (by rw [hbl.out]; exact hb) (by rw [hbl.out]; exact ho4.out) ?_; intro w6 h6 k6))
 have k7 : Only [] w w6 := ((k4.alloc (.cells Z 146)).then k5 (by
  intro i hi
  simp at hi
  subst hi
  exact .inr k4.size)).then k6 (by
  intro i hi
  simp at hi
  subst hi
  exact .inr k4.size)
 replace k7 := Lib.hid k7
 have hbb : BodyB w6 w3.heap.size (lay b p d) := ⟨h6, hll.out⟩
 replace hbb := Lib.hid hbb
 clear h4 k5 h6 k6
 go_wp2_with fail
 refine (pages_any _ _ _ hbb.out).mono ?_; rintro e w7 ⟨v, rfl, hm⟩
 have hm' := Mine.from k7.out hm
 replace hm' := Lib.hid hm'
 clear hm
 go_wp2
 go_ret2
 exact ⟨v, rfl, hm'.out⟩
set_option maxRecDepth 100000 in
theorem cut_ok (m : Nat) (size : Int) (hm : (m : Int) = min size 1024) (h0 : 0 ≤ size) (hr : right o = true) :
  Calls Tryz.prog 205 #[.slice A n c, .int .i64 size] w fun e w' => ∃ v, e = .returned (.tuple #[v, .int .i64 0]) ∧ Mine pgE 2 138 w w' v (pages (cutB (body o) m)) := by
 have h1 := fun W (h : Els pgE 2 W A o) => right_any W A c n o hn h hl
 have h3 := fun W (h : Els pgE 2 W A o) => spread_any W A c n o hn h hr
 have hbl := body_len hr
 rw [hr] at h1
 have hz0 := (zero_of_info zero_body).1
 obtain ⟨Z, hZ⟩ : ∃ Z, Z = (byteVs (zs 1024)).toArray := ⟨_, rfl⟩
 rw [← hZ] at hz0
 have hZ3 : Z.size = 1024 := by rw [hZ]; simp [byteVs, zs]
 clear hZ hn hr
 generalize body o = b at *
 obtain ⟨C, hC⟩ : ∃ C, C = (byteVs b).toArray := ⟨_, rfl⟩
 have hone : C.all (·.oneCell') = true := by rw [hC]; exact one_bytes b
 have hC3 : C.size = 1024 := by rw [hC]; simp [byteVs, hbl]
 rw [← hC] at h3
 have hs1 : (Tryz.prog.info? 146).map (·.size) = some C.size := by rw [hC3]; exact size_body
 have hs2 : Z.size = C.size := hZ3.trans hC3.symm
 have hm1 : m ≤ 1024 := by omega
 have hll : (cutB b m).length = 1024 := cutB_len hbl hm1
 have hneg : decide (size < 0) = false := decide_eq_false (by omega)
 replace hs1 := Lib.hid hs1
 replace hs2 := Lib.hid hs2
 replace hone := Lib.hid hone
 replace hC3 := Lib.hid hC3
 replace hC := Lib.hid hC
 replace hbl := Lib.hid hbl
 replace hll := Lib.hid hll
 have H3 := Lib.hid h3
 clear h3
 have hmz : (size ≤ 1024 ∧ (m : Int) = size) ∨ (¬ size ≤ 1024 ∧ (m : Int) = 1024) := by omega
 replace hm := Lib.hid hm
 rcases hmz with ⟨hc, hmz⟩ | ⟨hc, hmz⟩
 all_goals
  have hmn : min size 1024 = _ := hm.out.symm.trans hmz
  replace hmz := Lib.hid hmz
  go_enter Tryz.func205, Tryz.ntmps205
  go_wp2_with fail
  refine (h1 _ hA).mono ?_; rintro e w1 ⟨rfl, k1⟩
  go_wp2_with fail
  refine (H3.out _ (hA.kept k1 (by simp))).mono ?_; rintro e w3 ⟨rfl, k3⟩
  have k4 := k1.trans k3
  obtain ⟨off', ho1, ho2, hsl⟩ := body_from w3.heap.size m _ hmz.out.symm hm1
  have ho3 : 1024 - m ≠ 0 → off' = m := fun h => ho1 (by omega)
  replace ho3 := Lib.hid ho3
  clear k1 k3 ho1 ho2
  go_wp2_with (first
   | (refine wpList_store_whole rfl 146 (.tmp 6) (.tmp 15) rfl w3.heap.size Z C rfl rfl (Blk.new w3 _ _) hs1.out hs2.out hone.out ?_; intro w4 h4 k5)
   | (refine wpList_clear rfl (.tmp 18) 103 rfl 5 Tryz.underlying103 Tryz.zeroValue5 w3.heap.size m off' (1024 - m) (1024 - m) rfl b 146 (by rw [hC.out] at h4; exact h4) hbl.out (by omega) ho3.out ?_; intro w6 h6 k6))
  have k7 : Only [] w w6 := ((k4.alloc (.cells Z 146)).then k5 (by
   intro i hi
   simp at hi
   subst hi
   exact .inr k4.size)).then k6 (by
   intro i hi
   simp at hi
   subst hi
   exact .inr k4.size)
  replace k7 := Lib.hid k7
  have hbb : BodyB w6 w3.heap.size (cutB b m) := ⟨h6, hll.out⟩
  replace hbb := Lib.hid hbb
  clear h4 k5 h6 k6
  go_wp2_with fail
  refine (pages_any _ _ _ hbb.out).mono ?_; rintro e w7 ⟨v, rfl, hm⟩
  have hm' := Mine.from k7.out hm
  replace hm' := Lib.hid hm'
  clear hm
  go_wp2
  go_ret2
  exact ⟨v, rfl, hm'.out⟩
end
end Go.Proofs.YtmelaiefbpdifaaGreatDoor.Pgs
/- Same: are two lists of pages the same? -/
namespace Go.Proofs.YtmelaiefbpdifaaGreatDoor.Pgs
open Go.RowKit
theorem pg_ext {x y : Pg} (h1 : x.n = y.n) (h2 : strOf x.d = strOf y.d) : x = y := by
 obtain ⟨a, b⟩ := x
 obtain ⟨a', b'⟩ := y
 simp only at h1 h2
 rw [h1, strOf_inj h2]
set_option maxRecDepth 100000 in
set_option maxHeartbeats 1000000 in
theorem same_any (w : World) (A B : Option Addr) (c d n m : Nat) (L M : List Pg) (hn : n = L.length) (hm : m = M.length) (hA : Els pgE 2 w A L) (hB : Els pgE 2 w B M) (hl : n ≤ 1048576) :
  Calls Tryz.prog 24 #[.slice A n c, .slice B m d] w fun e w' => Says (L = M) e ∧ ∃ k, w' = w.drewN k := by
 by_cases hlen : n = m
 ·subst hlen
  have HN := Lib.hid hn
  have HM := Lib.hid hm
  clear hn hm
  go_enter Tryz.func24, Tryz.ntmps24
  go_wp2_with fail
  go_loopw [5] (fun i wr => ∃ k q : Nat, k ≤ n ∧ i = .int .i64 k ∧ Hid (∀ j, j < k → L[j]? = M[j]?) ∧ wr = w.drewN q) (fun i _ => n - (intOf i).toNat)
  case atStart => exact ⟨0, 0, Nat.zero_le _, rfl, fun j hj => by omega, rfl⟩
  case round =>
   obtain ⟨k, q, hk, rfl, hsame, rfl⟩ := hrel
   by_cases hlt : k < n
   ·have h1 : k < L.length := by have := HN.out; omega
    have h2 : k < M.length := by have := HM.out; omega
    obtain ⟨g, o, rfl, hg, hat⟩ := hA.get h1
    obtain ⟨g', o', rfl, hg', hat'⟩ := hB.get h2
    obtain ⟨a0, a1⟩ := pgs_at hat h1
    obtain ⟨b0, b1⟩ := pgs_at hat' h2
    have hx : L[k]? = some L[k] := List.getElem?_eq_getElem h1
    have hy : M[k]? = some M[k] := List.getElem?_eq_getElem h2
    have hext : L[k].n = M[k].n → strOf L[k].d = strOf M[k].d → L[k] = M[k] := pg_ext
    generalize L[k] = x at *
    generalize M[k] = y at *
    obtain ⟨xn, xd⟩ := x
    obtain ⟨yn, yd⟩ := y
    simp only at a0 a1 b0 b1 hext
    clear hat hat'
    by_cases he : xn = yn ∧ strOf xd = strOf yd
    ·obtain ⟨p1, p2⟩ := he
     have hxy := hext p1 p2
     have hsame2 : Hid (∀ j, j < k + 1 → L[j]? = M[j]?) := fun j hj => by
      by_cases hjk : j = k
      ·subst hjk; rw [hx, hy, hxy]
      ·exact hsame.out j (by omega)
     rw [p1] at a0
     rw [p2] at a1
     generalize strOf yd = ys at *
     replace hx := Lib.hid hx
     replace hy := Lib.hid hy
     replace hext := Lib.hid hext
     replace p1 := Lib.hid p1
     replace p2 := Lib.hid p2
     clear hsame hxy
     go_wp2
     go_quiet (fail)
     go_wp2
     go_roundw
     case rel => exact ⟨k + 1, _, by omega, by go_num, hsame2, rfl⟩
     case measure => simp [intOf]; omega
    ·have hno : Hid (¬ L = M) := fun h => by
      rw [h, hy] at hx
      injection hx with hx
      injection hx with q1 q2
      exact he ⟨q1.symm, by rw [q2]⟩
     by_cases p1 : xn = yn
     ·have p2 := str_ne (fun h => he ⟨p1, h⟩)
      rw [p1] at a0
      generalize strOf xd = xs at *
      generalize strOf yd = ys at *
      replace p1 := Lib.hid p1
      replace hx := Lib.hid hx
      replace hy := Lib.hid hy
      replace hext := Lib.hid hext
      replace he := Lib.hid he
      clear hsame
      go_wp2
      go_quiet (fail)
      go_wp2
      go_ret
      exact ⟨Says.no hno.out, _, World.drewN_drewN _ _ _⟩
     ·have p3 : (xn == yn) = false := by simpa using p1
      generalize strOf xd = xs at *
      generalize strOf yd = ys at *
      replace p1 := Lib.hid p1
      replace hx := Lib.hid hx
      replace hy := Lib.hid hy
      replace hext := Lib.hid hext
      replace he := Lib.hid he
      clear hsame
      go_wp2
      go_quiet (fail)
      go_wp2
      go_ret
      exact ⟨Says.no hno.out, _, World.drewN_drewN _ _ _⟩
   ·have hyes : L = M := List.ext_getElem? fun j => by
     have e1 := HN.out
     have e2 := HM.out
     by_cases hj : j < k
     ·exact hsame.out j hj
     ·rw [List.getElem?_eq_none (by omega), List.getElem?_eq_none (by omega)]
    replace hyes := Lib.hid hyes
    clear hsame
    go_wp2
    go_ret
    exact ⟨Says.yes hyes.out, _, rfl⟩
 ·have hlen' : ¬ (n : Int) = (m : Int) := by omega
  have hno : Hid (¬ L = M) := fun h => hlen (by rw [hn, hm, h])
  clear hn hm hlen
  go_enter Tryz.func24, Tryz.ntmps24
  go_wp2
  go_ret
  exact ⟨Says.no hno.out, 0, rfl⟩
end Go.Proofs.YtmelaiefbpdifaaGreatDoor.Pgs
/- Two lists that are the same. -/
namespace Go.Proofs.YtmelaiefbpdifaaGreatDoor.Pgs
open Go.RowKit
theorem same_yes (w : World) (A B : Option Addr) (c d n m : Nat) (L : List Pg) (hn : n = L.length) (hm : m = L.length) (hA : Els pgE 2 w A L) (hB : Els pgE 2 w B L) (hl : n ≤ 1048576) :
  Calls Tryz.prog 24 #[.slice A n c, .slice B m d] w fun e w' => e = .returned (.bool true) ∧ Only [] w w' := by
 refine (same_any w A B c d n m L L hn hm hA hB hl).mono ?_
 rintro e w1 ⟨⟨r, rfl, hr⟩, k, rfl⟩
 exact ⟨by rw [hr.2 rfl], (Only.refl [] w).drewN k⟩
end Go.Proofs.YtmelaiefbpdifaaGreatDoor.Pgs
/- Keys. -/
namespace Go.Proofs.YtmelaiefbpdifaaGreatDoor.Pgs
open Go.RowKit
def b4 (x : Nat) : List UInt8 := [UInt8.ofNat (x / 16777216), UInt8.ofNat (x / 65536 % 256), UInt8.ofNat (x / 256 % 256), UInt8.ofNat (x % 256)]
def headB (x : Nat) : List UInt8 := 80 :: b4 x
def keyB (x k : Nat) : List UInt8 := headB x ++ [0, UInt8.ofNat k]
theorem headB_length (x : Nat) : (headB x).length = 5 := rfl
theorem keyB_length (x k : Nat) : (keyB x k).length = 7 := rfl
theorem byteV_nat (m : Nat) (z : Int) (hz : z = m) (h : m < 256) : byteV (UInt8.ofNat m) = .int .u8 z := by
 subst hz
 simp [byteV, Nat.mod_eq_of_lt h]
theorem byteVs_b4 {x : Nat} (hx : x < 4294967296) : byteVs (b4 x) = [.int .u8 ((x : Int) / 16777216), .int .u8 ((x : Int) / 65536 % 256), .int .u8 ((x : Int) / 256 % 256), .int .u8 ((x : Int) % 256)] := by
 unfold b4 byteVs
 simp only [List.map_cons, List.map_nil]
 rw [byteV_nat _ ((x : Int) / 16777216) (by omega) (by omega), byteV_nat _ ((x : Int) / 65536 % 256) (by omega) (by omega), byteV_nat _ ((x : Int) / 256 % 256) (by omega) (by omega), byteV_nat _ ((x : Int) % 256) (by omega) (by omega)]
theorem src_cells (w : World) (t : TypeId) (l : List UInt8) (cs : Array Value) (n : Nat) (hn : n = l.length) (h : cs = (byteVs l).toArray) : SrcV (w.alloc (.cells cs t)) (.slice (some ⟨w.heap.size, 0, none⟩) n n) n (byteVs l) := by
 subst hn
 subst h
 exact SrcV.of_bytes _ (bytes_of_blk (Blk.new w t (byteVs l).toArray))
set_option maxRecDepth 100000 in
theorem prefix_any (w : World) (x : Nat) (hx : x < 4294967296) :
  Calls Tryz.prog 124 #[.int .u32 (x : Int)] w fun e w' => e = .returned (.string (strOf (headB x))) ∧ Only [] w w' := by
 have hcells : #[Value.int IntKind.u8 80, .int .u8 ((x : Int) / 16777216), .int .u8 ((x : Int) / 65536 % 256), .int .u8 ((x : Int) / 256 % 256), .int .u8 ((x : Int) % 256)] = (byteVs (headB x)).toArray := by
  unfold headB
  rw [show byteVs (80 :: b4 x) = byteV 80 :: byteVs (b4 x) from rfl, byteVs_b4 hx]
  rfl
 replace hcells := Lib.hid hcells
 go_enter Tryz.func124, Tryz.ntmps124
 go_wp2_with (refine wpList_to_string _ rfl 103 9 5 (.tmp 14) rfl Tryz.underlying103 Tryz.underlying5 Tryz.underlying9 (some ⟨w.heap.size, 0, none⟩) 5 5 (headB x) rfl (src_cells w _ (headB x) _ 5 rfl hcells.out) ?_)
 go_ret
 exact ⟨rfl, (Only.refl [] w).alloc _⟩
theorem step_to_string {P : Program} {ops : Array Oper} {o : Oper} {a : Act} {w : World} {K : Act → World → Prop} {Q : Exit → Act → World → Prop} {E : Prop} (hgd : o.guard = none) (src dst e : TypeId) (x : Operand) (ho : o.op = .convert src dst x)
  (hs : P.underlying src = some (.slice e)) (he : P.underlying e = some (.int .u8)) (hd : P.underlying dst = some .string) (A : Option Addr) (m c : Nat) (l : List UInt8) (hx : a.eval x = .slice A m c)
  (hsrc : SrcV w (.slice A m c) m (byteVs l)) (h : K (a.put o.dst (.string (strOf l))) w) : if Region.wanted o (yielded ops a.tmps) = true then Oper.wp P o a w K Q else E := by
 have hw : Region.wanted o (yielded ops a.tmps) = true := by simp [Region.wanted, hgd]
 rw [if_pos hw]
 obtain ⟨hl, hc⟩ := hsrc.bytes
 have hr : (convert src dst (.slice A m c)).run P w = .ok (.string (strOf l)) w := by
  cases hA : A with
  | some ad =>
   subst hA
   have hc' : ∀ j (hj : j < l.length), w.cell? (ad.add j) = some (.int .u8 (l[j].toNat : Int)) := by
    rcases hc with h0 | ⟨ad', he', hc⟩
    ·intro j hj; omega
    ·injection he' with he'; subst he'; exact hc
   have := run_convert_bytes_back (P := P) w src dst e ad c l hs he hd hc'
   rw [hl] at this
   exact this
  | none =>
   have h0 : m = 0 := by rcases hc with h0 | ⟨ad, he', _⟩; exact h0; rw [hA] at he'; cases he'
   obtain rfl : l = [] := List.eq_nil_of_length_eq_zero (by omega)
   rw [run_convert_bytes_string w src dst e none m c hs he hd]
   simp [Conv.bytesToString, strOf]
   rfl
 unfold Oper.wp
 simp [execOp, ho, hx, hr, Result.andThen]
 exact h
theorem key_src {w : World} {q : Nat} {t : TypeId} {k : Nat} (hk : k < 32) (hb : Blk w q t #[.int .u8 ((k : Int) / 256), .int .u8 (k : Int)]) : SrcV w (.slice (some ⟨q, 0, none⟩) 2 2) 2 (byteVs [0, UInt8.ofNat k]) := by
 have e : #[Value.int IntKind.u8 ((k : Int) / 256), .int .u8 (k : Int)] = (byteVs [0, UInt8.ofNat k]).toArray := by
  rw [show byteVs [0, UInt8.ofNat k] = [byteV 0, byteV (UInt8.ofNat k)] from rfl, byteV_nat k (k : Int) rfl (by omega), show (k : Int) / 256 = 0 by omega]
  rfl
 rw [e] at hb
 exact SrcV.of_bytes 2 (bytes_of_blk hb)
set_option maxRecDepth 100000 in
theorem key_any (w : World) (x k : Nat) (hx : x < 4294967296) (hk : k < 32) :
  Calls Tryz.prog 130 #[.int .u32 (x : Int), .int .i64 (k : Int)] w fun e w' => e = .returned (.string (strOf (keyB x k))) ∧ Only [] w w' := by
 have hp := fun W => prefix_any W x hx
 have hw1 : IntKind.u8.wrap ((k : Int) / 256) = (k : Int) / 256 := by rw [IntKind.wrap_u8]; omega
 have hw2 : IntKind.u8.wrap (k : Int) = (k : Int) := by rw [IntKind.wrap_u8]; omega
 have happ : strOf (headB x) ++ strOf [0, UInt8.ofNat k] = strOf (keyB x k) := strOf_append _ _
 have s1 : (strOf (headB x)).size = 5 := by rw [strOf_size]; rfl
 have s2 : (strOf [0, UInt8.ofNat k]).size = 2 := by rw [strOf_size]; rfl
 have hadd : ∀ W, (Op.stringOp .add (strOf (headB x)) (strOf [0, UInt8.ofNat k])).run Tryz.prog W = .ok (.string (strOf (keyB x k))) W := fun W => by
  rw [run_string_add_sum W _ _ (by omega), happ]
 replace happ := Lib.hid happ
 clear s1 s2
 generalize strOf (headB x) = S1 at *
 generalize strOf (keyB x k) = S3 at *
 go_enter Tryz.func130, Tryz.ntmps130
 go_wp2_with fail
 refine wp_region_held_drew (S := fun w' => True) (by kernel_rfl) trivial (fun hHeld => ?_)
 have kd : Only [] w w.drew := (Only.refl [] w).drew
 generalize w.drew = wd at *
 refine rwT 0 (.int .u32 (x : Int)) hHeld ?_; simp only [rwA]
 refine rwT 2 (.int .i64 (k : Int)) hHeld ?_; simp only [rwA]
 refine rwT 3 (.int .i64 ((k : Int) / 256)) hHeld ?_; simp only [rwA]
 refine rwT 4 (.int .u8 ((k : Int) / 256)) hHeld ?_; simp only [rwA]
 refine rwT 5 (.int .i64 (k : Int)) hHeld ?_; simp only [rwA]
 refine rwT 6 (.int .u8 (k : Int)) hHeld ?_; simp only [rwA]
 refine held_step2 1 7 rfl rfl (by kernel_rfl) (fun K hK => ?_) (fun K hK => ?_)
 ·go_simp
  refine (hp _).mono ?_; rintro e w1 ⟨rfl, k1⟩
  go_wp2_with fail
  refine hK.out _ _ trivial (fun hHeld => ?_)
  clear hK K
  refine held_step 7 rfl (by kernel_rfl) (fun K hK => ?_)
  go_simp
  go_wp2_with fail
  refine hK.out _ _ trivial (fun hHeld => ?_)
  clear hK K
  refine held_step 8 rfl (by kernel_rfl) (fun K hK => ?_)
  refine step_to_string rfl 103 9 5 (.tmp 18) rfl Tryz.underlying103 Tryz.underlying5 Tryz.underlying9 (some ⟨w1.heap.size, 0, none⟩) 2 2 [0, UInt8.ofNat k] rfl (key_src hk (Blk.new w1 5 _)) ?_
  go_wp2_with fail
  refine hK.out _ _ trivial (fun hHeld => ?_)
  clear hK K
  refine held_step 9 rfl (by kernel_rfl) (fun K hK => ?_)
  go_simp
  go_wp2_with fail
  refine hK.out _ _ trivial (fun hHeld => ?_)
  clear hK K
  refine held_step 10 rfl (by kernel_rfl) (fun K hK => ?_)
  go_simp
  go_wp2_with fail
  refine hK.out _ _ trivial (fun hHeld => ?_)
  clear hK K
  refine wpAnyH_done (by kernel_rfl) ?_ _
  clear hHeld
  have hfin := Lib.hid ((kd.trans k1).alloc (.cells #[.int .u8 ((k : Int) / 256), .int .u8 (k : Int)] 5))
  go_wp2
  go_ret
  exact ⟨rfl, hfin.out⟩
 ·go_simp
  go_wp2_with fail
  refine hK.out _ _ trivial (fun hHeld => ?_)
  clear hK K
  refine held_step2 1 8 rfl rfl (by kernel_rfl) (fun K hK => ?_) (fun K hK => ?_)
  ·go_simp
   refine (hp _).mono ?_; rintro e w1 ⟨rfl, k1⟩
   have hb := (Blk.new wd 5 #[.int .u8 ((k : Int) / 256), .int .u8 (k : Int)]).kept k1 (by simp)
   go_wp2_with fail
   refine hK.out _ _ trivial (fun hHeld => ?_)
   clear hK K
   refine held_step 8 rfl (by kernel_rfl) (fun K hK => ?_)
   refine step_to_string rfl 103 9 5 (.tmp 18) rfl Tryz.underlying103 Tryz.underlying5 Tryz.underlying9 (some ⟨wd.heap.size, 0, none⟩) 2 2 [0, UInt8.ofNat k] rfl (key_src hk hb) ?_
   go_wp2_with fail
   refine hK.out _ _ trivial (fun hHeld => ?_)
   clear hK K
   refine held_step 9 rfl (by kernel_rfl) (fun K hK => ?_)
   go_simp
   go_wp2_with fail
   refine hK.out _ _ trivial (fun hHeld => ?_)
   clear hK K
   refine held_step 10 rfl (by kernel_rfl) (fun K hK => ?_)
   go_simp
   go_wp2_with fail
   refine hK.out _ _ trivial (fun hHeld => ?_)
   clear hK K
   refine wpAnyH_done (by kernel_rfl) ?_ _
   clear hHeld
   have hfin := Lib.hid ((kd.alloc (.cells #[.int .u8 ((k : Int) / 256), .int .u8 (k : Int)] 5)).trans k1)
   go_wp2
   go_ret
   exact ⟨rfl, hfin.out⟩
  ·refine step_to_string rfl 103 9 5 (.tmp 18) rfl Tryz.underlying103 Tryz.underlying5 Tryz.underlying9 (some ⟨wd.heap.size, 0, none⟩) 2 2 [0, UInt8.ofNat k] rfl (key_src hk (Blk.new wd 5 _)) ?_
   go_wp2_with fail
   refine hK.out _ _ trivial (fun hHeld => ?_)
   clear hK K
   refine held_step 1 rfl (by kernel_rfl) (fun K hK => ?_)
   go_simp
   refine (hp _).mono ?_; rintro e w1 ⟨rfl, k1⟩
   go_wp2_with fail
   refine hK.out _ _ trivial (fun hHeld => ?_)
   clear hK K
   refine held_step 9 rfl (by kernel_rfl) (fun K hK => ?_)
   go_simp
   go_wp2_with fail
   refine hK.out _ _ trivial (fun hHeld => ?_)
   clear hK K
   refine held_step 10 rfl (by kernel_rfl) (fun K hK => ?_)
   go_simp
   go_wp2_with fail
   refine hK.out _ _ trivial (fun hHeld => ?_)
   clear hK K
   refine wpAnyH_done (by kernel_rfl) ?_ _
   clear hHeld
   have hfin := Lib.hid ((kd.alloc (.cells #[.int .u8 ((k : Int) / 256), .int .u8 (k : Int)] 5)).trans k1)
   go_wp2
   go_ret
   exact ⟨rfl, hfin.out⟩
end Go.Proofs.YtmelaiefbpdifaaGreatDoor.Pgs
/- Changes, by the program. -/
namespace Go.Proofs.YtmelaiefbpdifaaGreatDoor.Pgs
open Go.RowKit
theorem chg_same {fl : List UInt8} {f g : Nat → List UInt8} {k : Nat} (h : g k = f k) : chgF fl f g (k + 1) = chgF fl f g k := by rw [chgF, if_pos h]
theorem chg_gone {fl : List UInt8} {f g : Nat → List UInt8} {k : Nat} (h : ¬ g k = f k) (hz : allZ (g k) = true) : chgF fl f g (k + 1) = chgF fl f g k ++ [⟨keyF fl k, [], true⟩] := by rw [chgF, if_neg h, if_pos hz]
theorem chg_new {fl : List UInt8} {f g : Nat → List UInt8} {k : Nat} (h : ¬ g k = f k) (hz : allZ (g k) = false) : chgF fl f g (k + 1) = chgF fl f g k ++ [⟨keyF fl k, g k, false⟩] := by rw [chgF, if_neg h, if_neg (by simp [hz])]
theorem keyB_eq (x k : Nat) : keyB x k = keyF (headB x) k := rfl
theorem range_kept {S : List Nat} {w w' : World} {g : Nat} {cs : List Value} (h : w.rangeAt g 0 cs) (k : Only S w w') (hg : g ∉ S) : w'.rangeAt g 0 cs := fun j v hj => k.cell (h j v hj) hg
theorem bytes_range {w : World} {g : Nat} {b : List UInt8} (h : w.rangeAt g 0 (byteVs b)) : BytesAt w g 0 b := fun j hj => h j _ (by simp [byteVs, List.getElem?_eq_getElem hj])
theorem mine_low {α : Type} {enc : α → List Value} {k : Nat} {e : TypeId} {w w1 : World} {v : Value} {l : List α} (h : Mine enc k e w w1 v l) : ∀ g, v.ownBlock = some g → g < w1.heap.size := fun g hg => (h.own.lt g hg).2
set_option maxRecDepth 100000 in
set_option maxHeartbeats 4000000 in
theorem changes_ok (w : World) (A B : Option Addr) (c d n m x : Nat) (hx : x < 4294967296) (o p : List Pg) (hn : n = o.length) (hA : Els pgE 2 w A o) (hr : right o = true) (hm : m = p.length) (hB : Els pgE 2 w B p) (hq : right p = true) :
  Calls Tryz.prog 230 #[.int .u32 (x : Int), .slice A n c, .slice B m d] w fun e w' => ∃ v, e = .returned (.tuple #[v, .int .i64 0]) ∧ Mine chE 3 133 w w' v (chgF (headB x) (chunk (body o)) (chunk (body p)) 32) := by
 have hl : n ≤ 9223372036854775807 := by have := right_len hr; omega
 have hl' : m ≤ 9223372036854775807 := by have := right_len hq; omega
 have h1 := fun W (h : Els pgE 2 W A o) => right_any W A c n o hn h hl
 have h2 := fun W (h : Els pgE 2 W B p) => right_any W B d m p hm h hl'
 have h3 := fun W (h : Els pgE 2 W A o) => spread_any W A c n o hn h hr
 have h4 := fun W (h : Els pgE 2 W B p) => spread_any W B d m p hm h hq
 have hbl := body_len hr
 have hbl' := body_len hq
 rw [hr] at h1
 rw [hq] at h2
 have hz0 := (zero_of_info zero_body).1
 obtain ⟨Z, hZ⟩ : ∃ Z, Z = (byteVs (zs 1024)).toArray := ⟨_, rfl⟩
 rw [← hZ] at hz0
 have hZ3 : Z.size = 1024 := by rw [hZ]; simp [byteVs, zs]
 have hy0 := (zero_of_info zero_page).1
 obtain ⟨Y, hY⟩ : ∃ Y, Y = (byteVs (zs 32)).toArray := ⟨_, rfl⟩
 rw [← hY] at hy0
 have hY3 : Y.size = 32 := by rw [hY]; simp [byteVs, zs]
 clear hZ hn hr hm hq hl hl'
 generalize body o = b at *
 generalize body p = b' at *
 obtain ⟨C, hC⟩ : ∃ C, C = (byteVs b).toArray := ⟨_, rfl⟩
 obtain ⟨C', hC'⟩ : ∃ C, C = (byteVs b').toArray := ⟨_, rfl⟩
 have hone : C.all (·.oneCell') = true := by rw [hC]; exact one_bytes b
 have hone' : C'.all (·.oneCell') = true := by rw [hC']; exact one_bytes b'
 have hC3 : C.size = 1024 := by rw [hC]; simp [byteVs, hbl]
 have hC3' : C'.size = 1024 := by rw [hC']; simp [byteVs, hbl']
 rw [← hC] at h3
 rw [← hC'] at h4
 have hs1 : (Tryz.prog.info? 146).map (·.size) = some C.size := by rw [hC3]; exact size_body
 have hs1' : (Tryz.prog.info? 146).map (·.size) = some C'.size := by rw [hC3']; exact size_body
 have hs2 : Z.size = C.size := hZ3.trans hC3.symm
 have hs2' : Z.size = C'.size := hZ3.trans hC3'.symm
 replace hs1 := Lib.hid hs1
 replace hs2 := Lib.hid hs2
 replace hs1' := Lib.hid hs1'
 replace hs2' := Lib.hid hs2'
 replace hone := Lib.hid hone
 replace hone' := Lib.hid hone'
 replace hC3 := Lib.hid hC3
 replace hC3' := Lib.hid hC3'
 replace hC := Lib.hid hC
 replace hC' := Lib.hid hC'
 replace hbl := Lib.hid hbl
 replace hbl' := Lib.hid hbl'
 replace hY := Lib.hid hY
 replace hY3 := Lib.hid hY3
 have H3 := Lib.hid h3
 have H4 := Lib.hid h4
 clear h3 h4
 go_enter Tryz.func230, Tryz.ntmps230
 go_wp2_with fail
 refine (h1 _ hA).mono ?_; rintro e w1 ⟨rfl, k1⟩
 go_wp2_with fail
 refine (h2 _ (hB.kept k1 (by simp))).mono ?_; rintro e w2 ⟨rfl, k2⟩
 have k12 := k1.trans k2
 clear k1 k2 h1 h2
 go_wp2_with fail
 refine (H3.out _ (hA.kept k12 (by simp))).mono ?_; rintro e w3 ⟨rfl, k3⟩
 have k13 := k12.trans k3
 clear k12 k3
 go_wp2_with fail
 refine (H4.out _ (hB.kept k13 (by simp))).mono ?_; rintro e w4 ⟨rfl, k4⟩
 have k14 := k13.trans k4
 clear k13 k4 hA hB
 have n0 : Blk ((w4.alloc (.cells Z 146)).alloc (.cells Z 146)) w4.heap.size 146 Z := (Blk.new w4 _ _).alloc _
 have n1 : Blk ((w4.alloc (.cells Z 146)).alloc (.cells Z 146)) (w4.heap.size + 1) 146 Z := by
  have := Blk.new (w4.alloc (.cells Z 146)) 146 Z
  simpa using this
 have k15 : Only [] w ((w4.alloc (.cells Z 146)).alloc (.cells Z 146)) := (k14.alloc _).alloc _
 replace n0 := Lib.hid n0
 replace n1 := Lib.hid n1
 go_wp2_with (first
  | (refine wpList_store_whole rfl 146 (.tmp 8) (.tmp 22) rfl w4.heap.size Z C rfl rfl n0.out hs1.out hs2.out hone.out ?_; intro w5 g5 k5)
  | (refine wpList_store_whole rfl 146 (.tmp 9) (.tmp 24) rfl (w4.heap.size + 1) Z C' rfl rfl (n1.out.kept k5 (by simp)) hs1'.out hs2'.out hone'.out ?_; intro w6 g6 k6))
 have hb : BodyB w6 w4.heap.size b := ⟨by have := g5.kept k6 (by simp); rw [hC.out] at this; exact this, hbl.out⟩
 have hb' : BodyB w6 (w4.heap.size + 1) b' := ⟨by rw [hC'.out] at g6; exact g6, hbl'.out⟩
 have k16 : Only [] w w6 := (k15.then k5 (by
  intro i hi
  simp at hi
  subst hi
  exact .inr k14.size)).then k6 (by
  intro i hi
  simp at hi
  subst hi
  exact .inr (by have := k14.size; omega))
 generalize hQ : w4.heap.size = Q at *
 replace hQ := Lib.hid hQ
 clear n0 n1 k15 k14 k5 k6 g5 g6
 replace hb := Lib.hid hb
 replace hb' := Lib.hid hb'
 replace k16 := Lib.hid k16
 go_loopw [10, 25] (fun v i wr => ∃ k : Nat, k ≤ 32 ∧ i = .int .i64 k ∧ Mine chE 3 133 w6 wr v (chgF (headB x) (chunk b) (chunk b') k)) (fun _ i _ => 32 - (intOf i).toNat)
 case atStart => exact ⟨0, by omega, rfl, Mine.start _ _ _ (Only.refl [] w6)⟩
 case round =>
  obtain ⟨k, hk, rfl, hmine⟩ := hrel
  by_cases hlt : k < 32
  ·have hcl := chunk_len hbl.out hlt
   have hcl' := chunk_len hbl'.out hlt
   have e1 := fun h => chg_same (fl := headB x) (f := chunk b) (g := chunk b') (k := k) h
   have e2 := fun h h' => chg_gone (fl := headB x) (f := chunk b) (g := chunk b') (k := k) h h'
   have e3 := fun h h' => chg_new (fl := headB x) (f := chunk b) (g := chunk b') (k := k) h h'
   have hpl := chgF_len (headB x) (chunk b) (chunk b') k
   have hcall := fun W (h : BodyB W Q b) => page_any W Q k b h hlt
   have hcall' := fun W (h : BodyB W (Q + 1) b') => page_any W (Q + 1) k b' h hlt
   have hkey := fun W => key_any W x k hx hlt
   rw [keyB_eq] at hkey
   generalize chunk b k = f at *
   generalize chunk b' k = g at *
   generalize keyF (headB x) k = ky at *
   generalize hL : chgF (headB x) (chunk b) (chunk b') k = L at *
   replace hL := Lib.hid hL
   replace e1 := Lib.hid e1
   replace e2 := Lib.hid e2
   replace e3 := Lib.hid e3
   replace hcall := Lib.hid hcall
   replace hcall' := Lib.hid hcall'
   replace hcl := Lib.hid hcl
   replace hkey := Lib.hid hkey
   go_wp2_with fail
   refine (hcall'.out _ (hb'.out.kept hmine.only (by simp))).mono ?_; rintro e w1 ⟨rfl, k1⟩
   have hm1 := hmine.keep k1
   obtain ⟨G, hG⟩ : ∃ G, G = (byteVs g).toArray := ⟨_, rfl⟩
   have honeG : G.all (·.oneCell') = true := by rw [hG]; exact one_bytes g
   have hG3 : G.size = 32 := by rw [hG]; simp [byteVs, hcl']
   rw [← hG]
   have hg1 : (Tryz.prog.info? 275).map (·.size) = some G.size := by rw [hG3]; exact size_page
   have hg2 : Y.size = G.size := hY3.out.trans hG3.symm
   replace hg1 := Lib.hid hg1
   replace hg2 := Lib.hid hg2
   replace honeG := Lib.hid honeG
   replace hG3 := Lib.hid hG3
   replace hG := Lib.hid hG
   replace hcl' := Lib.hid hcl'
   clear hmine k1
   go_wp2_with (refine wpList_store_whole rfl 275 (.tmp 12) (.tmp 29) rfl w1.heap.size Y G rfl rfl (Blk.new w1 _ _) hg1.out hg2.out honeG.out ?_; intro w2 g2 k2)
   have hlow := Lib.hid (mine_low hm1)
   have k12 : Only [] w1 w2 := ((Only.refl [] w1).alloc (.cells Y 275)).then k2 (by simp)
   have hm2 := hm1.keep k12
   rw [hG.out] at g2
   have r2 := Blk.range g2
   obtain ⟨q, hq⟩ : ∃ q, q = w1.heap.size := ⟨_, rfl⟩
   rw [← hq] at r2 g2 ⊢
   replace hq := Lib.hid hq
   clear hm1 k2 k12 g2
   refine wp_region_held_drew (S := fun w' => w'.rangeAt q 0 (byteVs g)) (by kernel_rfl) (range_kept r2 ((Only.refl [] w2).drew) (by simp)) (fun hHeld => ?_)
   have kd : Only [] w2 w2.drew := (Only.refl [] w2).drew
   have hm3 := hm2.keep kd
   have r3 := range_kept r2 kd (by simp)
   clear hm2 r2 kd
   generalize w2.drew = wd at *
   refine rwY 0 (.agg (byteVs g).toArray) hHeld ?_ (hy := yieldsIf_load_mid (by rfl) 275 (.tmp 12) rfl q 0 rfl (byteVs g) _ (fun w' hSw => hSw) Tryz.underlying275 rfl (by rw [byteVs_length, hcl'.out]; exact size_page)); simp only [rwA]
   refine rwT 1 (.int .i64 (k : Int)) hHeld ?_; simp only [rwA]
   refine held_step 2 rfl (by kernel_rfl) (fun K hK => ?_)
   go_simp
   refine (hcall.out _ (hb.out.kept hm3.only (by simp))).mono ?_; rintro e w4 ⟨rfl, k4⟩
   have hm4 := hm3.keep k4
   have r4 := range_kept r3 k4 (by simp)
   go_wp2_with fail
   refine hK.out _ _ r4 (fun hHeld => ?_)
   clear hK K
   clear hm3 r3 k4
   by_cases hgf : g = f
   ·have hnext := Lib.hid (e1.out hgf)
    have hb1 := Lib.hid (eq_beq hgf)
    refine held_step 3 rfl (by kernel_rfl) (fun K hK => ?_)
    refine step_eql_page rfl (.tmp 40) (.tmp 42) 275 5 _ rfl guard_page array_page kind_byte Tryz.sizeOf5 g f _ _ true rfl rfl rfl rfl hcl'.out hcl.out hb1.out ?_
    go_wp2_with fail
    refine hK.out _ _ r4 (fun hHeld => ?_)
    clear hK K
    refine held_step 4 rfl (by kernel_rfl) (fun K hK => ?_)
    go_simp
    go_wp2_with fail
    refine hK.out _ _ r4 (fun hHeld => ?_)
    clear hK K
    refine wpAnyH_done (by kernel_rfl) ?_ _
    clear hHeld
    replace hgf := Lib.hid hgf
    rw [← hnext.out] at hm4
    replace hm4 := Lib.hid hm4
    clear r4
    go_wp2_with fail
    go_roundw
    case rel => exact ⟨k + 1, by omega, by go_num, hm4.out⟩
    case measure => simp [intOf]; omega
   ·have hb1 := Lib.hid (eq_not hgf)
    refine held_step 3 rfl (by kernel_rfl) (fun K hK => ?_)
    refine step_eql_page rfl (.tmp 40) (.tmp 42) 275 5 _ rfl guard_page array_page kind_byte Tryz.sizeOf5 g f _ _ false rfl rfl rfl rfl hcl'.out hcl.out hb1.out ?_
    go_wp2_with fail
    refine hK.out _ _ r4 (fun hHeld => ?_)
    clear hK K
    refine held_step 4 rfl (by kernel_rfl) (fun K hK => ?_)
    go_simp
    go_wp2_with fail
    refine hK.out _ _ r4 (fun hHeld => ?_)
    clear hK K
    refine wpAnyH_done (by kernel_rfl) ?_ _
    clear hHeld
    cases hz : allZ g with
    | true =>
     have hnext := Lib.hid (e2.out hgf hz)
     have hr : Hid ((g == zs 32) = true) := by
      show (g == zs 32) = true
      exact eq_beq (eq_zs32 hz hcl'.out)
     replace hz := Lib.hid hz
     replace hgf := Lib.hid hgf
     go_wp2_with (first
      | (refine wpList_load_mid rfl 275 (.tmp 12) rfl q 0 rfl (byteVs g) _ r4 Tryz.underlying275 rfl (by rw [byteVs_length, hcl'.out]; exact size_page) ?_)
      | (refine wpList_eql_page rfl (.tmp 45) (.tmp 46) 275 5 _ rfl guard_page array_page kind_byte Tryz.sizeOf5 g (zs 32) (byteVs g).toArray Y true rfl rfl rfl hY.out hcl'.out (zs_length 32) hr.out ?_))
     refine (hkey.out _).mono ?_; rintro e w6 ⟨rfl, k6⟩
     have hm6 := hm4.keep k6
     have hm7 := hm6.keep ((Only.refl [] w6).alloc (.cells #[.string (strOf ky), .string ⟨#[]⟩, .bool true] 133))
     have b7 : Blk (w6.alloc (.cells #[.string (strOf ky), .string ⟨#[]⟩, .bool true] 133)) w6.heap.size 133 (chE ⟨ky, [], true⟩).toArray := Blk.new w6 _ _
     go_wp2_with (at_builtin; go_must (refine wpList_push rfl _ _ 22 rfl 133 _ 40 chE_length (by decide) chE_one Tryz.underlying22 info_ch rfl _ L.length L rfl hm7.own w6.heap.size ⟨ky, [], true⟩ _ rfl b7 (by unfold maxLen; omega) (by omega) ?_); intro vv w8 h8 g8 a8)
     have hm8 := hm7.pushed h8 g8 a8
     rw [← hnext.out] at hm8
     replace hm8 := Lib.hid hm8
     clear hm7 hm6 hm4 b7 h8 g8 a8 k6 r4
     go_wp2
     go_roundw
     case rel => exact ⟨k + 1, by omega, by go_num, hm8.out⟩
     case measure => simp [intOf]; omega
    | false =>
     have hnext := Lib.hid (e3.out hgf hz)
     have hr : Hid ((g == zs 32) = false) := by
      show (g == zs 32) = false
      exact eq_not (fun h => by rw [h, allZ_zs] at hz; cases hz)
     replace hz := Lib.hid hz
     replace hgf := Lib.hid hgf
     go_wp2_with (first
      | (refine wpList_load_mid rfl 275 (.tmp 12) rfl q 0 rfl (byteVs g) _ r4 Tryz.underlying275 rfl (by rw [byteVs_length, hcl'.out]; exact size_page) ?_)
      | (refine wpList_eql_page rfl (.tmp 45) (.tmp 46) 275 5 _ rfl guard_page array_page kind_byte Tryz.sizeOf5 g (zs 32) (byteVs g).toArray Y false rfl rfl rfl hY.out hcl'.out (zs_length 32) hr.out ?_))
     have r5 := range_kept r4 ((Only.refl [] w4).drew) (by simp)
     have hm5 := hm4.keep ((Only.refl [] w4).drew)
     have hconv : ∀ w', w'.rangeAt q 0 (byteVs g) → (convert 103 9 (.slice (some ⟨q, 0, none⟩) 32 32)).run Tryz.prog w' = .ok (.string (strOf g)) w' := fun w' h => by
      have h1 := run_convert_bytes_back (P := Tryz.prog) w' 103 9 5 ⟨q, 0, none⟩ 32 g Tryz.underlying103 Tryz.underlying5 Tryz.underlying9 (fun j hj => by rw [addr_add]; exact bytes_range h j hj)
      rw [hcl'.out] at h1
      exact h1
     replace hconv := Lib.hid hconv
     refine wp_region_held_drew (S := fun w' => w'.rangeAt q 0 (byteVs g)) (by kernel_rfl) r5 (fun hHeld => ?_)
     generalize w4.drew = w5 at *
     refine rwT 0 (u10) hHeld ?_; simp only [rwA]
     refine rwT 1 (.int .u32 (x : Int)) hHeld ?_; simp only [rwA]
     refine rwT 2 (.int .i64 (k : Int)) hHeld ?_; simp only [rwA]
     refine rwT 4 (.slice (some ⟨q, 0, none⟩) 32 32) hHeld ?_; simp only [rwA]
     refine rwY 5 (.string (strOf g)) hHeld ?_ (hy := Or.inl ⟨by rfl, fun w' hSw => (by have h5 := hconv.out w' hSw; go_simp)⟩); simp only [rwA]
     refine held_step 3 rfl (by kernel_rfl) (fun K hK => ?_)
     go_simp
     refine (hkey.out _).mono ?_; rintro e w6 ⟨rfl, k6⟩
     have r6 := range_kept r5 k6 (by simp)
     have hm6 := hm5.keep k6
     go_wp2_with fail
     refine hK.out _ _ r6 (fun hHeld => ?_)
     clear hK K
     refine held_step 6 rfl (by kernel_rfl) (fun K hK => ?_)
     go_simp
     go_wp2_with fail
     refine hK.out _ _ r6 (fun hHeld => ?_)
     clear hK K
     refine held_step 7 rfl (by kernel_rfl) (fun K hK => ?_)
     go_simp
     have k7 : Only [] w6 (w6.alloc (.cells #[.string (strOf ky), .string (strOf g), .bool false] 133)) := (Only.refl [] w6).alloc _
     have r7 := range_kept r6 k7 (by simp)
     have hm7 := hm6.keep k7
     have b7 : Blk (w6.alloc (.cells #[.string (strOf ky), .string (strOf g), .bool false] 133)) w6.heap.size 133 (chE ⟨ky, g, false⟩).toArray := Blk.new w6 _ _
     go_wp2_with fail
     refine hK.out _ _ r7 (fun hHeld => ?_)
     clear hK K
     refine held_step 8 rfl (by kernel_rfl) (fun K hK => ?_)
     refine step_push rfl _ _ 22 rfl 133 _ 40 chE_length (by decide) chE_one Tryz.underlying22 info_ch rfl u10 L.length L rfl hm7.own w6.heap.size ⟨ky, g, false⟩ _ rfl b7 (by unfold maxLen; omega) (by omega) ?_
     intro vv w8 h8 g8 a8
     have hm8 := hm7.pushed h8 g8 a8
     have r8 : w8.rangeAt q 0 (byteVs g) := fun j v hj => (only_own g8).cell (r7 j v hj) (by
      intro hqm
      have h1 := hlow.out q (by simpa using hqm)
      have h2 := hq.out
      omega)
     go_wp2_with fail
     refine hK.out _ _ r8 (fun hHeld => ?_)
     clear hK K
     refine held_step 9 rfl (by kernel_rfl) (fun K hK => ?_)
     go_simp
     go_wp2_with fail
     refine hK.out _ _ r8 (fun hHeld => ?_)
     clear hK K
     refine wpAnyH_done (by kernel_rfl) ?_ _
     clear hHeld
     rw [← hnext.out] at hm8
     replace hm8 := Lib.hid hm8
     clear hm7 hm6 hm5 hm4 b7 h8 g8 a8 k6 r4 r5 r6 r7 r8
     go_wp2
     go_roundw
     case rel => exact ⟨k + 1, by omega, by go_num, hm8.out⟩
     case measure => simp [intOf]; omega
  ·have hk2 : k = 32 := by omega
   subst hk2
   have hfin := Lib.hid (Mine.from k16.out hmine)
   clear hmine
   go_wp2
   go_ret2
   exact ⟨_, rfl, hfin.out⟩
end Go.Proofs.YtmelaiefbpdifaaGreatDoor.Pgs
/- What every right program answers. -/
namespace Go.Proofs.YtmelaiefbpdifaaGreatDoor.Pgs
open Go.RowKit
theorem mine_shape {w w1 : World} {v : Value} {l : List Pg} (h : Mine pgE 2 138 w w1 v l) : ∃ A c, v = .slice A l.length c ∧ Els pgE 2 w1 A l ∧ l.length ≤ c ∧ (∀ a, A = some a → w.heap.size ≤ a.block) := by
 obtain ⟨A, c, e, h1, h2, h3, _⟩ := h.shape pgE_length
 exact ⟨A, c, e, h1, h2, h3⟩
end Go.Proofs.YtmelaiefbpdifaaGreatDoor.Pgs
/- Put, Cut, Length, Bytes of any list, whatever comes in: one answer each; and what they say of one another. -/
namespace Go.Proofs.YtmelaiefbpdifaaGreatDoor.Pgs
open Go.RowKit
def errB (b : Bool) : Int := if b then 0 else 1
def okPut (o : List Pg) (off : Int) (d : List UInt8) : Bool := right o && inB off d.length
def putL (o : List Pg) (off : Int) (d : List UInt8) : List Pg := if okPut o off d then pages (lay (body o) off.toNat d) else []
def okCut (o : List Pg) (size : Int) : Bool := right o && decide (0 ≤ size)
def cutL (o : List Pg) (size : Int) : List Pg := if okCut o size then pages (cutB (body o) (min size 1024).toNat) else []
def okBytes (o : List Pg) (off len : Int) : Bool := right o && inB off len
def bytesL (o : List Pg) (off len : Int) : List UInt8 := if okBytes o off len then ((body o).drop off.toNat).take len.toNat else []
section
variable (w : World) (A : Option Addr) (c n : Nat) (o : List Pg) (hn : n = o.length) (hA : Els pgE 2 w A o) (hl : n ≤ 9223372036854775807)
include hn hA hl
theorem put_any (off : Int) (d : List UInt8) (hd : d.length ≤ 1048576) :
  Calls Tryz.prog 203 #[.slice A n c, .int .i64 off, .string (strOf d)] w fun e w' => ∃ v, e = .returned (.tuple #[v, .int .i64 (errB (okPut o off d))]) ∧ Mine pgE 2 138 w w' v (putL o off d) := by
 unfold putL
 cases h : okPut o off d with
 | false =>
  have h' : ¬ (right o = true ∧ inB off d.length = true) := fun hh => by
   unfold okPut at h
   rw [hh.1, hh.2] at h
   cases h
  refine (put_no w A c n o hn hA hl off d hd h').mono ?_
  rintro e w1 ⟨rfl, k1⟩
  exact ⟨_, rfl, Mine.start _ _ _ k1⟩
 | true =>
  have h' := h
  unfold okPut at h'
  rw [Bool.and_eq_true] at h'
  obtain ⟨h1, h2, h3⟩ := inB_yes h'.2
  exact put_ok w A c n o hn hA hl off.toNat off d (by omega) h'.1 (by omega)
theorem cut_any (size : Int) :
  Calls Tryz.prog 205 #[.slice A n c, .int .i64 size] w fun e w' => ∃ v, e = .returned (.tuple #[v, .int .i64 (errB (okCut o size))]) ∧ Mine pgE 2 138 w w' v (cutL o size) := by
 unfold cutL
 cases h : okCut o size with
 | false =>
  have h' : ¬ (right o = true ∧ 0 ≤ size) := fun hh => by
   unfold okCut at h
   rw [hh.1, decide_eq_true hh.2] at h
   cases h
  refine (cut_no w A c n o hn hA hl size h').mono ?_
  rintro e w1 ⟨rfl, k1⟩
  exact ⟨_, rfl, Mine.start _ _ _ k1⟩
 | true =>
  have h' := h
  unfold okCut at h'
  rw [Bool.and_eq_true, decide_eq_true_eq] at h'
  exact cut_ok w A c n o hn hA hl (min size 1024).toNat size (by omega) h'.2 h'.1
theorem bytes_any (off len : Int) (l9 : len ≤ 9223372036854775807) :
  Calls Tryz.prog 25 #[.slice A n c, .int .i64 off, .int .i64 len] w fun e w' => e = .returned (.tuple #[.string (strOf (bytesL o off len)), .int .i64 (errB (okBytes o off len))]) ∧ Only [] w w' := by
 unfold bytesL
 cases h : okBytes o off len with
 | false =>
  have h' : ¬ (right o = true ∧ inB off len = true) := fun hh => by
   unfold okBytes at h
   rw [hh.1, hh.2] at h
   cases h
  exact bytes_no w A c n o hn hA hl off len l9 h'
 | true =>
  have h' := h
  unfold okBytes at h'
  rw [Bool.and_eq_true] at h'
  obtain ⟨h1, h2, h3⟩ := inB_yes h'.2
  exact bytes_ok w A c n o hn hA hl off.toNat len.toNat off len (by omega) (by omega) h'.1 (by omega)
end
theorem putL_right (o : List Pg) (off : Int) (d : List UInt8) : right (putL o off d) = true := by
 unfold putL
 split
 ·rename_i h
  unfold okPut at h
  rw [Bool.and_eq_true] at h
  obtain ⟨h1, h2, h3⟩ := inB_yes h.2
  exact pages_right (by rw [lay_len (by have := body_len h.1; omega)]; exact body_len h.1)
 ·rfl
theorem cutL_right (o : List Pg) (size : Int) : right (cutL o size) = true := by
 unfold cutL
 split
 ·rename_i h
  unfold okCut at h
  rw [Bool.and_eq_true] at h
  exact pages_right (cutB_len (body_len h.1) (by omega))
 ·rfl
theorem okPut_of {o : List Pg} {off : Int} {d : List UInt8} (h1 : right o = true) (h2 : 0 ≤ off) (h3 : off + d.length ≤ 1024) : okPut o off d = true := by
 unfold okPut
 rw [h1, inB_of h2 (by omega) (by omega)]
 rfl
theorem okBytes_of {o : List Pg} {off len : Int} (h1 : right o = true) (h2 : 0 ≤ off) (h3 : 0 ≤ len) (h4 : off + len ≤ 1024) : okBytes o off len = true := by
 unfold okBytes
 rw [h1, inB_of h2 h3 (by omega)]
 rfl
end Go.Proofs.YtmelaiefbpdifaaGreatDoor.Pgs
/- A list of pages that comes in. -/
namespace Go.Proofs.YtmelaiefbpdifaaGreatDoor.Pgs
open Go.RowKit Go.ChangeShapes Go.WideShapes Go.ChangeAt Go.Deep
section
variable {H : Type} {enc : TypeId × Value → H} {w : World}
end
end Go.Proofs.YtmelaiefbpdifaaGreatDoor.Pgs
/- Rows of pages, as plain lists: what Load makes of rows, and what Changes make of them. -/
namespace Go.Proofs.YtmelaiefbpdifaaGreatDoor.Pgs
open Go.RowKit Go.Maps
def pgOf (c : Ch) : Pg := ⟨(((c.key.getD 5 0).toNat * 256 + (c.key.getD 6 0).toNat : Nat) : Int), c.val⟩
def ldO (U : List Ch) : List Pg := U.map pgOf
def all7 (U : List Ch) : Bool := U.all fun c => c.key.length == 7
def ldOk (U : List Ch) : Bool := all7 U && right (ldO U)
def ldL (U : List Ch) : List Pg := if ldOk U then ldO U else []
theorem okP_of : ∀ (o : List Pg) (l : Int), (∀ q ∈ o, l < q.n ∧ q.n < 32 ∧ q.d.length = 32 ∧ allZ q.d = false) → o.Pairwise (fun a b => a.n < b.n) → okP l o = true
 | [], _, _, _ => rfl
 | p :: r, l, h, hp => by
  obtain ⟨h1, h2⟩ := List.pairwise_cons.1 hp
  obtain ⟨a1, a2, a3, a4⟩ := h p (by simp)
  refine okP_cons.2 ⟨a1, a2, a3, a4, okP_of r p.n (fun q hq => ⟨h1 q hq, (h q (by simp [hq])).2⟩) h2⟩
theorem find_of_mem : ∀ (o : List Pg) (l : Int) (q : Pg) (k : Nat), okP l o = true → q ∈ o → q.n = (k : Int) → find o k = q.d
 | [], _, _, _, _, hq, _ => by simp at hq
 | p :: r, l, q, k, h, hq, hk => by
  obtain ⟨_, _, _, _, h5⟩ := okP_cons.1 h
  rcases List.mem_cons.1 hq with rfl | hq
  ·rw [find, if_pos hk]
  ·have := (okP_mem r p.n h5 q hq).1
   rw [find, if_neg (by omega)]
   exact find_of_mem r p.n q k h5 hq hk
theorem ofNat_inj {a b : Nat} (ha : a < 256) (hb : b < 256) (h : UInt8.ofNat a = UInt8.ofNat b) : a = b := by
 have := congrArg UInt8.toNat h
 simpa [Nat.mod_eq_of_lt ha, Nat.mod_eq_of_lt hb] using this
theorem headB_inj {x y : Nat} (hx : x < 4294967296) (hy : y < 4294967296) (h : headB x = headB y) : x = y := by
 unfold headB b4 at h
 injection h with _ h
 injection h with h1 h
 injection h with h2 h
 injection h with h3 h
 injection h with h4 _
 have e1 := ofNat_inj (by omega) (by omega) h1
 have e2 := ofNat_inj (by omega) (by omega) h2
 have e3 := ofNat_inj (by omega) (by omega) h3
 have e4 := ofNat_inj (by omega) (by omega) h4
 omega
theorem keyF_inj {fl : List UInt8} {n m : Nat} (hn : n < 256) (hm : m < 256) (h : keyF fl n = keyF fl m) : n = m := by
 unfold keyF at h
 have h1 := List.append_cancel_left h
 injection h1 with _ h1
 injection h1 with h1 _
 exact ofNat_inj hn hm h1
theorem keyB_take (x n : Nat) : (keyB x n).take 5 = headB x := rfl
theorem pre_iff {p k : List UInt8} : preK p k = true ↔ p.length ≤ k.length ∧ k.take p.length = p := by
 unfold preK Lib.hasPrefix
 rw [List.isPrefixOf_iff_prefix, List.prefix_iff_eq_take]
 constructor
 ·intro h
  exact ⟨by have := congrArg List.length h; rw [List.length_take] at this; omega, h.symm⟩
 ·intro h
  exact h.2.symm
theorem pre_key (x n : Nat) : preK (headB x) (keyB x n) = true := pre_iff.2 ⟨by simp [headB_length, keyB_length], rfl⟩
theorem pre_two {x y : Nat} {k : List UInt8} (hx : x < 4294967296) (hy : y < 4294967296) (h : preK (headB x) k = true) (h' : preK (headB y) k = true) : x = y := by
 have h1 := (pre_iff.1 h).2
 have h2 := (pre_iff.1 h').2
 rw [headB_length] at h1 h2
 exact headB_inj hx hy (h1.symm.trans h2)
theorem hitL_snoc (l : List Ch) (c : Ch) (k : List UInt8) : hitL (l ++ [c]) k = (hitL l k).or (if c.key == k then some c else none) := by
 unfold hitL
 rw [List.find?_append]
 congr 1
 simp only [List.find?_cons, List.find?_nil]
 cases c.key == k <;> rfl
theorem hit_other (fl : List UInt8) (F G : Nat → List UInt8) (k : List UInt8) : ∀ K, (∀ n, n < K → k ≠ keyF fl n) → hitL (chgF fl F G K) k = none
 | 0, _ => rfl
 | K + 1, h => by
  have ih := hit_other fl F G k K (fun n hn => h n (by omega))
  have hk : (keyF fl K == k) = false := by
   rw [beq_eq_false_iff_ne]
   exact fun e => h K (by omega) e.symm
  rw [chgF]
  split
  ·exact ih
  ·split
   ·rw [hitL_snoc, ih]; simp [hk]
   ·rw [hitL_snoc, ih]; simp [hk]
theorem hit_page (fl : List UInt8) (F G : Nat → List UInt8) (n : Nat) : ∀ K, K ≤ 256 → n < K →
  hitL (chgF fl F G K) (keyF fl n) = if G n = F n then none else some (if allZ (G n) then ⟨keyF fl n, [], true⟩ else ⟨keyF fl n, G n, false⟩)
 | 0, _, h => absurd h (by omega)
 | K + 1, hK, hn => by
  by_cases hnK : n = K
  ·subst hnK
   have ih := hit_other fl F G (keyF fl n) n (fun m hm e => by have := keyF_inj (by omega) (by omega) e; omega)
   rw [chgF]
   by_cases h1 : G n = F n
   ·rw [if_pos h1, if_pos h1, ih]
   ·rw [if_neg h1, if_neg h1]
    by_cases h2 : allZ (G n) = true
    ·rw [if_pos h2, if_pos h2, hitL_snoc, ih]; simp
    ·rw [if_neg h2, if_neg h2, hitL_snoc, ih]; simp
  ·have ih := hit_page fl F G n K (by omega) (by omega)
   have hk : (keyF fl K == keyF fl n) = false := by
    rw [beq_eq_false_iff_ne]
    exact fun e => hnK (keyF_inj (by omega) (by omega) e).symm
   rw [chgF]
   split
   ·exact ih
   ·split
    ·rw [hitL_snoc, ih]; simp [hk]
    ·rw [hitL_snoc, ih]; simp [hk]
theorem chg_mem (fl : List UInt8) (F G : Nat → List UInt8) : ∀ K, K ≤ 256 → (∀ n, n < K → (G n).length = 32) → (∀ c ∈ chgF fl F G K, ∃ n, n < K ∧ c.key = keyF fl n ∧ c.val.length ≤ 32 ∧ (c.gone = true → c.val = [])) ∧ (chgF fl F G K).Pairwise fun a b => a.key ≠ b.key
 | 0, _, _ => ⟨fun c hc => by simp [chgF] at hc, List.Pairwise.nil⟩
 | K + 1, hK, hG => by
  obtain ⟨h1, h2⟩ := chg_mem fl F G K (by omega) (fun n hn => hG n (by omega))
  have hsnoc : ∀ c : Ch, c.key = keyF fl K → c.val.length ≤ 32 → (c.gone = true → c.val = []) → (∀ d ∈ chgF fl F G K ++ [c], ∃ n, n < K + 1 ∧ d.key = keyF fl n ∧ d.val.length ≤ 32 ∧ (d.gone = true → d.val = [])) ∧ (chgF fl F G K ++ [c]).Pairwise fun a b => a.key ≠ b.key := fun c q1 q2 q3 => by
   refine ⟨fun d hd => ?_, List.pairwise_append.2 ⟨h2, List.pairwise_singleton _ _, fun a ha b hb => ?_⟩⟩
   ·rcases List.mem_append.1 hd with hd | hd
    ·obtain ⟨n, hn, hr⟩ := h1 d hd
     exact ⟨n, by omega, hr⟩
    ·simp only [List.mem_singleton] at hd
     subst hd
     exact ⟨K, by omega, q1, q2, q3⟩
   ·simp only [List.mem_singleton] at hb
    subst hb
    obtain ⟨n, hn, hk, _⟩ := h1 a ha
    rw [hk, q1]
    exact fun e => by have := keyF_inj (by omega) (by omega) e; omega
  rw [chgF]
  split
  ·exact ⟨fun c hc => by obtain ⟨n, hn, hr⟩ := h1 c hc; exact ⟨n, by omega, hr⟩, h2⟩
  ·split
   ·exact hsnoc _ rfl (by simp) (fun _ => rfl)
   ·exact hsnoc _ rfl (by rw [hG K (by omega)]; exact Nat.le_refl _) (fun h => by cases h)
def chgL (x : Nat) (o p : List Pg) : List Ch := chgF (headB x) (chunk (body o)) (chunk (body p)) 32
theorem chgL_mem {x : Nat} {o p : List Pg} (hp : right p = true) : (∀ c ∈ chgL x o p, ∃ n, n < 32 ∧ c.key = keyB x n ∧ c.val.length ≤ 32 ∧ (c.gone = true → c.val = [])) ∧ (chgL x o p).Pairwise fun a b => a.key ≠ b.key :=
 chg_mem (headB x) _ _ 32 (by decide) (fun n hn => chunk_len (body_len hp) hn)
theorem chgL_len (x : Nat) (o p : List Pg) : (chgL x o p).length ≤ 32 := chgF_len _ _ _ 32
theorem chgL_okay {x : Nat} {o p : List Pg} (hp : right p = true) : okayC (chgL x o p) := fun c hc => by
 obtain ⟨n, hn, q1, q2, _⟩ := (chgL_mem (x := x) (o := o) hp).1 c hc
 rw [q1, keyB_length]
 exact ⟨by decide, by omega⟩
theorem growth_le (M : List Rw) : ∀ l : List Ch, growthL M l ≤ l.length
 | [] => by simp [growthL]
 | c :: r => by
  have ih := growth_le M r
  have hs : stepC M c ≤ 1 := by unfold stepC; split <;> (try split) <;> omega
  rw [growthL, List.length_cons]
  omega
structure Holds (M : List Rw) (x : Nat) (p : List Pg) : Prop where
 pages : ∀ n, n < 32 → getR M (keyB x n) = if allZ (find p n) then none else some (find p n)
 only : ∀ k, preK (headB x) k = true → (∀ n, n < 32 → k ≠ keyB x n) → getR M k = none
theorem holds_nil (x : Nat) : Holds [] x [] := ⟨fun n _ => by rw [find, allZ_zs]; rfl, fun _ _ _ => rfl⟩
theorem after_page {M : List Rw} {x n : Nat} {o p : List Pg} (ho : right o = true) (hp : right p = true) (hn : n < 32) : afterK (chgL x o p) M (keyB x n) = if find p n = find o n then getR M (keyB x n) else if allZ (find p n) then none else some (find p n) := by
 have h := hit_page (headB x) (chunk (body o)) (chunk (body p)) n 32 (by decide) hn
 rw [chunk_body ho hn, chunk_body hp hn] at h
 unfold afterK chgL
 rw [keyB_eq, h]
 by_cases h1 : find p n = find o n
 ·rw [if_pos h1, if_pos h1]
 ·rw [if_neg h1, if_neg h1]
  by_cases h2 : allZ (find p n) = true
  ·rw [if_pos h2, if_pos h2]; rfl
  ·rw [if_neg h2, if_neg h2]; rfl
theorem after_other {M : List Rw} {x : Nat} {o p : List Pg} {k : List UInt8} (h : ∀ n, n < 32 → k ≠ keyB x n) : afterK (chgL x o p) M k = getR M k := by
 unfold afterK chgL
 rw [hit_other (headB x) _ _ k 32 h]
theorem Holds.step {M M' : List Rw} {x : Nat} {o p : List Pg} (h : Holds M x o) (ho : right o = true) (hp : right p = true) (hM : ∀ k, getR M' k = afterK (chgL x o p) M k) : Holds M' x p := by
 refine ⟨fun n hn => ?_, fun k hk hne => ?_⟩
 ·rw [hM, after_page ho hp hn]
  by_cases h1 : find p n = find o n
  ·rw [if_pos h1, h.pages n hn, h1]
  ·rw [if_neg h1]
 ·rw [hM, after_other hne]
  exact h.only k hk hne
theorem Holds.other {M M' : List Rw} {x y : Nat} {o p q : List Pg} (hx : x < 4294967296) (hy : y < 4294967296) (hxy : x ≠ y) (h : Holds M y q) (hM : ∀ k, getR M' k = afterK (chgL x o p) M k) : Holds M' y q := by
 have hne : ∀ k, preK (headB y) k = true → ∀ n, n < 32 → k ≠ keyB x n := fun k hk n _ e => hxy (pre_two hx hy (by rw [e]; exact pre_key x n) hk)
 refine ⟨fun n hn => ?_, fun k hk hnn => ?_⟩
 ·rw [hM, after_other (hne _ (pre_key y n))]
  exact h.pages n hn
 ·rw [hM, after_other (hne k hk)]
  exact h.only k hk hnn
def Rest (M : List Rw) (x y : Nat) : Prop := ∀ k, preK (headB x) k = false → preK (headB y) k = false → getR M k = none
theorem Rest.step {M M' : List Rw} {x y z : Nat} {o p : List Pg} (h : Rest M x y) (hz : z = x ∨ z = y) (hM : ∀ k, getR M' k = afterK (chgL z o p) M k) : Rest M' x y := fun k hx hy => by
 rw [hM, after_other (fun n _ e => ?_)]
 ·exact h k hx hy
 ·have := pre_key z n
  rw [← e] at this
  rcases hz with rfl | rfl
  ·rw [hx] at this; cases this
  ·rw [hy] at this; cases this
theorem row_key {M : List Rw} {x : Nat} {p : List Pg} (hs : Sorted M) (h : Holds M x p) {r : Rw} (hr : r ∈ M) (hk : preK (headB x) r.key = true) : ∃ n, n < 32 ∧ r.key = keyB x n ∧ r.val = find p n ∧ allZ (find p n) = false := by
 have hg : getR M r.key = some r.val := by rw [getR, findR_of hs hr]; rfl
 have hn : ∃ n, n < 32 ∧ r.key = keyB x n := by
  apply Decidable.byContradiction
  intro hno
  rw [h.only r.key hk (fun n hn e => hno ⟨n, hn, e⟩)] at hg
  cases hg
 obtain ⟨n, hn, e⟩ := hn
 rw [e, h.pages n hn] at hg
 cases hz : allZ (find p n) with
 | true => rw [hz, if_pos rfl] at hg; cases hg
 | false =>
  rw [hz, if_neg (by simp)] at hg
  injection hg with hg
  exact ⟨n, hn, e, hg.symm, hz⟩
theorem bb_cons (c : UInt8) (a b : List UInt8) : bytesBefore (c :: a) (c :: b) = bytesBefore a b := by
 have : ¬ c < c := UInt8.lt_irrefl c
 simp [bytesBefore, this]
theorem key_before {x n m : Nat} (hn : n < 256) (hm : m < 256) (h : bytesBefore (keyB x n) (keyB x m) = true) : n < m := by
 have e : ∀ k, keyB x k = 80 :: UInt8.ofNat (x / 16777216) :: UInt8.ofNat (x / 65536 % 256) :: UInt8.ofNat (x / 256 % 256) :: UInt8.ofNat (x % 256) :: 0 :: [UInt8.ofNat k] := fun k => rfl
 rw [e, e, bb_cons, bb_cons, bb_cons, bb_cons, bb_cons, bb_cons] at h
 simp only [bytesBefore, Bool.and_false, Bool.or_false, decide_eq_true_eq] at h
 have := UInt8.lt_iff_toNat_lt.1 h
 simpa [Nat.mod_eq_of_lt hn, Nat.mod_eq_of_lt hm] using this
theorem pgOf_key {x n : Nat} (hn : n < 32) (v : List UInt8) (g : Bool) : pgOf ⟨keyB x n, v, g⟩ = ⟨n, v⟩ := by
 have e : keyB x n = [80, UInt8.ofNat (x / 16777216), UInt8.ofNat (x / 65536 % 256), UInt8.ofNat (x / 256 % 256), UInt8.ofNat (x % 256), 0, UInt8.ofNat n] := rfl
 unfold pgOf
 rw [e]
 have : (UInt8.ofNat n).toNat = n := by simp; omega
 simp [this]
theorem Holds.load {N : Nat} {M : List Rw} {x : Nat} {p : List Pg} (hM : Good N M) (h : Holds M x p) (hp : right p = true) : ldOk (underL M (headB x)) = true ∧ ldL (underL M (headB x)) = p := by
 have hs := hM.sorted
 have hmem : ∀ q ∈ ldO (underL M (headB x)), ∃ r n, r ∈ M ∧ n < 32 ∧ r.key = keyB x n ∧ r.val = find p n ∧ allZ (find p n) = false ∧ q = ⟨n, find p n⟩ := fun q hq => by
  obtain ⟨c, hc, rfl⟩ := List.mem_map.1 hq
  obtain ⟨r, hr, rfl⟩ := List.mem_map.1 hc
  obtain ⟨h1, h2⟩ := List.mem_filter.1 hr
  obtain ⟨n, hn, e1, e2, e3⟩ := row_key hs h h1 h2
  refine ⟨r, n, h1, hn, e1, e2, e3, ?_⟩
  unfold chOf
  rw [e1, e2]
  exact pgOf_key hn _ _
 have hlen : ∀ n, (find p n).length = 32 := fun n => find_len p (-1) n hp
 have hright : right (ldO (underL M (headB x))) = true := by
  refine okP_of _ _ (fun q hq => ?_) ?_
  ·obtain ⟨r, n, _, hn, _, _, hz, rfl⟩ := hmem q hq
   exact ⟨by simp only; omega, by simp only; omega, hlen n, hz⟩
  ·unfold ldO underL
   rw [List.pairwise_map, List.pairwise_map]
   refine (hs.filter _).imp_of_mem ?_
   intro a b ha hb hab
   obtain ⟨a1, a2⟩ := List.mem_filter.1 ha
   obtain ⟨b1, b2⟩ := List.mem_filter.1 hb
   obtain ⟨n, hn, e1, e2, _⟩ := row_key hs h a1 a2
   obtain ⟨m, hm, e3, e4, _⟩ := row_key hs h b1 b2
   unfold chOf
   rw [e1, e3] at hab ⊢
   rw [pgOf_key hn, pgOf_key hm]
   have := key_before (by omega) (by omega) hab
   simp only
   omega
 have h7 : all7 (underL M (headB x)) = true := by
  unfold all7
  rw [List.all_eq_true]
  intro c hc
  obtain ⟨r, hr, rfl⟩ := List.mem_map.1 hc
  obtain ⟨h1, h2⟩ := List.mem_filter.1 hr
  obtain ⟨n, _, e1, _⟩ := row_key hs h h1 h2
  show (r.key.length == 7) = true
  rw [e1]
  rfl
 have hok : ldOk (underL M (headB x)) = true := by unfold ldOk; rw [h7, hright]; rfl
 refine ⟨hok, ?_⟩
 unfold ldL
 rw [if_pos hok]
 refine right_ext hright hp fun n hn => ?_
 cases hz : allZ (find p n) with
 | true =>
  rw [eq_zs32 hz (hlen n)]
  rcases find_mem (ldO (underL M (headB x))) n with h0 | ⟨q, hq, hqn, _⟩
  ·exact h0
  ·obtain ⟨r, m, _, hm, _, _, hzm, rfl⟩ := hmem q hq
   simp only at hqn
   have : m = n := by omega
   subst this
   rw [hz] at hzm
   cases hzm
 | false =>
  have hg := h.pages n hn
  rw [hz, if_neg (by simp), getR] at hg
  obtain ⟨r, hr, hv⟩ := Option.map_eq_some_iff.1 hg
  obtain ⟨hrm, hrk⟩ := findR_mem hr
  have hq : (⟨n, find p n⟩ : Pg) ∈ ldO (underL M (headB x)) := by
   refine List.mem_map.2 ⟨chOf r, List.mem_map.2 ⟨r, List.mem_filter.2 ⟨hrm, by rw [hrk]; exact pre_key x n⟩, rfl⟩, ?_⟩
   unfold chOf
   rw [hrk, hv]
   exact pgOf_key hn _ _
  exact find_of_mem _ _ _ n hright hq rfl
end Go.Proofs.YtmelaiefbpdifaaGreatDoor.Pgs
/- Load, by the program and by the document. -/
namespace Go.Proofs.YtmelaiefbpdifaaGreatDoor.Pgs
open Go.RowKit Go.Maps
theorem Rows5.under {w w1 : World} {F : List Nat} {rp mb lp p N c : Nat} {M : List Rw} (h : Rows5 w w1 F rp mb lp p N M c) (q : List UInt8) :
  Calls Tryz.prog 69 #[.pointer (some ⟨rp, 0, none⟩), .string (strOf q)] w1 fun e w' => ∃ v, e = .returned v ∧ NewEls chE 3 w1 w' v (underL M q) := by
 have hf := h.few
 obtain ⟨s, n, h5, _, hN, _, _, hM⟩ := h
 refine (under_any w1 rp mb lp M q h5.rows hM.sorted (by have := hM.length; omega)).mono ?_
 rintro e w' ⟨v, he, h1, _⟩
 exact ⟨v, he, h1⟩
def errL (b : Bool) : Int := if b then 0 else 25
theorem or_bytes (a b : Nat) (ha : a < 256) (hb : b < 256) : bits BinOp.or IntKind.i64 ((a : Int) * 256) (b : Int) = ((a * 256 + b : Nat) : Int) := by
 have e1 : (a : Int) * 256 = ((a * 256 : Nat) : Int) := by omega
 have h1 : (BitVec.ofInt 64 ((a * 256 : Nat) : Int)).toNat = a * 256 := by
  rw [BitVec.ofInt_natCast, BitVec.toNat_ofNat]; exact Nat.mod_eq_of_lt (by omega)
 have h2 : (BitVec.ofInt 64 (b : Int)).toNat = b := by
  rw [BitVec.ofInt_natCast, BitVec.toNat_ofNat]; exact Nat.mod_eq_of_lt (by omega)
 have h3 : a * 256 ||| b = a * 256 + b := by
  have := Nat.shiftLeft_add_eq_or_of_lt (b := b) (i := 8) (by omega) a
  rw [Nat.shiftLeft_eq] at this
  exact this.symm
 rw [e1]
 show IntKind.i64.wrap ((BitVec.ofInt 64 ((a * 256 : Nat) : Int) ||| BitVec.ofInt 64 (b : Int)).toNat : Int) = _
 rw [BitVec.toNat_or, h1, h2, h3, IntKind.wrap_i64]
 omega
theorem two_drop {k : List UInt8} (h : k.length = 7) : k.drop 5 = [k.getD 5 0, k.getD 6 0] := by
 match k, h with
 | [_, _, _, _, _, _, _], _ => rfl
theorem ld_take {U : List Ch} {k : Nat} (h : k < U.length) : ldO (U.take (k + 1)) = ldO (U.take k) ++ [pgOf U[k]] := by
 rw [List.take_add_one, List.getElem?_eq_getElem h]
 unfold ldO
 rw [List.map_append]
 rfl
set_option maxRecDepth 100000 in
set_option maxHeartbeats 2000000 in
theorem load_any {w w1 : World} {F : List Nat} {rp mb lp p N c : Nat} {M : List Rw} (h : Rows5 w w1 F rp mb lp p N M c) (x : Nat) (hx : x < 4294967296) :
  Calls Tryz.prog 68 #[.pointer (some ⟨rp, 0, none⟩), .int .u32 (x : Int)] w1 fun e w' => ∃ v, e = .returned (.tuple #[v, .int .i64 (errL (ldOk (underL M (headB x))))]) ∧ Mine pgE 2 138 w1 w' v (ldL (underL M (headB x))) := by
 have hlenM : (underL M (headB x)).length ≤ 1024 := by
  have h1 := h.good.length
  have h2 := h.few
  have h3 : (underL M (headB x)).length ≤ M.length := by unfold underL; rw [List.length_map]; exact List.length_filter_le _ _
  omega
 have hpre : ∀ c ∈ underL M (headB x), 5 ≤ c.key.length := fun c hc => by
  obtain ⟨r, hr, rfl⟩ := List.mem_map.1 hc
  have := (pre_iff.1 (List.mem_filter.1 hr).2).1
  exact this
 have hund := fun W (k : Only [] w1 W) => Rows5.under (h.keep k) (headB x)
 have hp := prefix_any w1 x hx
 have hhs : (strOf (headB x)).size = 5 := by rw [strOf_size]; rfl
 generalize strOf (headB x) = hd at *
 generalize hU : underL M (headB x) = U at *
 replace hU := Lib.hid hU
 replace hund := Lib.hid hund
 replace hpre := Lib.hid hpre
 have hz0 := (zero_of_info zero_body).1
 obtain ⟨Z, hZ⟩ : ∃ Z, Z = (byteVs (zs 1024)).toArray := ⟨_, rfl⟩
 rw [← hZ] at hz0
 have hZ3 : Z.size = 1024 := by rw [hZ]; simp [byteVs, zs]
 clear hZ h
 go_enter Tryz.func68, Tryz.ntmps68
 go_wp2_with fail
 refine hp.mono ?_; rintro e w2 ⟨rfl, k2⟩
 go_wp2_with fail
 refine (hund.out _ k2).mono ?_; rintro e w3 ⟨v, rfl, hne⟩
 obtain ⟨B, cb, rfl, hcb, hB, k3, _⟩ := hne
 have k13 := k2.trans k3
 obtain ⟨n, hn⟩ : ∃ n, n = U.length := ⟨_, rfl⟩
 rw [← hn] at hlenM hcb ⊢
 have HN := Lib.hid hn
 clear hn k2 k3 hp
 go_wp2_with fail
 go_loopw [6, 18] (fun v i wr => ∃ k : Nat, k ≤ n ∧ i = .int .i64 k ∧ Hid (∀ c ∈ U.take k, c.key.length = 7) ∧ Mine pgE 2 138 w3 wr v (ldO (U.take k))) (fun _ i _ => n - (intOf i).toNat)
 case atStart => exact ⟨0, Nat.zero_le _, rfl, fun c hc => by simp at hc, by rw [List.take_zero]; exact Mine.start _ _ _ (Only.refl [] w3)⟩
 case round =>
  obtain ⟨k, hk, rfl, h7, hmine⟩ := hrel
  by_cases hlt : k < n
  ·have hk' : k < U.length := by have := HN.out; omega
   obtain ⟨g, off, rfl, _, hat⟩ := hB.get hk'
   obtain ⟨c0, c1, c2⟩ := chs_at (hat.kept hmine.only (by simp)) hk'
   have hnext := ld_take hk'
   have h5 := hpre.out U[k] (List.getElem_mem hk')
   have hmem : U[k] ∈ U := List.getElem_mem hk'
   have hstep : U[k].key.length = 7 → Hid (∀ c ∈ U.take (k + 1), c.key.length = 7) := fun he c hc => by
    rw [List.take_add_one, List.getElem?_eq_getElem hk', List.mem_append] at hc
    rcases hc with hc | hc
    ·exact h7.out c hc
    ·simp at hc; rw [hc]; exact he
   have hL : (ldO (U.take k)).length ≤ 1024 := by unfold ldO; rw [List.length_map, List.length_take]; omega
   generalize U[k] = ch at *
   obtain ⟨ky, vl, gn⟩ := ch
   simp only at c0 c1 c2 h5 hstep
   have hfr := from_strOf (P := Tryz.prog) 9 Tryz.underlying9 ky 5 5 .i64 rfl h5
   have hsz := strOf_size (ky.drop 5)
   rw [List.length_drop] at hsz
   have hpg : pgOf ⟨ky, vl, gn⟩ = ⟨(((ky.getD 5 0).toNat * 256 + (ky.getD 6 0).toNat : Nat) : Int), vl⟩ := rfl
   rw [hpg] at hnext
   generalize ldO (U.take k) = L at *
   generalize hvs : strOf vl = vs at *
   generalize hks : strOf ky = ks at *
   replace hvs := Lib.hid hvs
   replace hks := Lib.hid hks
   clear hat hpg
   by_cases h7k : ky.length = 7
   ·have hst := hstep h7k
    rw [two_drop h7k] at hfr hsz
    have hns : (strOf [ky.getD 5 0, ky.getD 6 0]).size = 2 := by rw [strOf_size]; rfl
    have ix0 := index_strOf (P := Tryz.prog) 9 Tryz.underlying9 [ky.getD 5 0, ky.getD 6 0] 0 0 .i64 rfl (by simp)
    have ix1 := index_strOf (P := Tryz.prog) 9 Tryz.underlying9 [ky.getD 5 0, ky.getD 6 0] 1 1 .i64 rfl (by simp)
    have a256 := UInt8.toNat_lt (ky.getD 5 0)
    have b256 := UInt8.toNat_lt (ky.getD 6 0)
    have hor := or_bytes (ky.getD 5 0).toNat (ky.getD 6 0).toNat a256 b256
    change ∀ W : World, (Instr.index 9 (.string (strOf [ky.getD 5 0, ky.getD 6 0])) (.int .i64 0)).run Tryz.prog W = .ok (.int .u8 (((ky.getD 5 0).toNat : Nat) : Int)) W at ix0
    change ∀ W : World, (Instr.index 9 (.string (strOf [ky.getD 5 0, ky.getD 6 0])) (.int .i64 1)).run Tryz.prog W = .ok (.int .u8 (((ky.getD 6 0).toNat : Nat) : Int)) W at ix1
    clear hsz hstep
    generalize strOf [ky.getD 5 0, ky.getD 6 0] = ns at *
    generalize (ky.getD 5 0).toNat = a at *
    generalize (ky.getD 6 0).toNat = b at *
    have hwa : IntKind.i64.wrap (a : Int) = a := by rw [IntKind.wrap_i64]; omega
    have hwb : IntKind.i64.wrap (b : Int) = b := by rw [IntKind.wrap_i64]; omega
    have hwa2 : IntKind.i64.wrap ((a : Int) * 256) = (a : Int) * 256 := by rw [IntKind.wrap_i64]; omega
    replace h7k := Lib.hid h7k
    replace hnext := Lib.hid hnext
    have hlow := Lib.hid (mine_low hmine)
    go_wp2
    obtain ⟨W1, hW1⟩ : ∃ W1, W1 = wr.alloc (.cells #[.string ks, .string vs, .bool gn] 133) := ⟨_, rfl⟩
    rw [← hW1]
    have k1 : Only [] wr W1 := by rw [hW1]; exact (Only.refl [] wr).alloc _
    have p1 : Blk W1 wr.heap.size 133 #[.string ks, .string vs, .bool gn] := by rw [hW1]; exact Blk.new wr _ _
    have e1 := p1.cell 1
    simp only [List.getElem?_toArray, List.getElem?_cons_zero, List.getElem?_cons_succ] at e1
    obtain ⟨q, hq⟩ : ∃ q, q = wr.heap.size := ⟨_, rfl⟩
    rw [← hq] at e1 ⊢
    have hm1 := hmine.keep k1.drew
    have e2 := (Only.refl [] W1).drew.cell e1 (by simp)
    replace hq := Lib.hid hq
    replace hW1 := Lib.hid hW1
    clear c0 c1 c2 p1 k1 e1 hmine
    refine wp_region_held_drew (S := fun w' => w'.cell? ⟨q, 1, none⟩ = some (.string vs)) (by kernel_rfl) e2 (fun hHeld => ?_)
    generalize W1.drew = wd at *
    refine rwT 0 (u6) hHeld ?_; simp only [rwA]
    refine rwT 1 (.string ns) hHeld ?_; simp only [rwA]
    refine rwY 2 (.int .u8 (a : Int)) hHeld ?_ (hy := Or.inl ⟨by rfl, fun w' hSw => (by have i0 := ix0; go_simp)⟩); simp only [rwA]
    refine rwT 3 (.int .i64 (a : Int)) hHeld ?_; simp only [rwA]
    refine rwT 4 (.int .i64 ((a : Int) * 256)) hHeld ?_; simp only [rwA]
    refine rwT 5 (.string ns) hHeld ?_; simp only [rwA]
    refine rwY 6 (.int .u8 (b : Int)) hHeld ?_ (hy := Or.inl ⟨by rfl, fun w' hSw => (by have i1 := ix1; go_simp)⟩); simp only [rwA]
    refine rwT 7 (.int .i64 (b : Int)) hHeld ?_; simp only [rwA]
    refine rwT 8 (.int .i64 ((a * 256 + b : Nat) : Int)) hHeld ?_; simp only [rwA]
    refine rwT 9 (.pointer (some ⟨q, 1, none⟩)) hHeld ?_; simp only [rwA]
    refine rwY 10 (.string vs) hHeld ?_ (hy := Or.inl ⟨by rfl, fun w' hSw => (by have hc := hSw; go_simp)⟩); simp only [rwA]
    refine rwT 11 (.agg #[.int .i64 ((a * 256 + b : Nat) : Int), .string vs]) hHeld ?_; simp only [rwA]
    refine held_step 12 rfl (by kernel_rfl) (fun K hK => ?_)
    go_simp
    have k7 : Only [] wd (wd.alloc (.cells #[.int .i64 ((a * 256 + b : Nat) : Int), .string vs] 138)) := (Only.refl [] wd).alloc _
    have e7 := k7.cell e2 (by simp)
    have hm7 := hm1.keep k7
    have b7 : Blk (wd.alloc (.cells #[.int .i64 ((a * 256 + b : Nat) : Int), .string vs] 138)) wd.heap.size 138 (pgE ⟨((a * 256 + b : Nat) : Int), vl⟩).toArray := by
     have := Blk.new wd 138 (pgE ⟨((a * 256 + b : Nat) : Int), vl⟩).toArray
     simp only [pgE, hvs.out] at this ⊢
     exact this
    go_wp2_with fail
    refine hK.out _ _ e7 (fun hHeld => ?_)
    clear hK K
    refine held_step 13 rfl (by kernel_rfl) (fun K hK => ?_)
    refine step_push rfl _ _ 57 rfl 138 _ 24 pgE_length (by decide) pgE_one Tryz.underlying57 info_pg rfl u6 L.length L rfl hm7.own wd.heap.size ⟨((a * 256 + b : Nat) : Int), vl⟩ _ rfl b7 (by unfold maxLen; omega) (by omega) ?_
    intro vv w8 h8 g8 a8
    have hm8 := hm7.pushed h8 g8 a8
    have r8 : w8.cell? ⟨q, 1, none⟩ = some (.string vs) := (only_own g8).cell e7 (by
     intro hqm
     have h1 := hlow.out q (by simpa using hqm)
     have h2 := hq.out
     omega)
    go_wp2_with fail
    refine hK.out _ _ r8 (fun hHeld => ?_)
    clear hK K
    refine held_step 14 rfl (by kernel_rfl) (fun K hK => ?_)
    go_simp
    go_wp2_with fail
    refine hK.out _ _ r8 (fun hHeld => ?_)
    clear hK K
    refine wpAnyH_done (by kernel_rfl) ?_ _
    clear hHeld
    rw [← hnext.out] at hm8
    replace hm8 := Lib.hid hm8
    clear hm7 hm1 b7 h8 g8 a8 e2 e7 r8
    go_wp2
    go_roundw
    case rel => exact ⟨k + 1, by omega, by go_num, hst, hm8.out⟩
    case measure => simp [intOf]; omega
   ·have hbad : ldOk U = false := by
     unfold ldOk
     rw [Bool.and_eq_false_iff]
     refine .inl ?_
     apply Bool.eq_false_iff.2
     intro h
     unfold all7 at h
     rw [List.all_eq_true] at h
     have := h _ hmem
     simp only [beq_iff_eq] at this
     exact h7k this
    have hbl : ldL U = [] := by unfold ldL; rw [hbad]; rfl
    replace hbad := Lib.hid hbad
    replace hbl := Lib.hid hbl
    have hne : ¬ ((strOf (ky.drop 5)).size : Int) = 2 := by omega
    generalize strOf (ky.drop 5) = ns at *
    have hfin := Lib.hid (k13.trans (hmine.only.alloc (.cells #[.string ks, .string vs, .bool gn] 133)))
    clear hstep hsz hmine
    replace h7k := Lib.hid h7k
    go_wp2
    go_ret2
    exact ⟨_, by rw [hbad.out]; rfl, by rw [hbl.out]; exact Mine.start _ _ _ hfin.out⟩
  ·have hkn : U.take k = U := List.take_of_length_le (by have := HN.out; omega)
   rw [hkn] at hmine h7
   have h77 : all7 U = true := by
    unfold all7
    rw [List.all_eq_true]
    intro c hc
    simpa using h7.out c hc
   obtain ⟨A, ca, rfl, hA, _, _⟩ := mine_shape hmine
   have k3r := hmine.only
   have hok : ldOk U = right (ldO U) := by unfold ldOk; rw [h77]; rfl
   have hll : ldOk U = true → ldL U = ldO U := fun h => by unfold ldL; rw [if_pos h]
   have hl0 : ldOk U = false → ldL U = [] := fun h => by unfold ldL; rw [h]; rfl
   generalize hO : ldO U = O at *
   replace hO := Lib.hid hO
   obtain ⟨m, hm⟩ : ∃ m, m = O.length := ⟨_, rfl⟩
   have hm1024 : m ≤ 1024 := by rw [hm, ← hO.out]; unfold ldO; rw [List.length_map]; have := HN.out; omega
   have g1 := right_any wr A ca m O hm hA (by omega)
   rw [← hm]
   replace hll := Lib.hid hll
   replace hl0 := Lib.hid hl0
   replace hok := Lib.hid hok
   clear hmine hB h7 hkn h77
   cases hr : right O with
   | false =>
    have hbad := Lib.hid (hok.out.trans hr)
    have hbl := Lib.hid (hl0.out hbad.out)
    rw [hr] at g1
    replace hm := Lib.hid hm
    replace hr := Lib.hid hr
    go_wp2_with fail
    refine g1.mono ?_; rintro e w5 ⟨rfl, k5⟩
    have hfin := Lib.hid ((k13.trans k3r).trans k5)
    clear k5 k3r k13
    go_wp2
    go_ret2
    exact ⟨_, by rw [hbad.out]; rfl, by rw [hbl.out]; exact Mine.start _ _ _ hfin.out⟩
   | true =>
    have hgood := Lib.hid (hok.out.trans hr)
    have hgl := Lib.hid (hll.out hgood.out)
    have g2 := fun W (h : Els pgE 2 W A O) => spread_any W A ca m O hm h hr
    have hbl := body_len hr
    have hpb := pages_body hr
    rw [hr] at g1
    replace hm := Lib.hid hm
    replace hr := Lib.hid hr
    generalize body O = b at *
    obtain ⟨C, hC⟩ : ∃ C, C = (byteVs b).toArray := ⟨_, rfl⟩
    have hone : C.all (·.oneCell') = true := by rw [hC]; exact one_bytes b
    have hC3 : C.size = 1024 := by rw [hC]; simp [byteVs, hbl]
    rw [← hC] at g2
    have hs1 : (Tryz.prog.info? 146).map (·.size) = some C.size := by rw [hC3]; exact size_body
    have hs2 : Z.size = C.size := hZ3.trans hC3.symm
    replace hs1 := Lib.hid hs1
    replace hs2 := Lib.hid hs2
    replace hone := Lib.hid hone
    replace hC3 := Lib.hid hC3
    replace hC := Lib.hid hC
    replace hbl := Lib.hid hbl
    replace hpb := Lib.hid hpb
    replace g2 := Lib.hid g2
    go_wp2_with fail
    refine g1.mono ?_; rintro e w5 ⟨rfl, k5⟩
    go_wp2_with fail
    refine (g2.out _ (hA.kept k5 (by simp))).mono ?_; rintro e w6 ⟨rfl, k6⟩
    have k16 := ((k13.trans k3r).trans k5).trans k6
    clear k5 k6 k3r k13 hA
    go_wp2_with (refine wpList_store_whole rfl 146 (.tmp 11) (.tmp 49) rfl w6.heap.size Z C rfl rfl (Blk.new w6 _ _) hs1.out hs2.out hone.out ?_; intro w7 h7 k7)
    have hbb : BodyB w7 w6.heap.size b := ⟨by rw [hC.out] at h7; exact h7, hbl.out⟩
    have k17 := Lib.hid (k16.trans (((Only.refl [] w6).alloc (.cells Z 146)).then k7 (by simp)))
    replace hbb := Lib.hid hbb
    clear h7 k7 k16
    refine (pages_any _ _ _ hbb.out).mono ?_; rintro e w8 ⟨v, rfl, hm8⟩
    rw [hpb.out] at hm8
    have hfin := Lib.hid (Mine.from k17.out hm8)
    clear hm8
    go_wp2
    go_ret2
    exact ⟨v, by rw [hgood.out]; rfl, by rw [hgl.out]; exact hfin.out⟩
end Go.Proofs.YtmelaiefbpdifaaGreatDoor.Pgs
