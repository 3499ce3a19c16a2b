/- Put, Cut, Length. -/
import Derived.Test.YtchlcmgdfbabdaaGreatDoorFun7
namespace Go.Proofs.YtchlcmgdfbabdaaGreatDoor.Pgs
open Go.RowKit

section
variable (w : World) (A : Option Addr) (c n : Nat) (o : List Pg) (hn : n = o.length) (hA : Els pgE 2 w A o) (hl : n ≤ 9223372036854775807)
include hn hA hl

theorem put_no (off : Int) (d : List UInt8) (hd : d.length ≤ 1048576) (h : ¬ (right o = true ∧ inB off d.length = true)) :
    Calls Tryz.prog 15 #[.slice A n c, .int .i64 off, .string (strOf d)] w fun e w' => e = .returned (.tuple #[.slice none 0 0, .int .i64 1]) ∧ Only [] w w' := by
  have h1 := fun W (h : Els pgE 2 W A o) => right_any W A c n o hn h hl
  have h2 := fun W => within_any W off d.length (by omega)
  cases hr : right o with
  | false =>
    rw [hr] at h1
    clear h hn
    go_enter Tryz.func15, Tryz.ntmps15
    go_wp2_with fail
    refine (h1 _ hA).mono ?_; rintro e w1 ⟨rfl, k1⟩
    go_wp2
    go_ret2
    exact ⟨rfl, k1⟩
  | true =>
    have hi : inB off d.length = false := by
      cases hb : inB off d.length with
      | false => rfl
      | true => exact (h ⟨hr, hb⟩).elim
    rw [hi] at h2
    have hsz := strOf_size d
    have hsz' : ((strOf d).size : Int) = d.length := by omega
    generalize strOf d = s at *
    generalize (d.length : Int) = dl at *
    clear hsz
    rw [hr] at h1
    clear h hn
    go_enter Tryz.func15, Tryz.ntmps15
    go_wp2_with fail
    refine (h1 _ hA).mono ?_; rintro e w1 ⟨rfl, k1⟩
    go_wp2_with fail
    refine (h2 _).mono ?_; rintro e w2 ⟨rfl, rfl⟩
    go_wp2
    go_ret2
    exact ⟨rfl, k1⟩

theorem cut_no (size : Int) (h : ¬ (right o = true ∧ 0 ≤ size)) :
    Calls Tryz.prog 16 #[.slice A n c, .int .i64 size] w fun e w' => e = .returned (.tuple #[.slice none 0 0, .int .i64 1]) ∧ Only [] w w' := by
  have h1 := fun W (h : Els pgE 2 W A o) => right_any W A c n o hn h hl
  cases hr : right o with
  | false =>
    rw [hr] at h1
    clear h hn
    go_enter Tryz.func16, Tryz.ntmps16
    go_wp2_with fail
    refine (h1 _ hA).mono ?_; rintro e w1 ⟨rfl, k1⟩
    go_wp2
    go_ret2
    exact ⟨rfl, k1⟩
  | true =>
    have hi : decide (size < 0) = true := decide_eq_true (by
      have : ¬ 0 ≤ size := fun h0 => h ⟨hr, h0⟩
      omega)
    rw [hr] at h1
    clear h hn
    go_enter Tryz.func16, Tryz.ntmps16
    go_wp2_with fail
    refine (h1 _ hA).mono ?_; rintro e w1 ⟨rfl, k1⟩
    go_wp2
    go_ret2
    exact ⟨rfl, k1⟩

set_option maxRecDepth 100000 in
theorem put_ok (p : Nat) (off : Int) (d : List UInt8) (ho : off = p) (hr : right o = true) (hb : p + d.length ≤ 1024) :
    Calls Tryz.prog 15 #[.slice A n c, .int .i64 off, .string (strOf d)] w fun e w' => ∃ v, e = .returned (.tuple #[v, .int .i64 0]) ∧ Mine pgE 2 69 w w' v (pages (lay (body o) p d)) := by
  have h1 := fun W (h : Els pgE 2 W A o) => right_any W A c n o hn h hl
  have h2 := fun W => within_any W off d.length (by omega)
  have h3 := fun W (h : Els pgE 2 W A o) => spread_any W A c n o hn h hr
  have hbl := body_len hr
  rw [hr] at h1
  rw [inB_of (by omega) (by omega) (by omega)] at h2
  have hz0 := (zero_of_info zero_body).1
  obtain ⟨Z, hZ⟩ : ∃ Z, Z = (byteVs (zs 1024)).toArray := ⟨_, rfl⟩
  rw [← hZ] at hz0
  have hZ3 : Z.size = 1024 := by rw [hZ]; simp [byteVs, zs]
  clear hZ hn hr
  generalize body o = b at *
  obtain ⟨C, hC⟩ : ∃ C, C = (byteVs b).toArray := ⟨_, rfl⟩
  have hone : C.all (·.oneCell') = true := by rw [hC]; exact one_bytes b
  have hC3 : C.size = 1024 := by rw [hC]; simp [byteVs, hbl]
  rw [← hC] at h3
  have hs1 : (Tryz.prog.info? 71).map (·.size) = some C.size := by rw [hC3]; exact size_body
  have hs2 : Z.size = C.size := hZ3.trans hC3.symm
  have hll : (lay b p d).length = 1024 := by rw [lay_len (by omega)]; exact hbl
  have hsz := strOf_size d
  have hsz' : ((strOf d).size : Int) = d.length := by omega
  obtain ⟨s, hs⟩ : ∃ s, s = strOf d := ⟨_, rfl⟩
  rw [← hs] at hsz'
  rw [← hs]
  obtain ⟨dl, hdl⟩ : ∃ dl : Int, dl = (d.length : Int) := ⟨_, rfl⟩
  rw [← hdl] at hsz' h2
  have o0 : 0 ≤ off := by omega
  have o1 : off ≤ 1024 := by omega
  clear hsz
  replace hs1 := Lib.hid hs1
  replace hs2 := Lib.hid hs2
  replace hone := Lib.hid hone
  replace hC3 := Lib.hid hC3
  replace hC := Lib.hid hC
  replace hbl := Lib.hid hbl
  replace ho := Lib.hid ho
  replace hs := Lib.hid hs
  replace hdl := Lib.hid hdl
  replace hll := Lib.hid hll
  have H3 := Lib.hid h3
  clear h3
  go_enter Tryz.func15, Tryz.ntmps15
  go_wp2_with fail
  refine (h1 _ hA).mono ?_; rintro e w1 ⟨rfl, k1⟩
  go_wp2_with fail
  refine (h2 _).mono ?_; rintro e w2 ⟨rfl, rfl⟩
  go_wp2_with fail
  refine (H3.out _ (hA.kept k1 (by simp))).mono ?_; rintro e w3 ⟨rfl, k3⟩
  have k4 := k1.trans k3
  obtain ⟨off', ho1, ho2, hsl⟩ := body_from w3.heap.size p off ho.out (by omega)
  have ho3 : d ≠ [] → off' = p := fun h => ho1 (by have := List.length_pos_iff.2 h; omega)
  have ho4 : off' + d.length ≤ 1024 := by omega
  replace ho3 := Lib.hid ho3
  replace ho4 := Lib.hid ho4
  clear k1 k3 ho1 ho2
  go_wp2_with (first
    | (refine wpList_store_whole rfl 71 (.tmp 8) (.tmp 20) rfl w3.heap.size Z C rfl rfl (Blk.new w3 _ _) hs1.out hs2.out hone.out ?_; intro w4 h4 k5)
    | (refine wpList_copy_text rfl (.tmp 22) (.tmp 23) 88 9 rfl 5 Tryz.underlying88 (by kernel_rfl) w3.heap.size p off' (1024 - p) (1024 - p) d rfl (by rw [← hs.out]; rfl) b 71 (by rw [hC.out] at h4; exact h4) (by omega) ho3.out (by rw [hbl.out]; exact hb) (by rw [hbl.out]; exact ho4.out) ?_; intro w6 h6 k6))
  have k7 : Only [] w w6 := ((k4.alloc (.cells Z 71)).then k5 (by
    intro i hi
    simp at hi
    subst hi
    exact .inr k4.size)).then k6 (by
    intro i hi
    simp at hi
    subst hi
    exact .inr k4.size)
  replace k7 := Lib.hid k7
  have hbb : BodyB w6 w3.heap.size (lay b p d) := ⟨h6, hll.out⟩
  replace hbb := Lib.hid hbb
  clear h4 k5 h6 k6
  go_wp2_with fail
  refine (pages_any _ _ _ hbb.out).mono ?_; rintro e w7 ⟨v, rfl, hm⟩
  have hm' := Mine.from k7.out hm
  replace hm' := Lib.hid hm'
  clear hm
  go_wp2
  go_ret2
  exact ⟨v, rfl, hm'.out⟩

set_option maxRecDepth 100000 in
theorem cut_ok (m : Nat) (size : Int) (hm : (m : Int) = min size 1024) (h0 : 0 ≤ size) (hr : right o = true) :
    Calls Tryz.prog 16 #[.slice A n c, .int .i64 size] w fun e w' => ∃ v, e = .returned (.tuple #[v, .int .i64 0]) ∧ Mine pgE 2 69 w w' v (pages (cutB (body o) m)) := by
  have h1 := fun W (h : Els pgE 2 W A o) => right_any W A c n o hn h hl
  have h3 := fun W (h : Els pgE 2 W A o) => spread_any W A c n o hn h hr
  have hbl := body_len hr
  rw [hr] at h1
  have hz0 := (zero_of_info zero_body).1
  obtain ⟨Z, hZ⟩ : ∃ Z, Z = (byteVs (zs 1024)).toArray := ⟨_, rfl⟩
  rw [← hZ] at hz0
  have hZ3 : Z.size = 1024 := by rw [hZ]; simp [byteVs, zs]
  clear hZ hn hr
  generalize body o = b at *
  obtain ⟨C, hC⟩ : ∃ C, C = (byteVs b).toArray := ⟨_, rfl⟩
  have hone : C.all (·.oneCell') = true := by rw [hC]; exact one_bytes b
  have hC3 : C.size = 1024 := by rw [hC]; simp [byteVs, hbl]
  rw [← hC] at h3
  have hs1 : (Tryz.prog.info? 71).map (·.size) = some C.size := by rw [hC3]; exact size_body
  have hs2 : Z.size = C.size := hZ3.trans hC3.symm
  have hm1 : m ≤ 1024 := by omega
  have hll : (cutB b m).length = 1024 := cutB_len hbl hm1
  have hneg : decide (size < 0) = false := decide_eq_false (by omega)
  replace hs1 := Lib.hid hs1
  replace hs2 := Lib.hid hs2
  replace hone := Lib.hid hone
  replace hC3 := Lib.hid hC3
  replace hC := Lib.hid hC
  replace hbl := Lib.hid hbl
  replace hll := Lib.hid hll
  have H3 := Lib.hid h3
  clear h3
  have hmz : (size ≤ 1024 ∧ (m : Int) = size) ∨ (¬ size ≤ 1024 ∧ (m : Int) = 1024) := by omega
  replace hm := Lib.hid hm
  rcases hmz with ⟨hc, hmz⟩ | ⟨hc, hmz⟩
  all_goals
    have hmn : min size 1024 = _ := hm.out.symm.trans hmz
    replace hmz := Lib.hid hmz
    go_enter Tryz.func16, Tryz.ntmps16
    go_wp2_with fail
    refine (h1 _ hA).mono ?_; rintro e w1 ⟨rfl, k1⟩
    go_wp2_with fail
    refine (H3.out _ (hA.kept k1 (by simp))).mono ?_; rintro e w3 ⟨rfl, k3⟩
    have k4 := k1.trans k3
    obtain ⟨off', ho1, ho2, hsl⟩ := body_from w3.heap.size m _ hmz.out.symm hm1
    have ho3 : 1024 - m ≠ 0 → off' = m := fun h => ho1 (by omega)
    replace ho3 := Lib.hid ho3
    clear k1 k3 ho1 ho2
    go_wp2_with (first
      | (refine wpList_store_whole rfl 71 (.tmp 6) (.tmp 15) rfl w3.heap.size Z C rfl rfl (Blk.new w3 _ _) hs1.out hs2.out hone.out ?_; intro w4 h4 k5)
      | (refine wpList_clear rfl (.tmp 18) 88 rfl 5 Tryz.underlying88 Tryz.zeroValue5 w3.heap.size m off' (1024 - m) (1024 - m) rfl b 71 (by rw [hC.out] at h4; exact h4) hbl.out (by omega) ho3.out ?_; intro w6 h6 k6))
    have k7 : Only [] w w6 := ((k4.alloc (.cells Z 71)).then k5 (by
      intro i hi
      simp at hi
      subst hi
      exact .inr k4.size)).then k6 (by
      intro i hi
      simp at hi
      subst hi
      exact .inr k4.size)
    replace k7 := Lib.hid k7
    have hbb : BodyB w6 w3.heap.size (cutB b m) := ⟨h6, hll.out⟩
    replace hbb := Lib.hid hbb
    clear h4 k5 h6 k6
    go_wp2_with fail
    refine (pages_any _ _ _ hbb.out).mono ?_; rintro e w7 ⟨v, rfl, hm⟩
    have hm' := Mine.from k7.out hm
    replace hm' := Lib.hid hm'
    clear hm
    go_wp2
    go_ret2
    exact ⟨v, rfl, hm'.out⟩

theorem length_no (h : right o = false) :
    Calls Tryz.prog 17 #[.slice A n c] w fun e w' => e = .returned (.tuple #[.int .i64 0, .int .i64 1]) ∧ Only [] w w' := by
  have h1 := fun W (h : Els pgE 2 W A o) => right_any W A c n o hn h hl
  rw [h] at h1
  clear h hn
  go_enter Tryz.func17, Tryz.ntmps17
  go_wp2_with fail
  refine (h1 _ hA).mono ?_; rintro e w1 ⟨rfl, k1⟩
  go_wp2
  go_ret2
  exact ⟨rfl, k1⟩

set_option maxRecDepth 100000 in
theorem length_ok (hr : right o = true) :
    Calls Tryz.prog 17 #[.slice A n c] w fun e w' => ∃ L : Nat, e = .returned (.tuple #[.int .i64 (L : Int), .int .i64 0]) ∧ IsEnd (body o) L ∧ Only [] w w' := by
  have h1 := fun W (h : Els pgE 2 W A o) => right_any W A c n o hn h hl
  rw [hr] at h1
  rcases List.eq_nil_or_concat o with rfl | ⟨q, p, rfl⟩
  · have hend := length_nil
    have hn0 : n = 0 := by simpa using hn
    subst hn0
    clear hn hr
    replace hend := Lib.hid hend
    go_enter Tryz.func17, Tryz.ntmps17
    go_wp2_with fail
    refine (h1 _ hA).mono ?_; rintro e w1 ⟨rfl, k1⟩
    go_wp2
    go_ret2
    exact ⟨0, rfl, hend.out, k1⟩
  · rw [List.concat_eq_append] at *
    have hend := length_last hr
    obtain ⟨m0, m1, m2, _⟩ := okP_mem _ _ hr p (by simp)
    have hn0 : n = q.length + 1 := by simpa using hn
    obtain ⟨g, off, rfl, _, hat⟩ := hA.get (i := q.length) (by simp)
    have hpq : (q ++ [p])[q.length]'(by simp) = p := by simp
    have hcells : ∀ W, Only [] w W → W.cell? ⟨g, off + q.length * 2, none⟩ = some (.int .i64 p.n) ∧ W.cell? ⟨g, off + q.length * 2 + 1, none⟩ = some (.string (strOf p.d)) := fun W k => by
      have := pgs_at (hat.kept k (by simp)) (i := q.length) (by simp)
      rw [hpq] at this
      exact this
    have h4 := fun W => trimR_any W p.d (by omega)
    obtain ⟨N, d⟩ := p
    simp only at hcells h4 hend m0 m1 m2
    obtain ⟨m, rfl⟩ : ∃ m : Nat, N = m := ⟨N.toNat, by omega⟩
    rw [Int.toNat_natCast] at hend
    have hrl : (rtrim d).length ≤ 32 := by have := rtrim_length d; omega
    have hrs := strOf_size (rtrim d)
    clear hat hpq
    generalize hj : q.length = j at *
    replace hj := Lib.hid hj
    subst hn0
    have hcast : ((j + 1 : Nat) : Int) = (j : Int) + 1 := by omega
    have hm32 : m < 32 := by omega
    have hjl : j < 32 := by have := right_len hr; simp at this; have := hj.out; omega
    clear hn hr m0 m1 m2 hl
    obtain ⟨r, hrr⟩ : ∃ r, r = (rtrim d).length := ⟨_, rfl⟩
    rw [← hrr] at hend hrl hrs
    replace hrr := Lib.hid hrr
    have hwr : IntKind.i64.wrap ((m : Int) * 32) = (m : Int) * 32 := by rw [IntKind.wrap_i64]; omega
    have hwr2 : IntKind.i64.wrap ((m : Int) * 32 + (r : Int)) = (m : Int) * 32 + (r : Int) := by rw [IntKind.wrap_i64]; omega
    have hwj : IntKind.i64.wrap ((j : Int) + 1 - 1) = (j : Int) := by rw [IntKind.wrap_i64]; omega
    have hfin : (((m * 32 + r : Nat) : Nat) : Int) = (m : Int) * 32 + (r : Int) := by omega
    generalize strOf (rtrim d) = R at *
    generalize strOf d = s at *
    replace hend := Lib.hid hend
    replace hcells := Lib.hid hcells
    replace hfin := Lib.hid hfin
    go_enter Tryz.func17, Tryz.ntmps17
    go_wp2_with fail
    refine (h1 _ hA).mono ?_; rintro e w1 ⟨rfl, k1⟩
    obtain ⟨c0, c1⟩ := hcells.out w1 k1
    clear hcast
    go_wp2_with fail
    go_quiet ((with_reducible refine Calls.quiet_of_same (h4 _)))
    go_wp2
    go_ret2
    exact ⟨m * 32 + r, by rw [hfin.out]; rfl, hend.out, (k1.alloc _).drewN _⟩
end

end Go.Proofs.YtchlcmgdfbabdaaGreatDoor.Pgs
