/- pages: the object that has a body's bytes. -/
import Derived.Test.YtchlcmgdfbabdaaGreatDoorBody7
import Derived.Deep.DeepMust
namespace Go.Proofs.YtchlcmgdfbabdaaGreatDoor.Pgs
open Go.RowKit

theorem BodyB.kept {S : List Nat} {w w' : World} {g : Nat} {b : List UInt8} (h : BodyB w g b) (k : Only S w w') (hg : g ∉ S) : BodyB w' g b := ⟨h.1.kept k hg, h.2⟩
theorem bytes_of_blk {w : World} {g : Nat} {t : TypeId} {b : List UInt8} (h : Blk w g t (byteVs b).toArray) : BytesAt w g 0 b := fun j hj => by
  rw [Nat.zero_add, h.cell]
  simp [byteVs, List.getElem?_eq_getElem hj]
theorem pagesF_yes {f : Nat → List UInt8} {k : Nat} (h : allZ (f k) = true) : pagesF f (k + 1) = pagesF f k := by rw [pagesF, if_pos h]
theorem pagesF_no {f : Nat → List UInt8} {k : Nat} (h : allZ (f k) = false) : pagesF f (k + 1) = pagesF f k ++ [⟨k, f k⟩] := by rw [pagesF, if_neg (by simp [h])]
theorem eq_beq {l m : List UInt8} (h : l = m) : (l == m) = true := by simpa using h
theorem eq_not {l m : List UInt8} (h : ¬ l = m) : (l == m) = false := by simpa using h
theorem guard_page : Tryz.prog.eqGuardType Tryz.prog.depth 86 = false := by kernel_rfl
theorem array_page : Tryz.prog.underlying 86 = some (.array 32 5) := Tryz.underlying86
theorem kind_byte : Tryz.prog.underlying 5 = some (.int .u8) := Tryz.underlying5

set_option maxRecDepth 100000 in
set_option maxHeartbeats 1000000 in
theorem pages_any (w : World) (g : Nat) (b : List UInt8) (hb : BodyB w g b) :
    Calls Tryz.prog 25 #[.pointer (some ⟨g, 0, none⟩)] w fun e w' => ∃ v, e = .returned v ∧ Mine pgE 2 69 w w' v (pages b) := by
  have hz0 := (zero_of_info zero_page).1
  obtain ⟨Z, hZ⟩ : ∃ Z, Z = (byteVs (zs 32)).toArray := ⟨_, rfl⟩
  rw [← hZ] at hz0
  have hZ3 : Z.size = 32 := by rw [hZ]; simp [byteVs, zs]
  replace hZ := Lib.hid hZ
  replace hZ3 := Lib.hid hZ3
  go_enter Tryz.func25, Tryz.ntmps25
  go_wp2_with fail
  go_loopw [3, 6] (fun v i wr => ∃ k : Nat, k ≤ 32 ∧ i = .int .i64 k ∧ Mine pgE 2 69 w wr v (pagesF (chunk b) k)) (fun _ i _ => 32 - (intOf i).toNat)
  case atStart => exact ⟨0, by omega, rfl, Mine.start _ _ _ (Only.refl [] w)⟩
  case round =>
    obtain ⟨k, hk, rfl, hm⟩ := hrel
    by_cases hlt : k < 32
    · have hbr : BodyB wr g b := hb.kept hm.only (by simp)
      have hcl := chunk_len hb.2 hlt
      have hyes := fun h => pagesF_yes (f := chunk b) (k := k) h
      have hno := fun h => pagesF_no (f := chunk b) (k := k) h
      have hpl := pagesF_len (chunk b) k
      have hcall := fun W (h : BodyB W g b) => page_any W g k b h hlt
      generalize chunk b k = c at *
      generalize hL : pagesF (chunk b) k = L at *
      replace hL := Lib.hid hL
      replace hyes := Lib.hid hyes
      replace hno := Lib.hid hno
      replace hcall := Lib.hid hcall
      replace hbr := Lib.hid hbr
      go_wp2_with fail
      refine (hcall.out _ hbr.out).mono ?_; rintro e w1 ⟨rfl, k1⟩
      have hm1 := hm.keep k1
      obtain ⟨C, hC⟩ : ∃ C, C = (byteVs c).toArray := ⟨_, rfl⟩
      have hone : C.all (·.oneCell') = true := by rw [hC]; exact one_bytes c
      have hC3 : C.size = 32 := by rw [hC]; simp [byteVs, hcl]
      rw [← hC]
      have hs1 : (Tryz.prog.info? 86).map (·.size) = some C.size := by rw [hC3]; exact size_page
      have hs2 : Z.size = C.size := hZ3.out.trans hC3.symm
      replace hs1 := Lib.hid hs1
      replace hs2 := Lib.hid hs2
      replace hone := Lib.hid hone
      replace hC3 := Lib.hid hC3
      replace hC := Lib.hid hC
      replace hcl := Lib.hid hcl
      clear hm k1 hb
      by_cases hz : allZ c = true
      · have hr : Hid ((!(c == zs 32)) = false) := by
          show (!(c == zs 32)) = false
          rw [eq_beq (eq_zs32 hz hcl.out)]
          rfl
        have hnext := Lib.hid (hyes.out hz)
        replace hz := Lib.hid hz
        go_wp2_with (first
          | (refine wpList_store_whole rfl 86 (.tmp 5) (.tmp 11) rfl w1.heap.size Z C rfl rfl (Blk.new w1 _ _) hs1.out hs2.out hone.out ?_; intro w2 h2 k2)
          | (refine wpList_load_mid rfl 86 (.tmp 5) rfl w1.heap.size 0 rfl (byteVs c) _ (by rw [hC.out] at h2; exact Blk.range h2) Tryz.underlying86 rfl (by rw [byteVs_length, hcl.out]; exact size_page) ?_)
          | (refine wpList_neq_page rfl (.tmp 12) (.tmp 13) 86 5 _ rfl guard_page array_page kind_byte Tryz.sizeOf5 c (zs 32) (byteVs c).toArray Z false rfl rfl rfl hZ.out hcl.out (zs_length 32) hr.out ?_))
        have hm2 := hm1.keep (((Only.refl [] w1).alloc (.cells Z 86)).then k2 (by simp))
        rw [← hnext.out] at hm2
        replace hm2 := Lib.hid hm2
        clear hm1 h2 k2
        go_wp2
        go_roundw
        case rel => exact ⟨k + 1, by omega, by go_num, hm2.out⟩
        case measure => simp [intOf]; omega
      · have hz' : allZ c = false := by simpa using hz
        have hr : Hid ((!(c == zs 32)) = true) := by
          show (!(c == zs 32)) = true
          rw [eq_not (fun h => hz (by rw [h]; exact allZ_zs 32))]
          rfl
        have hnext := Lib.hid (hno.out hz')
        replace hz := Lib.hid hz
        replace hz' := Lib.hid hz'
        go_wp2_with (first
          | (refine wpList_store_whole rfl 86 (.tmp 5) (.tmp 11) rfl w1.heap.size Z C rfl rfl (Blk.new w1 _ _) hs1.out hs2.out hone.out ?_; intro w2 h2 k2)
          | (refine wpList_load_mid rfl 86 (.tmp 5) rfl w1.heap.size 0 rfl (byteVs c) _ (by rw [hC.out] at h2; exact Blk.range h2) Tryz.underlying86 rfl (by rw [byteVs_length, hcl.out]; exact size_page) ?_)
          | (refine wpList_neq_page rfl (.tmp 12) (.tmp 13) 86 5 _ rfl guard_page array_page kind_byte Tryz.sizeOf5 c (zs 32) (byteVs c).toArray Z true rfl rfl rfl hZ.out hcl.out (zs_length 32) hr.out ?_)
          | (refine wpList_to_string _ rfl 88 9 5 (.tmp 17) rfl Tryz.underlying88 Tryz.underlying5 Tryz.underlying9 (some ⟨w1.heap.size, 0, none⟩) 32 32 c rfl (by
              have h3 := SrcV.of_bytes 32 (bytes_of_blk (w := w2) (g := w1.heap.size) (t := 86) (b := c) (by rw [hC.out] at h2; exact h2))
              rw [hcl.out] at h3
              exact h3) ?_)
          | (at_builtin; go_must (refine wpList_push rfl _ _ 31 rfl 69 _ 24 pgE_length (by decide) pgE_one Tryz.underlying31 info_pg rfl _ L.length L rfl ((hm1.keep (((Only.refl [] w1).alloc (.cells Z 86)).then k2 (by simp))).keep ((Only.refl [] w2).alloc (.cells #[.int .i64 (k : Int), .string (strOf c)] 69))).own w2.heap.size ⟨k, c⟩ _ rfl (Blk.new w2 _ _) (by unfold maxLen; omega) (by omega) ?_); intro vv w6 h6 g6 a6))
        have hm2 := (hm1.keep (((Only.refl [] w1).alloc (.cells Z 86)).then k2 (by simp))).keep ((Only.refl [] w2).alloc (.cells #[.int .i64 (k : Int), .string (strOf c)] 69))
        have hm6 := hm2.pushed h6 g6 a6
        rw [← hnext.out] at hm6
        replace hm6 := Lib.hid hm6
        clear hm1 hm2 h2 k2 h6 g6 a6
        go_wp2
        go_roundw
        case rel => exact ⟨k + 1, by omega, by go_num, hm6.out⟩
        case measure => simp [intOf]; omega
    · have hk32 : k = 32 := by omega
      subst hk32
      have hfin := Lib.hid hm
      clear hm hb
      go_wp2
      go_ret
      exact ⟨_, rfl, hfin.out⟩

end Go.Proofs.YtchlcmgdfbabdaaGreatDoor.Pgs
