/- Load, over rows in memory, living or not; what lies under a beginning. -/
import Derived.Test.YtmelaiefbpdifaaGreatDoorFJb
namespace Go.Proofs.YtmelaiefbpdifaaGreatDoor.Pgs
open Go.RowKit Go.Maps
theorem under_at (w1 : World) (rp mb lp : Nat) (M : List Rw) (hR : RowsB w1 rp mb lp M) (hS : Sorted M) (hM : M.length ≤ 1048576) (q : List UInt8) :
  Calls Tryz.prog 69 #[.pointer (some ⟨rp, 0, none⟩), .string (strOf q)] w1 fun e w' => ∃ v, e = .returned v ∧ NewEls chE 3 w1 w' v (underL M q) := by
 refine (under_any w1 rp mb lp M q hR hS hM).mono ?_
 rintro e w' ⟨v, he, h1, _⟩
 exact ⟨v, he, h1⟩
set_option maxRecDepth 100000 in
set_option maxHeartbeats 2000000 in
theorem load_at (w1 : World) (rp mb lp : Nat) (M : List Rw) (hR : RowsB w1 rp mb lp M) (hS : Sorted M) (hM : M.length ≤ 1024) (x : Nat) (hx : x < 4294967296) :
  Calls Tryz.prog 68 #[.pointer (some ⟨rp, 0, none⟩), .int .u32 (x : Int)] w1 fun e w' => ∃ v, e = .returned (.tuple #[v, .int .i64 (errL (ldOk (underL M (headB x))))]) ∧ Mine pgE 2 138 w1 w' v (ldL (underL M (headB x))) := by
 have hlenM : (underL M (headB x)).length ≤ 1024 := by
  have h3 : (underL M (headB x)).length ≤ M.length := by unfold underL; rw [List.length_map]; exact List.length_filter_le _ _
  omega
 have hpre : ∀ c ∈ underL M (headB x), 5 ≤ c.key.length := fun c hc => by
  obtain ⟨r, hr, rfl⟩ := List.mem_map.1 hc
  have := (pre_iff.1 (List.mem_filter.1 hr).2).1
  exact this
 have hund := fun W (k : Only [] w1 W) => under_at W rp mb lp M (hR.kept k (by simp) (by simp)) hS (by omega) (headB x)
 have hp := prefix_any w1 x hx
 have hhs : (strOf (headB x)).size = 5 := by rw [strOf_size]; rfl
 generalize strOf (headB x) = hd at *
 generalize hU : underL M (headB x) = U at *
 replace hU := Lib.hid hU
 replace hund := Lib.hid hund
 replace hpre := Lib.hid hpre
 have hz0 := (zero_of_info zero_body).1
 obtain ⟨Z, hZ⟩ : ∃ Z, Z = (byteVs (zs 1024)).toArray := ⟨_, rfl⟩
 rw [← hZ] at hz0
 have hZ3 : Z.size = 1024 := by rw [hZ]; simp [byteVs, zs]
 clear hZ hR hS hM
 go_enter Tryz.func68, Tryz.ntmps68
 go_wp2_with fail
 refine hp.mono ?_; rintro e w2 ⟨rfl, k2⟩
 go_wp2_with fail
 refine (hund.out _ k2).mono ?_; rintro e w3 ⟨v, rfl, hne⟩
 obtain ⟨B, cb, rfl, hcb, hB, k3, _⟩ := hne
 have k13 := k2.trans k3
 obtain ⟨n, hn⟩ : ∃ n, n = U.length := ⟨_, rfl⟩
 rw [← hn] at hlenM hcb ⊢
 have HN := Lib.hid hn
 clear hn k2 k3 hp
 go_wp2_with fail
 go_loopw [6, 18] (fun v i wr => ∃ k : Nat, k ≤ n ∧ i = .int .i64 k ∧ Hid (∀ c ∈ U.take k, c.key.length = 7) ∧ Mine pgE 2 138 w3 wr v (ldO (U.take k))) (fun _ i _ => n - (intOf i).toNat)
 case atStart => exact ⟨0, Nat.zero_le _, rfl, fun c hc => by simp at hc, by rw [List.take_zero]; exact Mine.start _ _ _ (Only.refl [] w3)⟩
 case round =>
  obtain ⟨k, hk, rfl, h7, hmine⟩ := hrel
  by_cases hlt : k < n
  ·have hk' : k < U.length := by have := HN.out; omega
   obtain ⟨g, off, rfl, _, hat⟩ := hB.get hk'
   obtain ⟨c0, c1, c2⟩ := chs_at (hat.kept hmine.only (by simp)) hk'
   have hnext := ld_take hk'
   have h5 := hpre.out U[k] (List.getElem_mem hk')
   have hmem : U[k] ∈ U := List.getElem_mem hk'
   have hstep : U[k].key.length = 7 → Hid (∀ c ∈ U.take (k + 1), c.key.length = 7) := fun he c hc => by
    rw [List.take_add_one, List.getElem?_eq_getElem hk', List.mem_append] at hc
    rcases hc with hc | hc
    ·exact h7.out c hc
    ·simp at hc; rw [hc]; exact he
   have hL : (ldO (U.take k)).length ≤ 1024 := by unfold ldO; rw [List.length_map, List.length_take]; omega
   generalize U[k] = ch at *
   obtain ⟨ky, vl, gn⟩ := ch
   simp only at c0 c1 c2 h5 hstep
   have hfr := from_strOf (P := Tryz.prog) 9 Tryz.underlying9 ky 5 5 .i64 rfl h5
   have hsz := strOf_size (ky.drop 5)
   rw [List.length_drop] at hsz
   have hpg : pgOf ⟨ky, vl, gn⟩ = ⟨(((ky.getD 5 0).toNat * 256 + (ky.getD 6 0).toNat : Nat) : Int), vl⟩ := rfl
   rw [hpg] at hnext
   generalize ldO (U.take k) = L at *
   generalize hvs : strOf vl = vs at *
   generalize hks : strOf ky = ks at *
   replace hvs := Lib.hid hvs
   replace hks := Lib.hid hks
   clear hat hpg
   by_cases h7k : ky.length = 7
   ·have hst := hstep h7k
    rw [two_drop h7k] at hfr hsz
    have hns : (strOf [ky.getD 5 0, ky.getD 6 0]).size = 2 := by rw [strOf_size]; rfl
    have ix0 := index_strOf (P := Tryz.prog) 9 Tryz.underlying9 [ky.getD 5 0, ky.getD 6 0] 0 0 .i64 rfl (by simp)
    have ix1 := index_strOf (P := Tryz.prog) 9 Tryz.underlying9 [ky.getD 5 0, ky.getD 6 0] 1 1 .i64 rfl (by simp)
    have a256 := UInt8.toNat_lt (ky.getD 5 0)
    have b256 := UInt8.toNat_lt (ky.getD 6 0)
    have hor := or_bytes (ky.getD 5 0).toNat (ky.getD 6 0).toNat a256 b256
    change ∀ W : World, (Instr.index 9 (.string (strOf [ky.getD 5 0, ky.getD 6 0])) (.int .i64 0)).run Tryz.prog W = .ok (.int .u8 (((ky.getD 5 0).toNat : Nat) : Int)) W at ix0
    change ∀ W : World, (Instr.index 9 (.string (strOf [ky.getD 5 0, ky.getD 6 0])) (.int .i64 1)).run Tryz.prog W = .ok (.int .u8 (((ky.getD 6 0).toNat : Nat) : Int)) W at ix1
    clear hsz hstep
    generalize strOf [ky.getD 5 0, ky.getD 6 0] = ns at *
    generalize (ky.getD 5 0).toNat = a at *
    generalize (ky.getD 6 0).toNat = b at *
    have hwa : IntKind.i64.wrap (a : Int) = a := by rw [IntKind.wrap_i64]; omega
    have hwb : IntKind.i64.wrap (b : Int) = b := by rw [IntKind.wrap_i64]; omega
    have hwa2 : IntKind.i64.wrap ((a : Int) * 256) = (a : Int) * 256 := by rw [IntKind.wrap_i64]; omega
    replace h7k := Lib.hid h7k
    replace hnext := Lib.hid hnext
    have hlow := Lib.hid (mine_low hmine)
    go_wp2
    obtain ⟨W1, hW1⟩ : ∃ W1, W1 = wr.alloc (.cells #[.string ks, .string vs, .bool gn] 133) := ⟨_, rfl⟩
    rw [← hW1]
    have k1 : Only [] wr W1 := by rw [hW1]; exact (Only.refl [] wr).alloc _
    have p1 : Blk W1 wr.heap.size 133 #[.string ks, .string vs, .bool gn] := by rw [hW1]; exact Blk.new wr _ _
    have e1 := p1.cell 1
    simp only [List.getElem?_toArray, List.getElem?_cons_zero, List.getElem?_cons_succ] at e1
    obtain ⟨q, hq⟩ : ∃ q, q = wr.heap.size := ⟨_, rfl⟩
    rw [← hq] at e1 ⊢
    have hm1 := hmine.keep k1.drew
    have e2 := (Only.refl [] W1).drew.cell e1 (by simp)
    replace hq := Lib.hid hq
    replace hW1 := Lib.hid hW1
    clear c0 c1 c2 p1 k1 e1 hmine
    refine wp_region_held_drew (S := fun w' => w'.cell? ⟨q, 1, none⟩ = some (.string vs)) (by kernel_rfl) e2 (fun hHeld => ?_)
    generalize W1.drew = wd at *
    refine held_take 0 (u6) rfl (by kernel_rfl) (by kernel_rfl) (by kernel_rfl) (fun _ _ _ h => h) hHeld (Or.inl ⟨by rfl, fun w' hSw => by (try dsimp only at hSw); (try subst hSw); go_simp⟩) ?_
    simp only [Act.put, List.setIfInBounds_toArray, List.set_cons_zero, List.set_cons_succ]
    refine held_take 1 (.string ns) rfl (by kernel_rfl) (by kernel_rfl) (by kernel_rfl) (fun _ _ _ h => h) hHeld (Or.inl ⟨by rfl, fun w' hSw => by (try dsimp only at hSw); (try subst hSw); go_simp⟩) ?_
    simp only [Act.put, List.setIfInBounds_toArray, List.set_cons_zero, List.set_cons_succ]
    refine held_take 2 (.int .u8 (a : Int)) rfl (by kernel_rfl) (by kernel_rfl) (by kernel_rfl) (fun _ _ _ h => h) hHeld (Or.inl ⟨by rfl, fun w' hSw => (by have i0 := ix0; go_simp)⟩) ?_
    simp only [Act.put, List.setIfInBounds_toArray, List.set_cons_zero, List.set_cons_succ]
    refine held_take 3 (.int .i64 (a : Int)) rfl (by kernel_rfl) (by kernel_rfl) (by kernel_rfl) (fun _ _ _ h => h) hHeld (Or.inl ⟨by rfl, fun w' hSw => by (try dsimp only at hSw); (try subst hSw); go_simp⟩) ?_
    simp only [Act.put, List.setIfInBounds_toArray, List.set_cons_zero, List.set_cons_succ]
    refine held_take 4 (.int .i64 ((a : Int) * 256)) rfl (by kernel_rfl) (by kernel_rfl) (by kernel_rfl) (fun _ _ _ h => h) hHeld (Or.inl ⟨by rfl, fun w' hSw => by (try dsimp only at hSw); (try subst hSw); go_simp⟩) ?_
    simp only [Act.put, List.setIfInBounds_toArray, List.set_cons_zero, List.set_cons_succ]
    refine held_take 5 (.string ns) rfl (by kernel_rfl) (by kernel_rfl) (by kernel_rfl) (fun _ _ _ h => h) hHeld (Or.inl ⟨by rfl, fun w' hSw => by (try dsimp only at hSw); (try subst hSw); go_simp⟩) ?_
    simp only [Act.put, List.setIfInBounds_toArray, List.set_cons_zero, List.set_cons_succ]
    refine held_take 6 (.int .u8 (b : Int)) rfl (by kernel_rfl) (by kernel_rfl) (by kernel_rfl) (fun _ _ _ h => h) hHeld (Or.inl ⟨by rfl, fun w' hSw => (by have i1 := ix1; go_simp)⟩) ?_
    simp only [Act.put, List.setIfInBounds_toArray, List.set_cons_zero, List.set_cons_succ]
    refine held_take 7 (.int .i64 (b : Int)) rfl (by kernel_rfl) (by kernel_rfl) (by kernel_rfl) (fun _ _ _ h => h) hHeld (Or.inl ⟨by rfl, fun w' hSw => by (try dsimp only at hSw); (try subst hSw); go_simp⟩) ?_
    simp only [Act.put, List.setIfInBounds_toArray, List.set_cons_zero, List.set_cons_succ]
    refine held_take 8 (.int .i64 ((a * 256 + b : Nat) : Int)) rfl (by kernel_rfl) (by kernel_rfl) (by kernel_rfl) (fun _ _ _ h => h) hHeld (Or.inl ⟨by rfl, fun w' hSw => by (try dsimp only at hSw); (try subst hSw); go_simp⟩) ?_
    simp only [Act.put, List.setIfInBounds_toArray, List.set_cons_zero, List.set_cons_succ]
    refine held_take 9 (.pointer (some ⟨q, 1, none⟩)) rfl (by kernel_rfl) (by kernel_rfl) (by kernel_rfl) (fun _ _ _ h => h) hHeld (Or.inl ⟨by rfl, fun w' hSw => by (try dsimp only at hSw); (try subst hSw); go_simp⟩) ?_
    simp only [Act.put, List.setIfInBounds_toArray, List.set_cons_zero, List.set_cons_succ]
    refine held_take 10 (.string vs) rfl (by kernel_rfl) (by kernel_rfl) (by kernel_rfl) (fun _ _ _ h => h) hHeld (Or.inl ⟨by rfl, fun w' hSw => (by have hc := hSw; go_simp)⟩) ?_
    simp only [Act.put, List.setIfInBounds_toArray, List.set_cons_zero, List.set_cons_succ]
    refine held_take 11 (.agg #[.int .i64 ((a * 256 + b : Nat) : Int), .string vs]) rfl (by kernel_rfl) (by kernel_rfl) (by kernel_rfl) (fun _ _ _ h => h) hHeld (Or.inl ⟨by rfl, fun w' hSw => by (try dsimp only at hSw); (try subst hSw); go_simp⟩) ?_
    simp only [Act.put, List.setIfInBounds_toArray, List.set_cons_zero, List.set_cons_succ]
    refine held_step 12 rfl (by kernel_rfl) (fun K hK => ?_)
    go_simp
    have k7 : Only [] wd (wd.alloc (.cells #[.int .i64 ((a * 256 + b : Nat) : Int), .string vs] 138)) := (Only.refl [] wd).alloc _
    have e7 := k7.cell e2 (by simp)
    have hm7 := hm1.keep k7
    have b7 : Blk (wd.alloc (.cells #[.int .i64 ((a * 256 + b : Nat) : Int), .string vs] 138)) wd.heap.size 138 (pgE ⟨((a * 256 + b : Nat) : Int), vl⟩).toArray := by
     have := Blk.new wd 138 (pgE ⟨((a * 256 + b : Nat) : Int), vl⟩).toArray
     simp only [pgE, hvs.out] at this ⊢
     exact this
    go_wp2_with fail
    refine hK.out _ _ e7 (fun hHeld => ?_)
    clear hK K
    refine held_step 13 rfl (by kernel_rfl) (fun K hK => ?_)
    refine step_push rfl _ _ 57 rfl 138 _ 24 pgE_length (by decide) pgE_one Tryz.underlying57 info_pg rfl u6 L.length L rfl hm7.own wd.heap.size ⟨((a * 256 + b : Nat) : Int), vl⟩ _ rfl b7 (by unfold maxLen; omega) (by omega) ?_
    intro vv w8 h8 g8 a8
    have hm8 := hm7.pushed h8 g8 a8
    have r8 : w8.cell? ⟨q, 1, none⟩ = some (.string vs) := (only_own g8).cell e7 (by
     intro hqm
     have h1 := hlow.out q (by simpa using hqm)
     have h2 := hq.out
     omega)
    go_wp2_with fail
    refine hK.out _ _ r8 (fun hHeld => ?_)
    clear hK K
    refine held_step 14 rfl (by kernel_rfl) (fun K hK => ?_)
    go_simp
    go_wp2_with fail
    refine hK.out _ _ r8 (fun hHeld => ?_)
    clear hK K
    refine wpAnyH_done (by kernel_rfl) ?_ _
    clear hHeld
    rw [← hnext.out] at hm8
    replace hm8 := Lib.hid hm8
    clear hm7 hm1 b7 h8 g8 a8 e2 e7 r8
    go_wp2
    go_roundw
    case rel => exact ⟨k + 1, by omega, by go_num, hst, hm8.out⟩
    case measure => simp [intOf]; omega
   ·have hbad : ldOk U = false := by
     unfold ldOk
     rw [Bool.and_eq_false_iff]
     refine .inl ?_
     apply Bool.eq_false_iff.2
     intro h
     unfold all7 at h
     rw [List.all_eq_true] at h
     have := h _ hmem
     simp only [beq_iff_eq] at this
     exact h7k this
    have hbl : ldL U = [] := by unfold ldL; rw [hbad]; rfl
    replace hbad := Lib.hid hbad
    replace hbl := Lib.hid hbl
    have hne : ¬ ((strOf (ky.drop 5)).size : Int) = 2 := by omega
    generalize strOf (ky.drop 5) = ns at *
    have hfin := Lib.hid (k13.trans (hmine.only.alloc (.cells #[.string ks, .string vs, .bool gn] 133)))
    clear hstep hsz hmine
    replace h7k := Lib.hid h7k
    go_wp2
    go_ret2
    exact ⟨_, by rw [hbad.out]; rfl, by rw [hbl.out]; exact Mine.start _ _ _ hfin.out⟩
  ·have hkn : U.take k = U := List.take_of_length_le (by have := HN.out; omega)
   rw [hkn] at hmine h7
   have h77 : all7 U = true := by
    unfold all7
    rw [List.all_eq_true]
    intro c hc
    simpa using h7.out c hc
   obtain ⟨A, ca, rfl, hA, _, _⟩ := mine_shape hmine
   have k3r := hmine.only
   have hok : ldOk U = right (ldO U) := by unfold ldOk; rw [h77]; rfl
   have hll : ldOk U = true → ldL U = ldO U := fun h => by unfold ldL; rw [if_pos h]
   have hl0 : ldOk U = false → ldL U = [] := fun h => by unfold ldL; rw [h]; rfl
   generalize hO : ldO U = O at *
   replace hO := Lib.hid hO
   obtain ⟨m, hm⟩ : ∃ m, m = O.length := ⟨_, rfl⟩
   have hm1024 : m ≤ 1024 := by rw [hm, ← hO.out]; unfold ldO; rw [List.length_map]; have := HN.out; omega
   have g1 := right_any wr A ca m O hm hA (by omega)
   rw [← hm]
   replace hll := Lib.hid hll
   replace hl0 := Lib.hid hl0
   replace hok := Lib.hid hok
   clear hmine hB h7 hkn h77
   cases hr : right O with
   | false =>
    have hbad := Lib.hid (hok.out.trans hr)
    have hbl := Lib.hid (hl0.out hbad.out)
    rw [hr] at g1
    replace hm := Lib.hid hm
    replace hr := Lib.hid hr
    go_wp2_with fail
    refine g1.mono ?_; rintro e w5 ⟨rfl, k5⟩
    have hfin := Lib.hid ((k13.trans k3r).trans k5)
    clear k5 k3r k13
    go_wp2
    go_ret2
    exact ⟨_, by rw [hbad.out]; rfl, by rw [hbl.out]; exact Mine.start _ _ _ hfin.out⟩
   | true =>
    have hgood := Lib.hid (hok.out.trans hr)
    have hgl := Lib.hid (hll.out hgood.out)
    have g2 := fun W (h : Els pgE 2 W A O) => spread_any W A ca m O hm h hr
    have hbl := body_len hr
    have hpb := pages_body hr
    rw [hr] at g1
    replace hm := Lib.hid hm
    replace hr := Lib.hid hr
    generalize body O = b at *
    obtain ⟨C, hC⟩ : ∃ C, C = (byteVs b).toArray := ⟨_, rfl⟩
    have hone : C.all (·.oneCell') = true := by rw [hC]; exact one_bytes b
    have hC3 : C.size = 1024 := by rw [hC]; simp [byteVs, hbl]
    rw [← hC] at g2
    have hs1 : (Tryz.prog.info? 146).map (·.size) = some C.size := by rw [hC3]; exact size_body
    have hs2 : Z.size = C.size := hZ3.trans hC3.symm
    replace hs1 := Lib.hid hs1
    replace hs2 := Lib.hid hs2
    replace hone := Lib.hid hone
    replace hC3 := Lib.hid hC3
    replace hC := Lib.hid hC
    replace hbl := Lib.hid hbl
    replace hpb := Lib.hid hpb
    replace g2 := Lib.hid g2
    go_wp2_with fail
    refine g1.mono ?_; rintro e w5 ⟨rfl, k5⟩
    go_wp2_with fail
    refine (g2.out _ (hA.kept k5 (by simp))).mono ?_; rintro e w6 ⟨rfl, k6⟩
    have k16 := ((k13.trans k3r).trans k5).trans k6
    clear k5 k6 k3r k13 hA
    go_wp2_with (refine wpList_store_whole rfl 146 (.tmp 11) (.tmp 49) rfl w6.heap.size Z C rfl rfl (Blk.new w6 _ _) hs1.out hs2.out hone.out ?_; intro w7 h7 k7)
    have hbb : BodyB w7 w6.heap.size b := ⟨by rw [hC.out] at h7; exact h7, hbl.out⟩
    have k17 := Lib.hid (k16.trans (((Only.refl [] w6).alloc (.cells Z 146)).then k7 (by simp)))
    replace hbb := Lib.hid hbb
    clear h7 k7 k16
    refine (pages_any _ _ _ hbb.out).mono ?_; rintro e w8 ⟨v, rfl, hm8⟩
    rw [hpb.out] at hm8
    have hfin := Lib.hid (Mine.from k17.out hm8)
    clear hm8
    go_wp2
    go_ret2
    exact ⟨v, by rw [hgood.out]; rfl, by rw [hgl.out]; exact hfin.out⟩
end Go.Proofs.YtmelaiefbpdifaaGreatDoor.Pgs
