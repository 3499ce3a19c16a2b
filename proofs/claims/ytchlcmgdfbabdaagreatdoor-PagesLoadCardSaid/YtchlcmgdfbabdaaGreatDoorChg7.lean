/- Changes, by the program. -/
import Derived.Test.YtchlcmgdfbabdaaGreatDoorKey7
import Derived.Test.YtchlcmgdfbabdaaGreatDoorFun7
namespace Go.Proofs.YtchlcmgdfbabdaaGreatDoor.Pgs
open Go.RowKit

theorem chg_same {fl : List UInt8} {f g : Nat → List UInt8} {k : Nat} (h : g k = f k) : chgF fl f g (k + 1) = chgF fl f g k := by rw [chgF, if_pos h]
theorem chg_gone {fl : List UInt8} {f g : Nat → List UInt8} {k : Nat} (h : ¬ g k = f k) (hz : allZ (g k) = true) : chgF fl f g (k + 1) = chgF fl f g k ++ [⟨keyF fl k, [], true⟩] := by rw [chgF, if_neg h, if_pos hz]
theorem chg_new {fl : List UInt8} {f g : Nat → List UInt8} {k : Nat} (h : ¬ g k = f k) (hz : allZ (g k) = false) : chgF fl f g (k + 1) = chgF fl f g k ++ [⟨keyF fl k, g k, false⟩] := by rw [chgF, if_neg h, if_neg (by simp [hz])]
theorem keyB_eq (x k : Nat) : keyB x k = keyF (headB x) k := rfl
theorem range_kept {S : List Nat} {w w' : World} {g : Nat} {cs : List Value} (h : w.rangeAt g 0 cs) (k : Only S w w') (hg : g ∉ S) : w'.rangeAt g 0 cs := fun j v hj => k.cell (h j v hj) hg
theorem bytes_range {w : World} {g : Nat} {b : List UInt8} (h : w.rangeAt g 0 (byteVs b)) : BytesAt w g 0 b := fun j hj => h j _ (by simp [byteVs, List.getElem?_eq_getElem hj])

theorem mine_low {α : Type} {enc : α → List Value} {k : Nat} {e : TypeId} {w w1 : World} {v : Value} {l : List α} (h : Mine enc k e w w1 v l) : ∀ g, v.ownBlock = some g → g < w1.heap.size := fun g hg => (h.own.lt g hg).2

theorem changes_no (w : World) (A B : Option Addr) (c d n m : Nat) (x : Int) (o p : List Pg) (hn : n = o.length) (hA : Els pgE 2 w A o) (hl : n ≤ 9223372036854775807) (hm : m = p.length) (hB : Els pgE 2 w B p) (hl' : m ≤ 9223372036854775807) (h : ¬ (right o = true ∧ right p = true)) :
    Calls Tryz.prog 14 #[.int .u32 x, .slice A n c, .slice B m d] w fun e w' => e = .returned (.tuple #[.slice none 0 0, .int .i64 1]) ∧ Only [] w w' := by
  have h1 := fun W (h : Els pgE 2 W A o) => right_any W A c n o hn h hl
  have h2 := fun W (h : Els pgE 2 W B p) => right_any W B d m p hm h hl'
  cases hr : right o with
  | false =>
    rw [hr] at h1
    clear h hn hm
    go_enter Tryz.func14, Tryz.ntmps14
    go_wp2_with fail
    refine (h1 _ hA).mono ?_; rintro e w1 ⟨rfl, k1⟩
    go_wp2
    go_ret2
    exact ⟨rfl, k1⟩
  | true =>
    have hi : right p = false := by
      cases hb : right p with
      | false => rfl
      | true => exact (h ⟨hr, hb⟩).elim
    rw [hr] at h1
    rw [hi] at h2
    clear h hn hm
    go_enter Tryz.func14, Tryz.ntmps14
    go_wp2_with fail
    refine (h1 _ hA).mono ?_; rintro e w1 ⟨rfl, k1⟩
    go_wp2_with fail
    refine (h2 _ (hB.kept k1 (by simp))).mono ?_; rintro e w2 ⟨rfl, k2⟩
    go_wp2
    go_ret2
    exact ⟨rfl, k1.trans k2⟩

set_option maxRecDepth 100000 in
set_option maxHeartbeats 4000000 in
theorem changes_ok (w : World) (A B : Option Addr) (c d n m x : Nat) (hx : x < 4294967296) (o p : List Pg) (hn : n = o.length) (hA : Els pgE 2 w A o) (hr : right o = true) (hm : m = p.length) (hB : Els pgE 2 w B p) (hq : right p = true) :
    Calls Tryz.prog 14 #[.int .u32 (x : Int), .slice A n c, .slice B m d] w fun e w' => ∃ v, e = .returned (.tuple #[v, .int .i64 0]) ∧ Mine chE 3 66 w w' v (chgF (headB x) (chunk (body o)) (chunk (body p)) 32) := by
  have hl : n ≤ 9223372036854775807 := by have := right_len hr; omega
  have hl' : m ≤ 9223372036854775807 := by have := right_len hq; omega
  have h1 := fun W (h : Els pgE 2 W A o) => right_any W A c n o hn h hl
  have h2 := fun W (h : Els pgE 2 W B p) => right_any W B d m p hm h hl'
  have h3 := fun W (h : Els pgE 2 W A o) => spread_any W A c n o hn h hr
  have h4 := fun W (h : Els pgE 2 W B p) => spread_any W B d m p hm h hq
  have hbl := body_len hr
  have hbl' := body_len hq
  rw [hr] at h1
  rw [hq] at h2
  have hz0 := (zero_of_info zero_body).1
  obtain ⟨Z, hZ⟩ : ∃ Z, Z = (byteVs (zs 1024)).toArray := ⟨_, rfl⟩
  rw [← hZ] at hz0
  have hZ3 : Z.size = 1024 := by rw [hZ]; simp [byteVs, zs]
  have hy0 := (zero_of_info zero_page).1
  obtain ⟨Y, hY⟩ : ∃ Y, Y = (byteVs (zs 32)).toArray := ⟨_, rfl⟩
  rw [← hY] at hy0
  have hY3 : Y.size = 32 := by rw [hY]; simp [byteVs, zs]
  clear hZ hn hr hm hq hl hl'
  generalize body o = b at *
  generalize body p = b' at *
  obtain ⟨C, hC⟩ : ∃ C, C = (byteVs b).toArray := ⟨_, rfl⟩
  obtain ⟨C', hC'⟩ : ∃ C, C = (byteVs b').toArray := ⟨_, rfl⟩
  have hone : C.all (·.oneCell') = true := by rw [hC]; exact one_bytes b
  have hone' : C'.all (·.oneCell') = true := by rw [hC']; exact one_bytes b'
  have hC3 : C.size = 1024 := by rw [hC]; simp [byteVs, hbl]
  have hC3' : C'.size = 1024 := by rw [hC']; simp [byteVs, hbl']
  rw [← hC] at h3
  rw [← hC'] at h4
  have hs1 : (Tryz.prog.info? 71).map (·.size) = some C.size := by rw [hC3]; exact size_body
  have hs1' : (Tryz.prog.info? 71).map (·.size) = some C'.size := by rw [hC3']; exact size_body
  have hs2 : Z.size = C.size := hZ3.trans hC3.symm
  have hs2' : Z.size = C'.size := hZ3.trans hC3'.symm
  replace hs1 := Lib.hid hs1
  replace hs2 := Lib.hid hs2
  replace hs1' := Lib.hid hs1'
  replace hs2' := Lib.hid hs2'
  replace hone := Lib.hid hone
  replace hone' := Lib.hid hone'
  replace hC3 := Lib.hid hC3
  replace hC3' := Lib.hid hC3'
  replace hC := Lib.hid hC
  replace hC' := Lib.hid hC'
  replace hbl := Lib.hid hbl
  replace hbl' := Lib.hid hbl'
  replace hY := Lib.hid hY
  replace hY3 := Lib.hid hY3
  have H3 := Lib.hid h3
  have H4 := Lib.hid h4
  clear h3 h4
  go_enter Tryz.func14, Tryz.ntmps14
  go_wp2_with fail
  refine (h1 _ hA).mono ?_; rintro e w1 ⟨rfl, k1⟩
  go_wp2_with fail
  refine (h2 _ (hB.kept k1 (by simp))).mono ?_; rintro e w2 ⟨rfl, k2⟩
  have k12 := k1.trans k2
  clear k1 k2 h1 h2
  go_wp2_with fail
  refine (H3.out _ (hA.kept k12 (by simp))).mono ?_; rintro e w3 ⟨rfl, k3⟩
  have k13 := k12.trans k3
  clear k12 k3
  go_wp2_with fail
  refine (H4.out _ (hB.kept k13 (by simp))).mono ?_; rintro e w4 ⟨rfl, k4⟩
  have k14 := k13.trans k4
  clear k13 k4 hA hB
  have n0 : Blk ((w4.alloc (.cells Z 71)).alloc (.cells Z 71)) w4.heap.size 71 Z := (Blk.new w4 _ _).alloc _
  have n1 : Blk ((w4.alloc (.cells Z 71)).alloc (.cells Z 71)) (w4.heap.size + 1) 71 Z := by
    have := Blk.new (w4.alloc (.cells Z 71)) 71 Z
    simpa using this
  have k15 : Only [] w ((w4.alloc (.cells Z 71)).alloc (.cells Z 71)) := (k14.alloc _).alloc _
  replace n0 := Lib.hid n0
  replace n1 := Lib.hid n1
  go_wp2_with (first
    | (refine wpList_store_whole rfl 71 (.tmp 8) (.tmp 22) rfl w4.heap.size Z C rfl rfl n0.out hs1.out hs2.out hone.out ?_; intro w5 g5 k5)
    | (refine wpList_store_whole rfl 71 (.tmp 9) (.tmp 24) rfl (w4.heap.size + 1) Z C' rfl rfl (n1.out.kept k5 (by simp)) hs1'.out hs2'.out hone'.out ?_; intro w6 g6 k6))
  have hb : BodyB w6 w4.heap.size b := ⟨by have := g5.kept k6 (by simp); rw [hC.out] at this; exact this, hbl.out⟩
  have hb' : BodyB w6 (w4.heap.size + 1) b' := ⟨by rw [hC'.out] at g6; exact g6, hbl'.out⟩
  have k16 : Only [] w w6 := (k15.then k5 (by
    intro i hi
    simp at hi
    subst hi
    exact .inr k14.size)).then k6 (by
    intro i hi
    simp at hi
    subst hi
    exact .inr (by have := k14.size; omega))
  generalize hQ : w4.heap.size = Q at *
  replace hQ := Lib.hid hQ
  clear n0 n1 k15 k14 k5 k6 g5 g6
  replace hb := Lib.hid hb
  replace hb' := Lib.hid hb'
  replace k16 := Lib.hid k16
  go_loopw [10, 25] (fun v i wr => ∃ k : Nat, k ≤ 32 ∧ i = .int .i64 k ∧ Mine chE 3 66 w6 wr v (chgF (headB x) (chunk b) (chunk b') k)) (fun _ i _ => 32 - (intOf i).toNat)
  case atStart => exact ⟨0, by omega, rfl, Mine.start _ _ _ (Only.refl [] w6)⟩
  case round =>
    obtain ⟨k, hk, rfl, hmine⟩ := hrel
    by_cases hlt : k < 32
    · have hcl := chunk_len hbl.out hlt
      have hcl' := chunk_len hbl'.out hlt
      have e1 := fun h => chg_same (fl := headB x) (f := chunk b) (g := chunk b') (k := k) h
      have e2 := fun h h' => chg_gone (fl := headB x) (f := chunk b) (g := chunk b') (k := k) h h'
      have e3 := fun h h' => chg_new (fl := headB x) (f := chunk b) (g := chunk b') (k := k) h h'
      have hpl := chgF_len (headB x) (chunk b) (chunk b') k
      have hcall := fun W (h : BodyB W Q b) => page_any W Q k b h hlt
      have hcall' := fun W (h : BodyB W (Q + 1) b') => page_any W (Q + 1) k b' h hlt
      have hkey := fun W => key_any W x k hx hlt
      rw [keyB_eq] at hkey
      generalize chunk b k = f at *
      generalize chunk b' k = g at *
      generalize keyF (headB x) k = ky at *
      generalize hL : chgF (headB x) (chunk b) (chunk b') k = L at *
      replace hL := Lib.hid hL
      replace e1 := Lib.hid e1
      replace e2 := Lib.hid e2
      replace e3 := Lib.hid e3
      replace hcall := Lib.hid hcall
      replace hcall' := Lib.hid hcall'
      replace hcl := Lib.hid hcl
      replace hkey := Lib.hid hkey
      go_wp2_with fail
      refine (hcall'.out _ (hb'.out.kept hmine.only (by simp))).mono ?_; rintro e w1 ⟨rfl, k1⟩
      have hm1 := hmine.keep k1
      obtain ⟨G, hG⟩ : ∃ G, G = (byteVs g).toArray := ⟨_, rfl⟩
      have honeG : G.all (·.oneCell') = true := by rw [hG]; exact one_bytes g
      have hG3 : G.size = 32 := by rw [hG]; simp [byteVs, hcl']
      rw [← hG]
      have hg1 : (Tryz.prog.info? 86).map (·.size) = some G.size := by rw [hG3]; exact size_page
      have hg2 : Y.size = G.size := hY3.out.trans hG3.symm
      replace hg1 := Lib.hid hg1
      replace hg2 := Lib.hid hg2
      replace honeG := Lib.hid honeG
      replace hG3 := Lib.hid hG3
      replace hG := Lib.hid hG
      replace hcl' := Lib.hid hcl'
      clear hmine k1
      go_wp2_with (refine wpList_store_whole rfl 86 (.tmp 12) (.tmp 29) rfl w1.heap.size Y G rfl rfl (Blk.new w1 _ _) hg1.out hg2.out honeG.out ?_; intro w2 g2 k2)
      have hlow := Lib.hid (mine_low hm1)
      have k12 : Only [] w1 w2 := ((Only.refl [] w1).alloc (.cells Y 86)).then k2 (by simp)
      have hm2 := hm1.keep k12
      rw [hG.out] at g2
      have r2 := Blk.range g2
      obtain ⟨q, hq⟩ : ∃ q, q = w1.heap.size := ⟨_, rfl⟩
      rw [← hq] at r2 g2 ⊢
      replace hq := Lib.hid hq
      clear hm1 k2 k12 g2
      refine wp_region_held_drew (S := fun w' => w'.rangeAt q 0 (byteVs g)) (by kernel_rfl) (range_kept r2 ((Only.refl [] w2).drew) (by simp)) (fun hHeld => ?_)
      have kd : Only [] w2 w2.drew := (Only.refl [] w2).drew
      have hm3 := hm2.keep kd
      have r3 := range_kept r2 kd (by simp)
      clear hm2 r2 kd
      generalize w2.drew = wd at *
      refine held_take 0 (.agg (byteVs g).toArray) rfl (by kernel_rfl) (by kernel_rfl) (by kernel_rfl) (fun _ _ _ h => h) hHeld (yieldsIf_load_mid (by rfl) 86 (.tmp 12) rfl q 0 rfl (byteVs g) _ (fun w' hSw => hSw) Tryz.underlying86 rfl (by rw [byteVs_length, hcl'.out]; exact size_page)) ?_
      simp only [Act.put, List.setIfInBounds_toArray, List.set_cons_zero, List.set_cons_succ]
      refine held_take 1 (.int .i64 (k : Int)) rfl (by kernel_rfl) (by kernel_rfl) (by kernel_rfl) (fun _ _ _ h => h) hHeld (Or.inl ⟨by rfl, fun w' hSw => by (try dsimp only at hSw); (try subst hSw); go_simp⟩) ?_
      simp only [Act.put, List.setIfInBounds_toArray, List.set_cons_zero, List.set_cons_succ]
      refine held_step 2 rfl (by kernel_rfl) (fun K hK => ?_)
      go_simp
      refine (hcall.out _ (hb.out.kept hm3.only (by simp))).mono ?_; rintro e w4 ⟨rfl, k4⟩
      have hm4 := hm3.keep k4
      have r4 := range_kept r3 k4 (by simp)
      go_wp2_with fail
      refine hK.out _ _ r4 (fun hHeld => ?_)
      clear hK K
      clear hm3 r3 k4
      by_cases hgf : g = f
      · have hnext := Lib.hid (e1.out hgf)
        have hb1 := Lib.hid (eq_beq hgf)
        refine held_step 3 rfl (by kernel_rfl) (fun K hK => ?_)
        refine step_eql_page rfl (.tmp 40) (.tmp 42) 86 5 _ rfl guard_page array_page kind_byte Tryz.sizeOf5 g f _ _ true rfl rfl rfl rfl hcl'.out hcl.out hb1.out ?_
        go_wp2_with fail
        refine hK.out _ _ r4 (fun hHeld => ?_)
        clear hK K
        refine held_step 4 rfl (by kernel_rfl) (fun K hK => ?_)
        go_simp
        go_wp2_with fail
        refine hK.out _ _ r4 (fun hHeld => ?_)
        clear hK K
        refine wpAnyH_done (by kernel_rfl) ?_ _
        clear hHeld
        replace hgf := Lib.hid hgf
        rw [← hnext.out] at hm4
        replace hm4 := Lib.hid hm4
        clear r4
        go_wp2_with fail
        go_roundw
        case rel => exact ⟨k + 1, by omega, by go_num, hm4.out⟩
        case measure => simp [intOf]; omega
      · have hb1 := Lib.hid (eq_not hgf)
        refine held_step 3 rfl (by kernel_rfl) (fun K hK => ?_)
        refine step_eql_page rfl (.tmp 40) (.tmp 42) 86 5 _ rfl guard_page array_page kind_byte Tryz.sizeOf5 g f _ _ false rfl rfl rfl rfl hcl'.out hcl.out hb1.out ?_
        go_wp2_with fail
        refine hK.out _ _ r4 (fun hHeld => ?_)
        clear hK K
        refine held_step 4 rfl (by kernel_rfl) (fun K hK => ?_)
        go_simp
        go_wp2_with fail
        refine hK.out _ _ r4 (fun hHeld => ?_)
        clear hK K
        refine wpAnyH_done (by kernel_rfl) ?_ _
        clear hHeld
        cases hz : allZ g with
        | true =>
          have hnext := Lib.hid (e2.out hgf hz)
          have hr : Hid ((g == zs 32) = true) := by
            show (g == zs 32) = true
            exact eq_beq (eq_zs32 hz hcl'.out)
          replace hz := Lib.hid hz
          replace hgf := Lib.hid hgf
          go_wp2_with (first
            | (refine wpList_load_mid rfl 86 (.tmp 12) rfl q 0 rfl (byteVs g) _ r4 Tryz.underlying86 rfl (by rw [byteVs_length, hcl'.out]; exact size_page) ?_)
            | (refine wpList_eql_page rfl (.tmp 45) (.tmp 46) 86 5 _ rfl guard_page array_page kind_byte Tryz.sizeOf5 g (zs 32) (byteVs g).toArray Y true rfl rfl rfl hY.out hcl'.out (zs_length 32) hr.out ?_))
          refine (hkey.out _).mono ?_; rintro e w6 ⟨rfl, k6⟩
          have hm6 := hm4.keep k6
          have hm7 := hm6.keep ((Only.refl [] w6).alloc (.cells #[.string (strOf ky), .string ⟨#[]⟩, .bool true] 66))
          have b7 : Blk (w6.alloc (.cells #[.string (strOf ky), .string ⟨#[]⟩, .bool true] 66)) w6.heap.size 66 (chE ⟨ky, [], true⟩).toArray := Blk.new w6 _ _
          go_wp2_with (at_builtin; go_must (refine wpList_push rfl _ _ 22 rfl 66 _ 40 chE_length (by decide) chE_one Tryz.underlying22 info_ch rfl _ L.length L rfl hm7.own w6.heap.size ⟨ky, [], true⟩ _ rfl b7 (by unfold maxLen; omega) (by omega) ?_); intro vv w8 h8 g8 a8)
          have hm8 := hm7.pushed h8 g8 a8
          rw [← hnext.out] at hm8
          replace hm8 := Lib.hid hm8
          clear hm7 hm6 hm4 b7 h8 g8 a8 k6 r4
          go_wp2
          go_roundw
          case rel => exact ⟨k + 1, by omega, by go_num, hm8.out⟩
          case measure => simp [intOf]; omega
        | false =>
          have hnext := Lib.hid (e3.out hgf hz)
          have hr : Hid ((g == zs 32) = false) := by
            show (g == zs 32) = false
            exact eq_not (fun h => by rw [h, allZ_zs] at hz; cases hz)
          replace hz := Lib.hid hz
          replace hgf := Lib.hid hgf
          go_wp2_with (first
            | (refine wpList_load_mid rfl 86 (.tmp 12) rfl q 0 rfl (byteVs g) _ r4 Tryz.underlying86 rfl (by rw [byteVs_length, hcl'.out]; exact size_page) ?_)
            | (refine wpList_eql_page rfl (.tmp 45) (.tmp 46) 86 5 _ rfl guard_page array_page kind_byte Tryz.sizeOf5 g (zs 32) (byteVs g).toArray Y false rfl rfl rfl hY.out hcl'.out (zs_length 32) hr.out ?_))
          have r5 := range_kept r4 ((Only.refl [] w4).drew) (by simp)
          have hm5 := hm4.keep ((Only.refl [] w4).drew)
          have hconv : ∀ w', w'.rangeAt q 0 (byteVs g) → (convert 88 9 (.slice (some ⟨q, 0, none⟩) 32 32)).run Tryz.prog w' = .ok (.string (strOf g)) w' := fun w' h => by
            have h1 := run_convert_bytes_back (P := Tryz.prog) w' 88 9 5 ⟨q, 0, none⟩ 32 g Tryz.underlying88 Tryz.underlying5 Tryz.underlying9 (fun j hj => by rw [addr_add]; exact bytes_range h j hj)
            rw [hcl'.out] at h1
            exact h1
          replace hconv := Lib.hid hconv
          refine wp_region_held_drew (S := fun w' => w'.rangeAt q 0 (byteVs g)) (by kernel_rfl) r5 (fun hHeld => ?_)
          generalize w4.drew = w5 at *
          refine held_take 0 (u10) rfl (by kernel_rfl) (by kernel_rfl) (by kernel_rfl) (fun _ _ _ h => h) hHeld (Or.inl ⟨by rfl, fun w' hSw => by (try dsimp only at hSw); (try subst hSw); go_simp⟩) ?_
          simp only [Act.put, List.setIfInBounds_toArray, List.set_cons_zero, List.set_cons_succ]
          refine held_take 1 (.int .u32 (x : Int)) rfl (by kernel_rfl) (by kernel_rfl) (by kernel_rfl) (fun _ _ _ h => h) hHeld (Or.inl ⟨by rfl, fun w' hSw => by (try dsimp only at hSw); (try subst hSw); go_simp⟩) ?_
          simp only [Act.put, List.setIfInBounds_toArray, List.set_cons_zero, List.set_cons_succ]
          refine held_take 2 (.int .i64 (k : Int)) rfl (by kernel_rfl) (by kernel_rfl) (by kernel_rfl) (fun _ _ _ h => h) hHeld (Or.inl ⟨by rfl, fun w' hSw => by (try dsimp only at hSw); (try subst hSw); go_simp⟩) ?_
          simp only [Act.put, List.setIfInBounds_toArray, List.set_cons_zero, List.set_cons_succ]
          refine held_take 4 (.slice (some ⟨q, 0, none⟩) 32 32) rfl (by kernel_rfl) (by kernel_rfl) (by kernel_rfl) (fun _ _ _ h => h) hHeld (Or.inl ⟨by rfl, fun w' hSw => by (try dsimp only at hSw); (try subst hSw); go_simp⟩) ?_
          simp only [Act.put, List.setIfInBounds_toArray, List.set_cons_zero, List.set_cons_succ]
          refine held_take 5 (.string (strOf g)) rfl (by kernel_rfl) (by kernel_rfl) (by kernel_rfl) (fun _ _ _ h => h) hHeld (Or.inl ⟨by rfl, fun w' hSw => (by have h5 := hconv.out w' hSw; go_simp)⟩) ?_
          simp only [Act.put, List.setIfInBounds_toArray, List.set_cons_zero, List.set_cons_succ]
          refine held_step 3 rfl (by kernel_rfl) (fun K hK => ?_)
          go_simp
          refine (hkey.out _).mono ?_; rintro e w6 ⟨rfl, k6⟩
          have r6 := range_kept r5 k6 (by simp)
          have hm6 := hm5.keep k6
          go_wp2_with fail
          refine hK.out _ _ r6 (fun hHeld => ?_)
          clear hK K
          refine held_step 6 rfl (by kernel_rfl) (fun K hK => ?_)
          go_simp
          go_wp2_with fail
          refine hK.out _ _ r6 (fun hHeld => ?_)
          clear hK K
          refine held_step 7 rfl (by kernel_rfl) (fun K hK => ?_)
          go_simp
          have k7 : Only [] w6 (w6.alloc (.cells #[.string (strOf ky), .string (strOf g), .bool false] 66)) := (Only.refl [] w6).alloc _
          have r7 := range_kept r6 k7 (by simp)
          have hm7 := hm6.keep k7
          have b7 : Blk (w6.alloc (.cells #[.string (strOf ky), .string (strOf g), .bool false] 66)) w6.heap.size 66 (chE ⟨ky, g, false⟩).toArray := Blk.new w6 _ _
          go_wp2_with fail
          refine hK.out _ _ r7 (fun hHeld => ?_)
          clear hK K
          refine held_step 8 rfl (by kernel_rfl) (fun K hK => ?_)
          refine step_push rfl _ _ 22 rfl 66 _ 40 chE_length (by decide) chE_one Tryz.underlying22 info_ch rfl u10 L.length L rfl hm7.own w6.heap.size ⟨ky, g, false⟩ _ rfl b7 (by unfold maxLen; omega) (by omega) ?_
          intro vv w8 h8 g8 a8
          have hm8 := hm7.pushed h8 g8 a8
          have r8 : w8.rangeAt q 0 (byteVs g) := fun j v hj => (only_own g8).cell (r7 j v hj) (by
            intro hqm
            have h1 := hlow.out q (by simpa using hqm)
            have h2 := hq.out
            omega)
          go_wp2_with fail
          refine hK.out _ _ r8 (fun hHeld => ?_)
          clear hK K
          refine held_step 9 rfl (by kernel_rfl) (fun K hK => ?_)
          go_simp
          go_wp2_with fail
          refine hK.out _ _ r8 (fun hHeld => ?_)
          clear hK K
          refine wpAnyH_done (by kernel_rfl) ?_ _
          clear hHeld
          rw [← hnext.out] at hm8
          replace hm8 := Lib.hid hm8
          clear hm7 hm6 hm5 hm4 b7 h8 g8 a8 k6 r4 r5 r6 r7 r8
          go_wp2
          go_roundw
          case rel => exact ⟨k + 1, by omega, by go_num, hm8.out⟩
          case measure => simp [intOf]; omega
    · have hk2 : k = 32 := by omega
      subst hk2
      have hfin := Lib.hid (Mine.from k16.out hmine)
      clear hmine
      go_wp2
      go_ret2
      exact ⟨_, rfl, hfin.out⟩

end Go.Proofs.YtchlcmgdfbabdaaGreatDoor.Pgs
