/- Drop, Clear: the program's. -/
import Derived.Test.YthclpefomhakdaaClr11
import Derived.Test.YthclpefomhakdaaPlace11
import Derived.Test.YthclpefomhakdaaAns11
namespace Go.Proofs.Ythclpefomhakdaa
open Go.RowKit

theorem posO_key2 (l : List Opn) (a h : Int) (o : Opn) (h1 : o.client = a) (h2 : o.handle = h) : posO l o = posO l ⟨a, h, 0, 0, 0⟩ := by subst h1 h2; rfl
theorem wrap_succ1 (n : Nat) (h : n ≤ 1048576) : IntKind.i64.wrap ((n : Int) + 1) = (n : Int) + 1 := by simp only [IntKind.wrap, IntKind.bits, IntKind.signed]; simp; omega
set_option maxRecDepth 100000 in
set_option maxHeartbeats 8000000 in
theorem drop_any (w : World) (A : Option Addr) (c : Nat) (l : List Opn) (a h : Int) (hb : Els opE 5 w A l) (hl : l.length ≤ 9223372036854775807) (hc : l.length ≤ c) :
    Calls Try.prog 21 #[.slice A l.length c, .int .u32 a, .int .u32 h] w fun e w' => TripAns w w' e (dropR l ⟨a, h, 0, 0, 0⟩) := by
  obtain ⟨R, hR⟩ : ∃ R, R = dropR l ⟨a, h, 0, 0, 0⟩ := ⟨_, rfl⟩
  rw [← hR]
  have r1 : ¬ RightP l → R = ([], zeroO, 1) := fun k => by rw [hR]; unfold dropR; rw [if_neg k]
  have r14 : RightP l → findK l a h = none → R = ([], zeroO, 14) := fun k k2 => by rw [hR]; unfold dropR; rw [if_pos k]; simp only [k2]
  have r0 : RightP l → ∀ x, findK l a h = some x → R = (l.take (posO l ⟨a, h, 0, 0, 0⟩) ++ l.drop (posO l ⟨a, h, 0, 0, 0⟩ + 1), x, 0) := fun k x k2 => by rw [hR]; unfold dropR; rw [if_pos k]; simp only [k2]; rfl
  have hRt := fun W (k : Only [] w W) => right_any W A c l (hb.kept k (by simp)) hl hc
  have hPl := fun W (k : Only [] w W) (hh : RightP l) => place_any W A c l a h (hb.kept k (by simp)) hh.rise (by have := hh.len; omega)
  have hCl := fun W (k : Only [] w W) (hh : RightP l) => clone_any W A c l (hb.kept k (by simp)) (by have := hh.len; omega)
  have hps := fun (hh : RightP l) x (hx : findK l a h = some x) => findK_pos hh.rise (t := ⟨a, h, 0, 0, 0⟩) hx
  have k0 : Only [] w (w.alloc (.cells #[.int .u32 0, .int .u32 0, .int .u32 0, .int .u32 0, .int .u32 0] 27)) := (Only.refl [] w).alloc _
  have b0 := Bx.zero w
  clear hR
  generalize posO l ⟨a, h, 0, 0, 0⟩ = po at *
  generalize hf : findK l a h = fk at *
  replace hf := Lib.hid hf
  replace hRt := Lib.hid hRt
  replace hPl := Lib.hid hPl
  replace hCl := Lib.hid hCl
  replace hps := Lib.hid hps
  replace r1 := Lib.hid r1
  replace r14 := Lib.hid r14
  replace r0 := Lib.hid r0
  go_enter Try.func21, Try.ntmps21
  go_wp2_with fail
  refine (hRt.out _ k0).mono ?_; rintro e w1 ⟨rfl, k1'⟩
  have k1 := k0.trans k1'
  have b1 := Bx.kept b0 k1' (by simp)
  have hq0 : w.heap.size ≤ w.heap.size := Nat.le_refl _
  generalize hq : w.heap.size = q at hq0 b1 ⊢
  replace hq0 : w.heap.size ≤ q := by omega
  replace hq := Lib.hid hq
  clear b0 k1'
  by_cases hr : RightP l
  rotate_left
  · have hR := r1.out hr
    subst hR
    rw [decide_eq_false hr]
    go_wp2_with (refine wpList_store_op zeroO zeroO rfl _ _ rfl q rfl rfl b1 ?_; intro w5 b5 k5)
    refine bodyPost_ret (v := .tuple #[.slice none 0 0, opV zeroO, .int .i64 1]) (results_mid rfl _ _ q rfl _ b5 _ _ rfl rfl) rfl ?_
    exact ⟨_, rfl, Mine.start _ _ _ (k1.own k5 hq0)⟩
  rw [decide_eq_true hr]
  have hrp := hr
  have hl12 : l.length ≤ 12 := hr.len
  replace hrp := Lib.hid hrp
  clear hr
  go_wp2_with fail
  refine (hPl.out _ k1 hrp.out).mono ?_; rintro e w2 ⟨rfl, k2'⟩
  have k2 := k1.trans k2'
  have b2 := Bx.kept b1 k2' (by simp)
  clear b1 k2' k1
  cases fk with
  | none =>
    have hR := r14.out hrp.out rfl
    subst hR
    simp only [Option.isSome_none]
    go_wp2_with (refine wpList_store_op zeroO zeroO rfl _ _ rfl q rfl rfl b2 ?_; intro w5 b5 k5)
    refine bodyPost_ret (v := .tuple #[.slice none 0 0, opV zeroO, .int .i64 14]) (results_mid rfl _ _ q rfl _ b5 _ _ rfl rfl) rfl ?_
    exact ⟨_, rfl, Mine.start _ _ _ (k2.own k5 hq0)⟩
  | some x =>
  simp only [Option.isSome_some]
  have hR := r0.out hrp.out x rfl
  have hpx := hps.out hrp.out x rfl
  have hpl := (List.getElem?_eq_some_iff.1 hpx).1
  have hpe := (List.getElem?_eq_some_iff.1 hpx).2
  obtain ⟨g, o, rfl, hg, hat⟩ := hb.get hpl
  have hcx := fun W (k : Only [] w W) => ops_at (hat.kept k (by simp)) hpl
  rw [hpe] at hcx
  obtain ⟨x0, x1, x2, x3, x4⟩ := x
  simp only at hcx
  have hw := wrap_succ1 po (by omega)
  have hw0 : (0 : Int) ≤ (po : Int) := by omega
  have KP : Hid (∀ w', Only [] w2 w' → w'.cell? ⟨g, o + po * 5, none⟩ = some (.int .u32 x0) ∧ w'.cell? ⟨g, o + po * 5 + 1, none⟩ = some (.int .u32 x1) ∧ w'.cell? ⟨g, o + po * 5 + 2, none⟩ = some (.int .u32 x2) ∧ w'.cell? ⟨g, o + po * 5 + 3, none⟩ = some (.int .u32 x3) ∧ w'.cell? ⟨g, o + po * 5 + 4, none⟩ = some (.int .u32 (x4 : Int))) := fun w' kk => hcx w' (k2.trans kk)
  replace hR := Lib.hid hR
  replace hpx := Lib.hid hpx
  replace hpe := Lib.hid hpe
  have hgq : g < q := by have := hg; have := hq.out; omega
  clear r0 r1 r14 hps hRt hPl hcx hat
  go_wp2_with fail
  refine wp_region_held_drew (S := fun w' => w'.cell? ⟨g, o + po * 5, none⟩ = some (.int .u32 x0) ∧ w'.cell? ⟨g, o + po * 5 + 1, none⟩ = some (.int .u32 x1) ∧ w'.cell? ⟨g, o + po * 5 + 2, none⟩ = some (.int .u32 x2) ∧ w'.cell? ⟨g, o + po * 5 + 3, none⟩ = some (.int .u32 x3) ∧ w'.cell? ⟨g, o + po * 5 + 4, none⟩ = some (.int .u32 (x4 : Int))) (by kernel_rfl) (KP.out _ (Only.refl _ _).drew) (fun hHeld => ?_)
  refine held_take 0 (.slice (some ⟨g, o, none⟩) l.length c) rfl (by kernel_rfl) (by kernel_rfl) (by kernel_rfl) (fun _ _ _ h => h) hHeld (Or.inl ⟨by rfl, fun w' hSw => by (try dsimp only at hSw); (try subst hSw); go_simp⟩) ?_
  simp only [Act.put, List.setIfInBounds_toArray, List.set_cons_zero, List.set_cons_succ]
  refine held_take 2 (.int .i64 po) rfl (by kernel_rfl) (by kernel_rfl) (by kernel_rfl) (fun _ _ _ h => h) hHeld (Or.inl ⟨by rfl, fun w' hSw => by (try dsimp only at hSw); (try subst hSw); go_simp⟩) ?_
  simp only [Act.put, List.setIfInBounds_toArray, List.set_cons_zero, List.set_cons_succ]
  refine held_take 3 (.int .i64 po) rfl (by kernel_rfl) (by kernel_rfl) (by kernel_rfl) (fun _ _ _ h => h) hHeld (Or.inl ⟨by rfl, fun w' hSw => by (try dsimp only at hSw); (try subst hSw); go_simp⟩) ?_
  simp only [Act.put, List.setIfInBounds_toArray, List.set_cons_zero, List.set_cons_succ]
  refine held_take 4 (.int .i64 ((po : Int) + 1)) rfl (by kernel_rfl) (by kernel_rfl) (by kernel_rfl) (fun _ _ _ h => h) hHeld (Or.inl ⟨by rfl, fun w' hSw => by (try dsimp only at hSw); (try subst hSw); go_simp⟩) ?_
  simp only [Act.put, List.setIfInBounds_toArray, List.set_cons_zero, List.set_cons_succ]
  refine held_take 6 (.slice (some ⟨g, o, none⟩) l.length c) rfl (by kernel_rfl) (by kernel_rfl) (by kernel_rfl) (fun _ _ _ h => h) hHeld (Or.inl ⟨by rfl, fun w' hSw => by (try dsimp only at hSw); (try subst hSw); go_simp⟩) ?_
  simp only [Act.put, List.setIfInBounds_toArray, List.set_cons_zero, List.set_cons_succ]
  refine held_take 7 (.int .i64 po) rfl (by kernel_rfl) (by kernel_rfl) (by kernel_rfl) (fun _ _ _ h => h) hHeld (Or.inl ⟨by rfl, fun w' hSw => by (try dsimp only at hSw); (try subst hSw); go_simp⟩) ?_
  simp only [Act.put, List.setIfInBounds_toArray, List.set_cons_zero, List.set_cons_succ]
  refine held_take 8 (.pointer (some ⟨g, o + po * 5, none⟩)) rfl (by kernel_rfl) (by kernel_rfl) (by kernel_rfl) (fun _ _ _ h => h) hHeld (Or.inl ⟨by rfl, fun w' hSw => by (try dsimp only at hSw); (try subst hSw); go_simp⟩) ?_
  simp only [Act.put, List.setIfInBounds_toArray, List.set_cons_zero, List.set_cons_succ]
  refine held_take 9 (.agg #[.int .u32 x0, .int .u32 x1, .int .u32 x2, .int .u32 x3, .int .u32 (x4 : Int)]) rfl (by kernel_rfl) (by kernel_rfl) (by kernel_rfl) (fun _ _ _ h => h) hHeld (Or.inl ⟨by rfl, fun w' hSw => by (try dsimp only at hSw); (try subst hSw); go_simp⟩) ?_
  simp only [Act.put, List.setIfInBounds_toArray, List.set_cons_zero, List.set_cons_succ]
  have k3 := k2.drew
  have b3 : Bx w2.drew q zeroO := Bx.kept b2 (Only.refl [] _).drew (by simp)
  refine held_step 1 rfl (by kernel_rfl) (fun K hK => ?_)
  go_simp
  refine (hCl.out _ k3 hrp.out).mono ?_; rintro e wc ⟨vc, rfl, hmc⟩
  have bc := Bx.kept b3 hmc.only (by simp)
  go_wp2_with fail
  refine hK.out _ _ (KP.out _ ((Only.refl _ _).drew.trans hmc.only)) (fun hHeld => ?_)
  clear hK K
  have hqc : q < w2.drew.heap.size := b3.lt
  refine held_step 5 rfl (by kernel_rfl) (fun K hK => ?_)
  go_simp
  refine (delete_any w2.drew wc vc l po hmc hpl (by omega)).mono ?_; rintro e wd ⟨vd, rfl, hmd⟩
  have bd := Bx.kept b3 hmd.only (by simp)
  go_wp2_with fail
  refine hK.out _ _ (KP.out _ ((Only.refl _ _).drew.trans hmd.only)) (fun hHeld => ?_)
  clear hK K
  have hvd : ∀ g, vd.ownBlock = some g → g ≠ q := fun g' hg' => by have := hmd.new g' hg'; omega
  refine held_take 10 (vd) rfl (by kernel_rfl) (by kernel_rfl) (by kernel_rfl) (fun _ _ _ h => h) hHeld (Or.inl ⟨by rfl, fun w' hSw => by (try dsimp only at hSw); (try subst hSw); go_simp⟩) ?_
  simp only [Act.put, List.setIfInBounds_toArray, List.set_cons_zero, List.set_cons_succ]
  refine held_step 11 rfl (by kernel_rfl) (fun K hK => ?_)
  rw [if_pos (by rfl)]
  refine wp_store_op ⟨x0, x1, x2, x3, x4⟩ zeroO _ _ rfl q rfl rfl bd ?_
  intro w5 b5 k5
  have k25 : Only [q] w2 w5 := ((Only.refl [q] w2).drew.trans (hmd.only.more (by simp))).trans k5
  refine hK.out _ _ (by
    obtain ⟨z0, z1, z2, z3, z4⟩ := KP.out _ ((Only.refl _ _).drew.trans hmd.only)
    have hn : g ∉ [q] := by simp; omega
    exact ⟨k5.cell z0 hn, k5.cell z1 hn, k5.cell z2 hn, k5.cell z3 hn, k5.cell z4 hn⟩) (fun hHeld => ?_)
  clear hK K
  simp only [Act.put]
  refine held_take 12 (.int .i64 0) rfl (by kernel_rfl) (by kernel_rfl) (by kernel_rfl) (fun _ _ _ h => h) hHeld (Or.inl ⟨by rfl, fun w' hSw => by (try dsimp only at hSw); (try subst hSw); go_simp⟩) ?_
  simp only [Act.put, List.setIfInBounds_toArray, List.set_cons_zero, List.set_cons_succ]
  refine wpAnyH_done (by kernel_rfl) ?_ _
  clear hHeld
  have hmf : Mine opE 5 27 w w5 vd _ := ⟨ownsRow_kept' hmd.own k5 (fun g hg => by simpa using hvd g hg), fun g hg => Nat.le_trans k3.size (hmd.new g hg), (k3.trans hmd.only).own k5 hq0⟩
  have hr' := hR.out
  subst hr'
  replace hmf := Lib.hid hmf
  go_wp2_with fail
  refine bodyPost_ret (v := .tuple #[vd, opV ⟨x0, x1, x2, x3, x4⟩, .int .i64 0]) (results_mid rfl _ _ q rfl _ b5 _ _ rfl rfl) rfl ?_
  exact ⟨_, rfl, hmf.out⟩

set_option maxRecDepth 100000 in
set_option maxHeartbeats 8000000 in
theorem clear_any (w : World) (A : Option Addr) (c : Nat) (l : List Opn) (a : Int) (hb : Els opE 5 w A l) (hl : l.length ≤ 9223372036854775807) (hc : l.length ≤ c) :
    Calls Try.prog 23 #[.slice A l.length c, .int .u32 a] w fun e w' => PairAns w w' e (clearR l a) := by
  obtain ⟨R, hR⟩ : ∃ R, R = clearR l a := ⟨_, rfl⟩
  rw [← hR]
  have r1 : ¬ RightP l → R = ([], 1) := fun k => by rw [hR]; unfold clearR; rw [if_neg k]
  have r0 : RightP l → R = (clearL l a, 0) := fun k => by rw [hR]; unfold clearR; rw [if_pos k]
  have hRt := fun W (k : Only [] w W) => right_any W A c l (hb.kept k (by simp)) hl hc
  have hCl := fun W (k : Only [] w W) (hh : RightP l) => clone_any W A c l (hb.kept k (by simp)) (by have := hh.len; omega)
  have k0 : Only [] w (w.alloc (.cells #[.int .u32 a] 23)) := (Only.refl [] w).alloc _
  have c0 := cell_new w 23 (.int .u32 a)
  have hq : w.heap.size < (w.alloc (.cells #[.int .u32 a] 23)).heap.size := by simp
  clear hR
  replace hRt := Lib.hid hRt
  replace hCl := Lib.hid hCl
  replace r1 := Lib.hid r1
  replace r0 := Lib.hid r0
  go_enter Try.func23, Try.ntmps23
  go_wp2_with fail
  refine (hRt.out _ k0).mono ?_; rintro e w1 ⟨rfl, k1'⟩
  have k1 := k0.trans k1'
  have c1 := k1'.cell c0 (by simp)
  have hq1 : w.heap.size < w1.heap.size := Nat.lt_of_lt_of_le hq k1'.size
  clear k1' c0 hq
  by_cases hr : RightP l
  rotate_left
  · have hR := r1.out hr
    subst hR
    rw [decide_eq_false hr]
    go_wp2
    go_ret2
    exact PairAns.no k1
  rw [decide_eq_true hr]
  have hR := r0.out hr
  have hl12 : l.length ≤ 12 := hr.len
  have hrp := hr
  replace hrp := Lib.hid hrp
  replace hR := Lib.hid hR
  clear hr r0 r1
  go_wp2_with fail
  refine (hCl.out _ k1 hrp.out).mono ?_; rintro e w2 ⟨vc, rfl, hmc⟩
  have c2 := hmc.only.cell c1 (by simp)
  have hne : ∀ g, vc.ownBlock = some g → g ≠ w.heap.size := fun g hg => by have := hmc.new g hg; omega
  go_wp2_with fail
  refine (delfunc_any w1 w2 vc l a w.heap.size hmc (by omega) c2 hne).mono ?_; rintro e w3 ⟨vd, rfl, hmd⟩
  have hmf := Mine.from k1 hmd
  have hr' := hR.out
  subst hr'
  replace hmf := Lib.hid hmf
  go_wp2
  go_ret2
  exact ⟨_, rfl, hmf.out⟩
end Go.Proofs.Ythclpefomhakdaa
