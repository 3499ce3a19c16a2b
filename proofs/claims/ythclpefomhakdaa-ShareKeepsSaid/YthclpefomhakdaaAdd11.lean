/- Add: the program's. -/
import Derived.Test.YthclpefomhakdaaRight11
import Derived.Test.YthclpefomhakdaaPlace11
import Derived.Test.YthclpefomhakdaaIns11
import Derived.Test.YthclpefomhakdaaAns11
namespace Go.Proofs.Ythclpefomhakdaa
open Go.RowKit

theorem posO_key (l : List Opn) (o : Opn) : posO l ⟨o.client, o.handle, 0, 0, 0⟩ = posO l o := rfl
set_option maxRecDepth 100000 in
set_option maxHeartbeats 8000000 in
theorem add_any (w : World) (A : Option Addr) (c : Nat) (l : List Opn) (o : Opn) (hb : Els opE 5 w A l) (hl : l.length ≤ 9223372036854775807) (hc : l.length ≤ c) :
    Calls Try.prog 18 #[.slice A l.length c, opV o] w fun e w' => PairAns w w' e (addR l o) := by
  obtain ⟨R, hR⟩ : ∃ R, R = addR l o := ⟨_, rfl⟩
  rw [← hR]
  replace hR := Lib.hid hR
  have hRt := fun W (k : Only [] w W) => right_any W A c l (hb.kept k (by simp)) hl hc
  have hV := fun W => valid_any W o
  have hPl := fun W (k : Only [] w W) (h : RightP l) => place_any W A c l o.client o.handle (hb.kept k (by simp)) h.rise (by have := h.len; omega)
  have hFu := fun W (k : Only [] w W) => full_any W A c l o.client (hb.kept k (by simp)) hl
  have hDe := fun W (k : Only [] w W) (h : RightP l) (v : validO o) => denied_any W A c l o v h.ok (hb.kept k (by simp)) hl
  have hCl := fun W (k : Only [] w W) (h : RightP l) => clone_any W A c l (hb.kept k (by simp)) (by have := h.len; omega)
  rw [posO_key] at hPl
  have ho := posO_le l o
  have bo := Bx.new w o
  have k0 : Only [] w (w.alloc (.cells #[.int .u32 o.client, .int .u32 o.handle, .int .u32 o.file, .int .u32 o.access, .int .u32 (o.deny : Int)] 27)) := (Only.refl [] w).alloc _
  have r1 := addR_1 (l := l) (o := o)
  have r8 := addR_8 (l := l) (o := o)
  have r16 := addR_16 (l := l) (o := o)
  have r13 := addR_13 (l := l) (o := o)
  have r0 := addR_0 (l := l) (o := o)
  rw [← hR.out] at r1 r8 r16 r13 r0
  clear hR
  generalize posO l o = po at *
  generalize hf : (findK l o.client o.handle).isSome = fs at *
  generalize mineN l o.client = mn at *
  obtain ⟨o0, o1, o2, o3, o4⟩ := o
  have hv : opV ⟨o0, o1, o2, o3, o4⟩ = .agg #[.int .u32 o0, .int .u32 o1, .int .u32 o2, .int .u32 o3, .int .u32 (o4 : Int)] := rfl
  rw [hv] at hV hDe ⊢
  clear hv
  simp only at hPl hFu bo k0
  replace hRt := Lib.hid hRt
  replace hV := Lib.hid hV
  replace hPl := Lib.hid hPl
  replace hFu := Lib.hid hFu
  replace hDe := Lib.hid hDe
  replace hCl := Lib.hid hCl
  replace hf := Lib.hid hf
  replace r1 := Lib.hid r1
  replace r8 := Lib.hid r8
  replace r16 := Lib.hid r16
  replace r13 := Lib.hid r13
  replace r0 := Lib.hid r0
  go_enter Try.func18, Try.ntmps18
  go_wp2_with fail
  refine (hRt.out _ k0).mono ?_; rintro e w1 ⟨rfl, k1'⟩
  have k1 := k0.trans k1'
  have b1 := Bx.kept bo k1' (by simp)
  have hg : w.heap.size < w1.heap.size := b1.lt
  generalize w.heap.size = q at *
  obtain ⟨c0, c1, c2, c3, c4⟩ := b1.cells
  simp only at c0 c1 c2 c3 c4
  clear bo k1'
  by_cases hr : RightP l
  rotate_left
  · have hR := r1.out (fun h => hr h.1)
    subst hR
    rw [decide_eq_false hr]
    go_wp2
    go_ret2
    exact PairAns.no k1
  rw [decide_eq_true hr]
  replace hr := Lib.hid hr
  go_wp2_with fail
  refine (hV.out _).mono ?_; rintro e w2 ⟨rfl, k2'⟩
  have k2 := k1.trans k2'
  have b2 := Bx.kept b1 k2' (by simp)
  clear c0 c1 c2 c3 c4 b1 k2' k1 k0
  obtain ⟨c0, c1, c2, c3, c4⟩ := b2.cells
  simp only at c0 c1 c2 c3 c4
  by_cases hv : validO ⟨o0, o1, o2, o3, o4⟩
  rotate_left
  · have hR := r1.out (fun h => hv h.2)
    subst hR
    rw [decide_eq_false hv]
    go_wp2
    go_ret2
    exact PairAns.no k2
  rw [decide_eq_true hv]
  have hrv : Hid (RightP l ∧ validO ⟨o0, o1, o2, o3, o4⟩) := ⟨hr.out, hv⟩
  replace hv := Lib.hid hv
  go_wp2_with fail
  refine (hPl.out _ k2 hr.out).mono ?_; rintro e w3 ⟨rfl, k3'⟩
  have k3 := k2.trans k3'
  have b3 := Bx.kept b2 k3' (by simp)
  clear c0 c1 c2 c3 c4 b2 k3' k2
  obtain ⟨c0, c1, c2, c3, c4⟩ := b3.cells
  simp only at c0 c1 c2 c3 c4
  cases fs with
  | true =>
    have hR := r8.out hrv.out rfl
    subst hR
    go_wp2
    go_ret2
    exact PairAns.no k3
  | false =>
  go_wp2_with fail
  refine (hFu.out _ k3).mono ?_; rintro e w4 ⟨rfl, k4'⟩
  have k4 := k3.trans k4'
  have b4 := Bx.kept b3 k4' (by simp)
  clear c0 c1 c2 c3 c4 b3 k4' k3
  obtain ⟨c0, c1, c2, c3, c4⟩ := b4.cells
  simp only at c0 c1 c2 c3 c4
  by_cases hfu : 12 ≤ l.length ∨ 4 ≤ mn
  · have hR := r16.out hrv.out (by trivial) hfu
    subst hR
    rw [decide_eq_true hfu]
    replace hfu := Lib.hid hfu
    go_wp2
    go_ret2
    exact PairAns.no k4
  rw [decide_eq_false hfu]
  have hl12 : l.length ≤ 12 := by omega
  replace hfu := Lib.hid hfu
  go_wp2_with fail
  refine (hDe.out _ k4 hr.out hv.out).mono ?_; rintro e w5 ⟨rfl, k5'⟩
  have k5 := k4.trans k5'
  have b5 := Bx.kept b4 k5' (by simp)
  clear c0 c1 c2 c3 c4 b4 k5' k4
  obtain ⟨c0, c1, c2, c3, c4⟩ := b5.cells
  simp only at c0 c1 c2 c3 c4
  by_cases hde : ∃ y ∈ l, clashO ⟨o0, o1, o2, o3, o4⟩ y
  · have hR := r13.out hrv.out (by trivial) hfu.out hde
    subst hR
    rw [decide_eq_true hde]
    replace hde := Lib.hid hde
    go_wp2
    go_ret2
    exact PairAns.no k5
  rw [decide_eq_false hde]
  have hR := r0.out hrv.out (by trivial) hfu.out hde
  replace hR := Lib.hid hR
  replace hde := Lib.hid hde
  clear r0 r1 r8 r13 r16
  have KP : Hid (∀ w', Only [] w5 w' → w'.cell? ⟨q, 0, none⟩ = some (.int .u32 o0) ∧ w'.cell? ⟨q, 1, none⟩ = some (.int .u32 o1) ∧ w'.cell? ⟨q, 2, none⟩ = some (.int .u32 o2) ∧ w'.cell? ⟨q, 3, none⟩ = some (.int .u32 o3) ∧ w'.cell? ⟨q, 4, none⟩ = some (.int .u32 (o4 : Int))) := fun w' kk => (Bx.kept b5 kk (by simp)).cells
  clear c0 c1 c2 c3 c4 b5
  go_wp2_with fail
  have k6 := k5.drew
  refine wp_region_held_drew (S := fun w' => w'.cell? ⟨q, 0, none⟩ = some (.int .u32 o0) ∧ w'.cell? ⟨q, 1, none⟩ = some (.int .u32 o1) ∧ w'.cell? ⟨q, 2, none⟩ = some (.int .u32 o2) ∧ w'.cell? ⟨q, 3, none⟩ = some (.int .u32 o3) ∧ w'.cell? ⟨q, 4, none⟩ = some (.int .u32 (o4 : Int))) (by kernel_rfl) (KP.out _ (Only.refl _ _).drew) (fun hHeld => ?_)
  refine held_take 0 (.slice A l.length c) rfl (by kernel_rfl) (by kernel_rfl) (by kernel_rfl) (fun _ _ _ h => h) hHeld (Or.inl ⟨by rfl, fun w' hSw => by (try dsimp only at hSw); (try subst hSw); go_simp⟩) ?_
  simp only [Act.put, List.setIfInBounds_toArray, List.set_cons_zero, List.set_cons_succ]
  refine held_take 2 (.int .i64 po) rfl (by kernel_rfl) (by kernel_rfl) (by kernel_rfl) (fun _ _ _ h => h) hHeld (Or.inl ⟨by rfl, fun w' hSw => by (try dsimp only at hSw); (try subst hSw); go_simp⟩) ?_
  simp only [Act.put, List.setIfInBounds_toArray, List.set_cons_zero, List.set_cons_succ]
  refine held_take 3 (.agg #[.int .u32 o0, .int .u32 o1, .int .u32 o2, .int .u32 o3, .int .u32 (o4 : Int)]) rfl (by kernel_rfl) (by kernel_rfl) (by kernel_rfl) (fun _ _ _ h => h) hHeld (Or.inl ⟨by rfl, fun w' hSw => by (try dsimp only at hSw); (try subst hSw); go_simp⟩) ?_
  simp only [Act.put, List.setIfInBounds_toArray, List.set_cons_zero, List.set_cons_succ]
  refine held_step2 1 4 rfl rfl (by kernel_rfl) (fun K hK => ?_) (fun K hK => ?_)
  · go_simp
    refine (hCl.out _ k6 hr.out).mono ?_; rintro e wc ⟨vc, rfl, hmc⟩
    go_wp2_with fail
    refine hK.out _ _ (KP.out _ ((Only.refl _ _).drew.trans hmc.only)) (fun hHeld => ?_)
    clear hK K
    have bq : Blk (wc.alloc (.cells #[.int .u32 o0, .int .u32 o1, .int .u32 o2, .int .u32 o3, .int .u32 (o4 : Int)] 27)) wc.heap.size 27 (opA ⟨o0, o1, o2, o3, o4⟩) := Blk.new _ _ _
    have hm9 := hmc.keep ((Only.refl [] wc).alloc (.cells #[.int .u32 o0, .int .u32 o1, .int .u32 o2, .int .u32 o3, .int .u32 (o4 : Int)] 27))
    have hvq : ∀ g, vc.ownBlock = some g → g ≠ wc.heap.size := fun g hg => by have := (hmc.own.lt g hg).2; omega
    have hk10 := hmc.only.alloc (.cells #[.int .u32 o0, .int .u32 o1, .int .u32 o2, .int .u32 o3, .int .u32 (o4 : Int)] 27)
    refine held_step 4 rfl (by kernel_rfl) (fun K hK => ?_)
    go_simp
    go_wp2_with fail
    refine hK.out _ _ (KP.out _ ((Only.refl _ _).drew.trans hk10)) (fun hHeld => ?_)
    clear hK K
    generalize (wc.alloc (.cells #[.int .u32 o0, .int .u32 o1, .int .u32 o2, .int .u32 o3, .int .u32 (o4 : Int)] 27)) = w10 at *
    generalize wc.heap.size = gq at *
    refine held_step 5 rfl (by kernel_rfl) (fun K hK => ?_)
    go_simp
    refine (insert_any w5.drew w10 vc l po ⟨o0, o1, o2, o3, o4⟩ gq hm9 ho (by omega) bq hvq).mono ?_; rintro e wi ⟨vi, rfl, hmi⟩
    go_wp2_with fail
    refine hK.out _ _ (KP.out _ ((Only.refl _ _).drew.trans hmi.only)) (fun hHeld => ?_)
    clear hK K
    refine held_take 6 (vi) rfl (by kernel_rfl) (by kernel_rfl) (by kernel_rfl) (fun _ _ _ h => h) hHeld (Or.inl ⟨by rfl, fun w' hSw => by (try dsimp only at hSw); (try subst hSw); go_simp⟩) ?_
    simp only [Act.put, List.setIfInBounds_toArray, List.set_cons_zero, List.set_cons_succ]
    refine held_take 7 (.int .i64 0) rfl (by kernel_rfl) (by kernel_rfl) (by kernel_rfl) (fun _ _ _ h => h) hHeld (Or.inl ⟨by rfl, fun w' hSw => by (try dsimp only at hSw); (try subst hSw); go_simp⟩) ?_
    simp only [Act.put, List.setIfInBounds_toArray, List.set_cons_zero, List.set_cons_succ]
    refine wpAnyH_done (by kernel_rfl) ?_ _
    clear hHeld
    have hmf := Mine.from k6 hmi
    have hr' := hR.out
    subst hr'
    replace hmf := Lib.hid hmf
    go_wp2
    go_ret2
    exact ⟨_, rfl, hmf.out⟩
  · go_simp
    have bq0 : Blk (w5.alloc (.cells #[.int .u32 o0, .int .u32 o1, .int .u32 o2, .int .u32 o3, .int .u32 (o4 : Int)] 27)).drew w5.heap.size 27 (opA ⟨o0, o1, o2, o3, o4⟩) := Blk.new _ _ _
    have hk10 : Only [] w (w5.alloc (.cells #[.int .u32 o0, .int .u32 o1, .int .u32 o2, .int .u32 o3, .int .u32 (o4 : Int)] 27)).drew := k6.alloc (.cells #[.int .u32 o0, .int .u32 o1, .int .u32 o2, .int .u32 o3, .int .u32 (o4 : Int)] 27)
    have hkd : Only [] w5.drew (w5.alloc (.cells #[.int .u32 o0, .int .u32 o1, .int .u32 o2, .int .u32 o3, .int .u32 (o4 : Int)] 27)).drew := (Only.refl [] w5.drew).alloc (.cells #[.int .u32 o0, .int .u32 o1, .int .u32 o2, .int .u32 o3, .int .u32 (o4 : Int)] 27)
    have hkz : Only [] w5 (w5.alloc (.cells #[.int .u32 o0, .int .u32 o1, .int .u32 o2, .int .u32 o3, .int .u32 (o4 : Int)] 27)).drew := ((Only.refl [] w5).alloc (.cells #[.int .u32 o0, .int .u32 o1, .int .u32 o2, .int .u32 o3, .int .u32 (o4 : Int)] 27)).drew
    go_wp2_with fail
    refine hK.out _ _ (KP.out _ hkz) (fun hHeld => ?_)
    clear hK K
    have hgq : w5.heap.size < (w5.alloc (.cells #[.int .u32 o0, .int .u32 o1, .int .u32 o2, .int .u32 o3, .int .u32 (o4 : Int)] 27)).drew.heap.size := by simp
    generalize (w5.alloc (.cells #[.int .u32 o0, .int .u32 o1, .int .u32 o2, .int .u32 o3, .int .u32 (o4 : Int)] 27)).drew = w9 at *
    generalize w5.heap.size = gq at *
    refine held_step 1 rfl (by kernel_rfl) (fun K hK => ?_)
    go_simp
    refine (hCl.out _ hk10 hr.out).mono ?_; rintro e wc ⟨vc, rfl, hmc⟩
    have bq : Blk wc gq 27 (opA ⟨o0, o1, o2, o3, o4⟩) := bq0.kept hmc.only (by simp)
    go_wp2_with fail
    refine hK.out _ _ (KP.out _ (hkz.trans hmc.only)) (fun hHeld => ?_)
    clear hK K
    have hvq : ∀ g, vc.ownBlock = some g → g ≠ gq := fun g hg => by have := hmc.new g hg; omega
    have hm9 := Mine.from hkd hmc
    refine held_step 5 rfl (by kernel_rfl) (fun K hK => ?_)
    go_simp
    refine (insert_any w5.drew wc vc l po ⟨o0, o1, o2, o3, o4⟩ gq hm9 ho (by omega) bq hvq).mono ?_; rintro e wi ⟨vi, rfl, hmi⟩
    go_wp2_with fail
    refine hK.out _ _ (KP.out _ ((Only.refl _ _).drew.trans hmi.only)) (fun hHeld => ?_)
    clear hK K
    refine held_take 6 (vi) rfl (by kernel_rfl) (by kernel_rfl) (by kernel_rfl) (fun _ _ _ h => h) hHeld (Or.inl ⟨by rfl, fun w' hSw => by (try dsimp only at hSw); (try subst hSw); go_simp⟩) ?_
    simp only [Act.put, List.setIfInBounds_toArray, List.set_cons_zero, List.set_cons_succ]
    refine held_take 7 (.int .i64 0) rfl (by kernel_rfl) (by kernel_rfl) (by kernel_rfl) (fun _ _ _ h => h) hHeld (Or.inl ⟨by rfl, fun w' hSw => by (try dsimp only at hSw); (try subst hSw); go_simp⟩) ?_
    simp only [Act.put, List.setIfInBounds_toArray, List.set_cons_zero, List.set_cons_succ]
    refine wpAnyH_done (by kernel_rfl) ?_ _
    clear hHeld
    have hmf := Mine.from k6 hmi
    have hr' := hR.out
    subst hr'
    replace hmf := Lib.hid hmf
    go_wp2
    go_ret2
    exact ⟨_, rfl, hmf.out⟩
end Go.Proofs.Ythclpefomhakdaa
