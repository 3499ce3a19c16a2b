/- An open's place in a list that rises: slices.BinarySearchFunc, place. -/
import Derived.Test.YthclpefomhakdaaCmp11
namespace Go.Proofs.Ythclpefomhakdaa
open Go.RowKit

set_option maxRecDepth 100000 in
set_option maxHeartbeats 4000000 in
theorem search_any (w : World) (A : Option Addr) (c : Nat) (l : List Opn) (t : Opn) (hb : Els opE 5 w A l) (hr : l.Pairwise keyLt) (hl : l.length ≤ 1048576) :
    Calls Try.prog 48 #[.slice A l.length c, opV t, .func (.func 28) #[] #[]] w fun e w' => e = .returned (.tuple #[.int .i64 (posO l t : Nat), .bool (findK l t.client t.handle).isSome]) ∧ Only [] w w' := by
  have hlI : (l.length : Int) ≤ 1048576 := by omega
  have hp := posO_le l t
  have hat := findK_at hr t
  have hiff := fun (j : Nat) (x : Opn) => posO_iff hr (t := t) (j := j) (x := x)
  have hord := fun W (x : Opn) => order_any W x t
  have hlt_ := fun x : Opn => ordI_lt x t
  have heq_ := fun x : Opn => ordI_eq x t
  obtain ⟨F, hF⟩ : ∃ F : Opn → Int, F = fun x => ordI x t := ⟨_, rfl⟩
  have hFx : ∀ x, ordI x t = F x := fun x => by rw [hF]
  simp only [hFx] at hord hlt_ heq_
  clear hF hFx
  generalize findK l t.client t.handle = gi at *
  generalize posO l t = p at *
  have hk0 : Only [] w (w.alloc (.cells #[.int .u32 t.client, .int .u32 t.handle, .int .u32 t.file, .int .u32 t.access, .int .u32 (t.deny : Int)] 27)) := (Only.refl [] w).alloc _
  have bt := Bx.new w t
  obtain ⟨t0, t1, t2, t3, t4⟩ := t
  have hv : opV ⟨t0, t1, t2, t3, t4⟩ = .agg #[.int .u32 t0, .int .u32 t1, .int .u32 t2, .int .u32 t3, .int .u32 (t4 : Int)] := rfl
  rw [hv] at hord ⊢
  clear hv
  simp only at hk0 bt
  replace hat := Lib.hid hat
  replace hiff := Lib.hid hiff
  replace hr := Lib.hid hr
  replace hord := Lib.hid hord
  replace hlt_ := Lib.hid hlt_
  replace heq_ := Lib.hid heq_
  go_enter Try.func48, Try.ntmps48
  go_wp2_with fail
  generalize (w.alloc (.cells #[.int .u32 t0, .int .u32 t1, .int .u32 t2, .int .u32 t3, .int .u32 (t4 : Int)] 27)) = w0 at *
  generalize w.heap.size = q at *
  go_loopw [9, 10] (fun a b wr => ∃ lo hi : Nat, a = .int .i64 lo ∧ b = .int .i64 hi ∧ lo ≤ p ∧ p ≤ hi ∧ hi ≤ l.length ∧ Only [] w0 wr) (fun a b _ => (intOf b - intOf a).toNat)
  case atStart => exact ⟨0, l.length, rfl, rfl, Nat.zero_le _, hp, Nat.le_refl _, Only.refl _ _⟩
  case round =>
    obtain ⟨lo, hi, rfl, rfl, h1, h2, h3, hk⟩ := hrel
    have hkw := hk0.trans hk
    have bt' := Bx.kept bt hk (by simp)
    by_cases hlt : lo < hi
    · have hm : (lo + hi) / 2 < l.length := by omega
      obtain ⟨g, o, rfl, hg, hca⟩ := hb.get hm
      have hca' := hca.kept hkw (by simp)
      have hx : l[(lo + hi) / 2]? = some l[(lo + hi) / 2] := List.getElem?_eq_getElem hm
      have KP : Hid (∀ w', Only [] wr w' → w'.cell? ⟨g, o + (lo + hi) / 2 * 5, none⟩ = some (.int .u32 l[(lo + hi) / 2].client) ∧ w'.cell? ⟨g, o + (lo + hi) / 2 * 5 + 1, none⟩ = some (.int .u32 l[(lo + hi) / 2].handle) ∧ w'.cell? ⟨g, o + (lo + hi) / 2 * 5 + 2, none⟩ = some (.int .u32 l[(lo + hi) / 2].file) ∧ w'.cell? ⟨g, o + (lo + hi) / 2 * 5 + 3, none⟩ = some (.int .u32 l[(lo + hi) / 2].access) ∧ w'.cell? ⟨g, o + (lo + hi) / 2 * 5 + 4, none⟩ = some (.int .u32 (l[(lo + hi) / 2].deny : Int)) ∧ w'.cell? ⟨q, 0, none⟩ = some (.int .u32 t0) ∧ w'.cell? ⟨q, 1, none⟩ = some (.int .u32 t1) ∧ w'.cell? ⟨q, 2, none⟩ = some (.int .u32 t2) ∧ w'.cell? ⟨q, 3, none⟩ = some (.int .u32 t3) ∧ w'.cell? ⟨q, 4, none⟩ = some (.int .u32 (t4 : Int))) := fun w' kk => by
        obtain ⟨a0, a1, a2, a3, a4⟩ := ops_at (hca'.kept kk (by simp)) hm
        exact ⟨a0, a1, a2, a3, a4, (Bx.kept bt' kk (by simp)).cells⟩
      have hpx := hiff.out _ _ hx
      have hcx := fun W => hord.out W l[(lo + hi) / 2]
      have hl1 := hlt_.out l[(lo + hi) / 2]
      generalize l[(lo + hi) / 2] = x at *
      obtain ⟨x0, x1, x2, x3, x4⟩ := x
      unfold opV at hcx
      generalize F ⟨x0, x1, x2, x3, x4⟩ = r at *
      simp only at KP hpx hcx
      replace hx := Lib.hid hx
      replace hcx := Lib.hid hcx
      have hlow : r < 0 ↔ (lo + hi) / 2 < p := hl1.trans hpx
      clear hca hca' hpx hl1 bt' bt
      generalize hmd : (lo + hi) / 2 = md at *
      have hmdI : ((lo : Int) + (hi : Int)) / 2 = (md : Int) := by omega
      have hmdb : lo ≤ md ∧ md < hi := by omega
      by_cases hneg : r < 0
      · have dneg : decide (r < 0) = true := decide_eq_true hneg
        have hq := hlow.1 hneg
        replace hlow := Lib.hid hlow
        replace hmd := Lib.hid hmd
        replace hneg := Lib.hid hneg
        replace hmdI := Lib.hid hmdI
        go_wp2_with fail
        rw [hmdI.out]
        refine wp_region_held_drew (S := fun w' => w'.cell? ⟨g, o + md * 5, none⟩ = some (.int .u32 x0) ∧ w'.cell? ⟨g, o + md * 5 + 1, none⟩ = some (.int .u32 x1) ∧ w'.cell? ⟨g, o + md * 5 + 2, none⟩ = some (.int .u32 x2) ∧ w'.cell? ⟨g, o + md * 5 + 3, none⟩ = some (.int .u32 x3) ∧ w'.cell? ⟨g, o + md * 5 + 4, none⟩ = some (.int .u32 (x4 : Int)) ∧ w'.cell? ⟨q, 0, none⟩ = some (.int .u32 t0) ∧ w'.cell? ⟨q, 1, none⟩ = some (.int .u32 t1) ∧ w'.cell? ⟨q, 2, none⟩ = some (.int .u32 t2) ∧ w'.cell? ⟨q, 3, none⟩ = some (.int .u32 t3) ∧ w'.cell? ⟨q, 4, none⟩ = some (.int .u32 (t4 : Int))) (by kernel_rfl) (KP.out _ (Only.refl _ _).drew) (fun hHeld => ?_)
        refine held_take 0 (.func (.func 28) #[] #[]) rfl (by kernel_rfl) (by kernel_rfl) (by kernel_rfl) (fun _ _ _ h => h) hHeld (Or.inl ⟨by rfl, fun w' hSw => by (try dsimp only at hSw); (try subst hSw); go_simp⟩) ?_
        simp only [Act.put, List.setIfInBounds_toArray, List.set_cons_zero, List.set_cons_succ]
        refine held_take 1 (.slice (some ⟨g, o, none⟩) l.length c) rfl (by kernel_rfl) (by kernel_rfl) (by kernel_rfl) (fun _ _ _ h => h) hHeld (Or.inl ⟨by rfl, fun w' hSw => by (try dsimp only at hSw); (try subst hSw); go_simp⟩) ?_
        simp only [Act.put, List.setIfInBounds_toArray, List.set_cons_zero, List.set_cons_succ]
        refine held_take 2 (.int .i64 md) rfl (by kernel_rfl) (by kernel_rfl) (by kernel_rfl) (fun _ _ _ h => h) hHeld (Or.inl ⟨by rfl, fun w' hSw => by (try dsimp only at hSw); (try subst hSw); go_simp⟩) ?_
        simp only [Act.put, List.setIfInBounds_toArray, List.set_cons_zero, List.set_cons_succ]
        refine held_take 3 (.pointer (some ⟨g, o + md * 5, none⟩)) rfl (by kernel_rfl) (by kernel_rfl) (by kernel_rfl) (fun _ _ _ h => h) hHeld (Or.inl ⟨by rfl, fun w' hSw => by (try dsimp only at hSw); (try subst hSw); go_simp⟩) ?_
        simp only [Act.put, List.setIfInBounds_toArray, List.set_cons_zero, List.set_cons_succ]
        refine held_take 4 (.agg #[.int .u32 x0, .int .u32 x1, .int .u32 x2, .int .u32 x3, .int .u32 (x4 : Int)]) rfl (by kernel_rfl) (by kernel_rfl) (by kernel_rfl) (fun _ _ _ h => h) hHeld (Or.inl ⟨by rfl, fun w' hSw => by (try dsimp only at hSw); (try subst hSw); go_simp⟩) ?_
        simp only [Act.put, List.setIfInBounds_toArray, List.set_cons_zero, List.set_cons_succ]
        refine held_take 5 (.agg #[.int .u32 t0, .int .u32 t1, .int .u32 t2, .int .u32 t3, .int .u32 (t4 : Int)]) rfl (by kernel_rfl) (by kernel_rfl) (by kernel_rfl) (fun _ _ _ h => h) hHeld (Or.inl ⟨by rfl, fun w' hSw => by (try dsimp only at hSw); (try subst hSw); go_simp⟩) ?_
        simp only [Act.put, List.setIfInBounds_toArray, List.set_cons_zero, List.set_cons_succ]
        refine held_step 6 rfl (by kernel_rfl) (fun K hK => ?_)
        go_simp
        refine (hcx.out _).mono ?_; rintro e w3 ⟨rfl, k3⟩; replace k3 := k3.undrew
        go_wp2_with fail
        refine hK.out _ _ (KP.out _ k3) (fun hHeld => ?_)
        clear hK K
        refine held_take 7 (.bool true) rfl (by kernel_rfl) (by kernel_rfl) (by kernel_rfl) (fun _ _ _ h => h) hHeld (Or.inl ⟨by rfl, fun w' hSw => by (try dsimp only at hSw); (try subst hSw); go_simp⟩) ?_
        simp only [Act.put, List.setIfInBounds_toArray, List.set_cons_zero, List.set_cons_succ]
        refine wpAnyH_done (by kernel_rfl) ?_ _
        clear hHeld
        go_wp2_with fail
        go_roundw
        case rel => exact ⟨md + 1, hi, by go_num, rfl, by omega, h2, h3, hk.trans k3⟩
        case measure => simp [intOf]; omega
      · have dneg : decide (r < 0) = false := decide_eq_false hneg
        have hq : ¬ md < p := fun h => hneg (hlow.2 h)
        replace hlow := Lib.hid hlow
        replace hmd := Lib.hid hmd
        replace hneg := Lib.hid hneg
        replace hmdI := Lib.hid hmdI
        go_wp2_with fail
        rw [hmdI.out]
        refine wp_region_held_drew (S := fun w' => w'.cell? ⟨g, o + md * 5, none⟩ = some (.int .u32 x0) ∧ w'.cell? ⟨g, o + md * 5 + 1, none⟩ = some (.int .u32 x1) ∧ w'.cell? ⟨g, o + md * 5 + 2, none⟩ = some (.int .u32 x2) ∧ w'.cell? ⟨g, o + md * 5 + 3, none⟩ = some (.int .u32 x3) ∧ w'.cell? ⟨g, o + md * 5 + 4, none⟩ = some (.int .u32 (x4 : Int)) ∧ w'.cell? ⟨q, 0, none⟩ = some (.int .u32 t0) ∧ w'.cell? ⟨q, 1, none⟩ = some (.int .u32 t1) ∧ w'.cell? ⟨q, 2, none⟩ = some (.int .u32 t2) ∧ w'.cell? ⟨q, 3, none⟩ = some (.int .u32 t3) ∧ w'.cell? ⟨q, 4, none⟩ = some (.int .u32 (t4 : Int))) (by kernel_rfl) (KP.out _ (Only.refl _ _).drew) (fun hHeld => ?_)
        refine held_take 0 (.func (.func 28) #[] #[]) rfl (by kernel_rfl) (by kernel_rfl) (by kernel_rfl) (fun _ _ _ h => h) hHeld (Or.inl ⟨by rfl, fun w' hSw => by (try dsimp only at hSw); (try subst hSw); go_simp⟩) ?_
        simp only [Act.put, List.setIfInBounds_toArray, List.set_cons_zero, List.set_cons_succ]
        refine held_take 1 (.slice (some ⟨g, o, none⟩) l.length c) rfl (by kernel_rfl) (by kernel_rfl) (by kernel_rfl) (fun _ _ _ h => h) hHeld (Or.inl ⟨by rfl, fun w' hSw => by (try dsimp only at hSw); (try subst hSw); go_simp⟩) ?_
        simp only [Act.put, List.setIfInBounds_toArray, List.set_cons_zero, List.set_cons_succ]
        refine held_take 2 (.int .i64 md) rfl (by kernel_rfl) (by kernel_rfl) (by kernel_rfl) (fun _ _ _ h => h) hHeld (Or.inl ⟨by rfl, fun w' hSw => by (try dsimp only at hSw); (try subst hSw); go_simp⟩) ?_
        simp only [Act.put, List.setIfInBounds_toArray, List.set_cons_zero, List.set_cons_succ]
        refine held_take 3 (.pointer (some ⟨g, o + md * 5, none⟩)) rfl (by kernel_rfl) (by kernel_rfl) (by kernel_rfl) (fun _ _ _ h => h) hHeld (Or.inl ⟨by rfl, fun w' hSw => by (try dsimp only at hSw); (try subst hSw); go_simp⟩) ?_
        simp only [Act.put, List.setIfInBounds_toArray, List.set_cons_zero, List.set_cons_succ]
        refine held_take 4 (.agg #[.int .u32 x0, .int .u32 x1, .int .u32 x2, .int .u32 x3, .int .u32 (x4 : Int)]) rfl (by kernel_rfl) (by kernel_rfl) (by kernel_rfl) (fun _ _ _ h => h) hHeld (Or.inl ⟨by rfl, fun w' hSw => by (try dsimp only at hSw); (try subst hSw); go_simp⟩) ?_
        simp only [Act.put, List.setIfInBounds_toArray, List.set_cons_zero, List.set_cons_succ]
        refine held_take 5 (.agg #[.int .u32 t0, .int .u32 t1, .int .u32 t2, .int .u32 t3, .int .u32 (t4 : Int)]) rfl (by kernel_rfl) (by kernel_rfl) (by kernel_rfl) (fun _ _ _ h => h) hHeld (Or.inl ⟨by rfl, fun w' hSw => by (try dsimp only at hSw); (try subst hSw); go_simp⟩) ?_
        simp only [Act.put, List.setIfInBounds_toArray, List.set_cons_zero, List.set_cons_succ]
        refine held_step 6 rfl (by kernel_rfl) (fun K hK => ?_)
        go_simp
        refine (hcx.out _).mono ?_; rintro e w3 ⟨rfl, k3⟩; replace k3 := k3.undrew
        go_wp2_with fail
        refine hK.out _ _ (KP.out _ k3) (fun hHeld => ?_)
        clear hK K
        refine held_take 7 (.bool false) rfl (by kernel_rfl) (by kernel_rfl) (by kernel_rfl) (fun _ _ _ h => h) hHeld (Or.inl ⟨by rfl, fun w' hSw => by (try dsimp only at hSw); (try subst hSw); go_simp⟩) ?_
        simp only [Act.put, List.setIfInBounds_toArray, List.set_cons_zero, List.set_cons_succ]
        refine wpAnyH_done (by kernel_rfl) ?_ _
        clear hHeld
        go_wp2_with fail
        go_roundw
        case rel => exact ⟨lo, md, rfl, rfl, h1, by omega, by omega, hk.trans k3⟩
        case measure => simp [intOf]; omega
    · obtain rfl : lo = p := by omega
      obtain rfl : lo = hi := by omega
      by_cases hn : lo < l.length
      · obtain ⟨g, o, rfl, hg, hca⟩ := hb.get hn
        have hca' := hca.kept hkw (by simp)
        have hx : l[lo]? = some l[lo] := List.getElem?_eq_getElem hn
        have KP : Hid (∀ w', Only [] wr w' → w'.cell? ⟨g, o + lo * 5, none⟩ = some (.int .u32 l[lo].client) ∧ w'.cell? ⟨g, o + lo * 5 + 1, none⟩ = some (.int .u32 l[lo].handle) ∧ w'.cell? ⟨g, o + lo * 5 + 2, none⟩ = some (.int .u32 l[lo].file) ∧ w'.cell? ⟨g, o + lo * 5 + 3, none⟩ = some (.int .u32 l[lo].access) ∧ w'.cell? ⟨g, o + lo * 5 + 4, none⟩ = some (.int .u32 (l[lo].deny : Int)) ∧ w'.cell? ⟨q, 0, none⟩ = some (.int .u32 t0) ∧ w'.cell? ⟨q, 1, none⟩ = some (.int .u32 t1) ∧ w'.cell? ⟨q, 2, none⟩ = some (.int .u32 t2) ∧ w'.cell? ⟨q, 3, none⟩ = some (.int .u32 t3) ∧ w'.cell? ⟨q, 4, none⟩ = some (.int .u32 (t4 : Int))) := fun w' kk => by
          obtain ⟨a0, a1, a2, a3, a4⟩ := ops_at (hca'.kept kk (by simp)) hn
          exact ⟨a0, a1, a2, a3, a4, (Bx.kept bt' kk (by simp)).cells⟩
        have hcx := fun W => hord.out W l[lo]
        have hl1 := heq_.out l[lo]
        have hga := hat.out
        rw [hx] at hga
        generalize l[lo] = x at *
        obtain ⟨x0, x1, x2, x3, x4⟩ := x
        unfold opV at hcx
        generalize F ⟨x0, x1, x2, x3, x4⟩ = r at *
        simp only at KP hcx hga hl1
        have dres : (r == 0) = gi.isSome := by
          rw [hga]
          by_cases e : x0 = t0 ∧ x1 = t1
          · rw [if_pos e]; simpa using hl1.2 e
          · rw [if_neg e]; simpa using fun h => e (hl1.1 h)
        have dn : decide ((lo : Int) < (l.length : Int)) = true := decide_eq_true (by omega)
        obtain ⟨gb, hgb⟩ : ∃ gb, gb = gi.isSome := ⟨_, rfl⟩
        rw [← hgb] at dres
        replace hgb := Lib.hid hgb
        replace hx := Lib.hid hx
        replace hcx := Lib.hid hcx
        clear hca hca' hl1 bt' bt hga hat
        go_wp2_with fail
        refine wp_region_held_drew (S := fun w' => w'.cell? ⟨g, o + lo * 5, none⟩ = some (.int .u32 x0) ∧ w'.cell? ⟨g, o + lo * 5 + 1, none⟩ = some (.int .u32 x1) ∧ w'.cell? ⟨g, o + lo * 5 + 2, none⟩ = some (.int .u32 x2) ∧ w'.cell? ⟨g, o + lo * 5 + 3, none⟩ = some (.int .u32 x3) ∧ w'.cell? ⟨g, o + lo * 5 + 4, none⟩ = some (.int .u32 (x4 : Int)) ∧ w'.cell? ⟨q, 0, none⟩ = some (.int .u32 t0) ∧ w'.cell? ⟨q, 1, none⟩ = some (.int .u32 t1) ∧ w'.cell? ⟨q, 2, none⟩ = some (.int .u32 t2) ∧ w'.cell? ⟨q, 3, none⟩ = some (.int .u32 t3) ∧ w'.cell? ⟨q, 4, none⟩ = some (.int .u32 (t4 : Int))) (by kernel_rfl) (KP.out _ (Only.refl _ _).drew) (fun hHeld => ?_)
        refine held_take 0 (.int .i64 lo) rfl (by kernel_rfl) (by kernel_rfl) (by kernel_rfl) (fun _ _ _ h => h) hHeld (Or.inl ⟨by rfl, fun w' hSw => by (try dsimp only at hSw); (try subst hSw); go_simp⟩) ?_
        simp only [Act.put, List.setIfInBounds_toArray, List.set_cons_zero, List.set_cons_succ]
        refine held_take 1 (.int .i64 lo) rfl (by kernel_rfl) (by kernel_rfl) (by kernel_rfl) (fun _ _ _ h => h) hHeld (Or.inl ⟨by rfl, fun w' hSw => by (try dsimp only at hSw); (try subst hSw); go_simp⟩) ?_
        simp only [Act.put, List.setIfInBounds_toArray, List.set_cons_zero, List.set_cons_succ]
        refine held_take 2 (.int .i64 l.length) rfl (by kernel_rfl) (by kernel_rfl) (by kernel_rfl) (fun _ _ _ h => h) hHeld (Or.inl ⟨by rfl, fun w' hSw => by (try dsimp only at hSw); (try subst hSw); go_simp⟩) ?_
        simp only [Act.put, List.setIfInBounds_toArray, List.set_cons_zero, List.set_cons_succ]
        refine held_take 3 (.bool true) rfl (by kernel_rfl) (by kernel_rfl) (by kernel_rfl) (fun _ _ _ h => h) hHeld (Or.inl ⟨by rfl, fun w' hSw => by (try dsimp only at hSw); (try subst hSw); go_simp⟩) ?_
        simp only [Act.put, List.setIfInBounds_toArray, List.set_cons_zero, List.set_cons_succ]
        refine held_take 4 (.bool true) rfl (by kernel_rfl) (by kernel_rfl) (by kernel_rfl) (fun _ _ _ h => h) hHeld (Or.inl ⟨by rfl, fun w' hSw => by (try dsimp only at hSw); (try subst hSw); go_simp⟩) ?_
        simp only [Act.put, List.setIfInBounds_toArray, List.set_cons_zero, List.set_cons_succ]
        refine held_take 5 (.func (.func 28) #[] #[]) rfl (by kernel_rfl) (by kernel_rfl) (by kernel_rfl) (fun _ _ _ h => h) hHeld (Or.inl ⟨by rfl, fun w' hSw => by (try dsimp only at hSw); (try subst hSw); go_simp⟩) ?_
        simp only [Act.put, List.setIfInBounds_toArray, List.set_cons_zero, List.set_cons_succ]
        refine held_take 6 (.slice (some ⟨g, o, none⟩) l.length c) rfl (by kernel_rfl) (by kernel_rfl) (by kernel_rfl) (fun _ _ _ h => h) hHeld (Or.inl ⟨by rfl, fun w' hSw => by (try dsimp only at hSw); (try subst hSw); go_simp⟩) ?_
        simp only [Act.put, List.setIfInBounds_toArray, List.set_cons_zero, List.set_cons_succ]
        refine held_take 7 (.int .i64 lo) rfl (by kernel_rfl) (by kernel_rfl) (by kernel_rfl) (fun _ _ _ h => h) hHeld (Or.inl ⟨by rfl, fun w' hSw => by (try dsimp only at hSw); (try subst hSw); go_simp⟩) ?_
        simp only [Act.put, List.setIfInBounds_toArray, List.set_cons_zero, List.set_cons_succ]
        refine held_take 8 (.pointer (some ⟨g, o + lo * 5, none⟩)) rfl (by kernel_rfl) (by kernel_rfl) (by kernel_rfl) (fun _ _ _ h => h) hHeld (Or.inl ⟨by rfl, fun w' hSw => by (try dsimp only at hSw); (try subst hSw); go_simp⟩) ?_
        simp only [Act.put, List.setIfInBounds_toArray, List.set_cons_zero, List.set_cons_succ]
        refine held_take 9 (.agg #[.int .u32 x0, .int .u32 x1, .int .u32 x2, .int .u32 x3, .int .u32 (x4 : Int)]) rfl (by kernel_rfl) (by kernel_rfl) (by kernel_rfl) (fun _ _ _ h => h) hHeld (Or.inl ⟨by rfl, fun w' hSw => by (try dsimp only at hSw); (try subst hSw); go_simp⟩) ?_
        simp only [Act.put, List.setIfInBounds_toArray, List.set_cons_zero, List.set_cons_succ]
        refine held_take 10 (.agg #[.int .u32 t0, .int .u32 t1, .int .u32 t2, .int .u32 t3, .int .u32 (t4 : Int)]) rfl (by kernel_rfl) (by kernel_rfl) (by kernel_rfl) (fun _ _ _ h => h) hHeld (Or.inl ⟨by rfl, fun w' hSw => by (try dsimp only at hSw); (try subst hSw); go_simp⟩) ?_
        simp only [Act.put, List.setIfInBounds_toArray, List.set_cons_zero, List.set_cons_succ]
        refine held_step 11 rfl (by kernel_rfl) (fun K hK => ?_)
        go_simp
        refine (hcx.out _).mono ?_; rintro e w3 ⟨rfl, k3⟩; replace k3 := k3.undrew
        go_wp2_with fail
        refine hK.out _ _ (KP.out _ k3) (fun hHeld => ?_)
        clear hK K
        refine held_take 12 (.bool gb) rfl (by kernel_rfl) (by kernel_rfl) (by kernel_rfl) (fun _ _ _ h => h) hHeld (Or.inl ⟨by rfl, fun w' hSw => by (try dsimp only at hSw); (try subst hSw); go_simp⟩) ?_
        simp only [Act.put, List.setIfInBounds_toArray, List.set_cons_zero, List.set_cons_succ]
        refine held_take 13 (.bool gb) rfl (by kernel_rfl) (by kernel_rfl) (by kernel_rfl) (fun _ _ _ h => h) hHeld (Or.inl ⟨by rfl, fun w' hSw => by (try dsimp only at hSw); (try subst hSw); go_simp⟩) ?_
        simp only [Act.put, List.setIfInBounds_toArray, List.set_cons_zero, List.set_cons_succ]
        refine held_take 14 (.int .i64 lo) rfl (by kernel_rfl) (by kernel_rfl) (by kernel_rfl) (fun _ _ _ h => h) hHeld (Or.inl ⟨by rfl, fun w' hSw => by (try dsimp only at hSw); (try subst hSw); go_simp⟩) ?_
        simp only [Act.put, List.setIfInBounds_toArray, List.set_cons_zero, List.set_cons_succ]
        refine held_take 15 (.bool gb) rfl (by kernel_rfl) (by kernel_rfl) (by kernel_rfl) (fun _ _ _ h => h) hHeld (Or.inl ⟨by rfl, fun w' hSw => by (try dsimp only at hSw); (try subst hSw); go_simp⟩) ?_
        simp only [Act.put, List.setIfInBounds_toArray, List.set_cons_zero, List.set_cons_succ]
        refine wpAnyH_done (by kernel_rfl) ?_ _
        clear hHeld
        go_wp2
        go_ret2
        exact ⟨by rw [← hgb.out]; rfl, hkw.trans k3⟩
      · have hga := hat.out
        rw [List.getElem?_eq_none (by omega)] at hga
        simp only at hga
        subst hga
        have dn : decide ((lo : Int) < (l.length : Int)) = false := decide_eq_false (by omega)
        clear hat
        go_wp2_with fail
        refine wp_region_held_drew (S := fun w' => True) (by kernel_rfl) trivial (fun hHeld => ?_)
        refine held_take 0 (.int .i64 lo) rfl (by kernel_rfl) (by kernel_rfl) (by kernel_rfl) (fun _ _ _ h => h) hHeld (Or.inl ⟨by rfl, fun w' hSw => by (try dsimp only at hSw); (try subst hSw); go_simp⟩) ?_
        simp only [Act.put, List.setIfInBounds_toArray, List.set_cons_zero, List.set_cons_succ]
        refine held_take 1 (.int .i64 lo) rfl (by kernel_rfl) (by kernel_rfl) (by kernel_rfl) (fun _ _ _ h => h) hHeld (Or.inl ⟨by rfl, fun w' hSw => by (try dsimp only at hSw); (try subst hSw); go_simp⟩) ?_
        simp only [Act.put, List.setIfInBounds_toArray, List.set_cons_zero, List.set_cons_succ]
        refine held_take 2 (.int .i64 l.length) rfl (by kernel_rfl) (by kernel_rfl) (by kernel_rfl) (fun _ _ _ h => h) hHeld (Or.inl ⟨by rfl, fun w' hSw => by (try dsimp only at hSw); (try subst hSw); go_simp⟩) ?_
        simp only [Act.put, List.setIfInBounds_toArray, List.set_cons_zero, List.set_cons_succ]
        refine held_take 3 (.bool false) rfl (by kernel_rfl) (by kernel_rfl) (by kernel_rfl) (fun _ _ _ h => h) hHeld (Or.inl ⟨by rfl, fun w' hSw => by (try dsimp only at hSw); (try subst hSw); go_simp⟩) ?_
        simp only [Act.put, List.setIfInBounds_toArray, List.set_cons_zero, List.set_cons_succ]
        refine held_take 4 (.bool false) rfl (by kernel_rfl) (by kernel_rfl) (by kernel_rfl) (fun _ _ _ h => h) hHeld (Or.inl ⟨by rfl, fun w' hSw => by (try dsimp only at hSw); (try subst hSw); go_simp⟩) ?_
        simp only [Act.put, List.setIfInBounds_toArray, List.set_cons_zero, List.set_cons_succ]
        refine held_take 5 undef rfl (by kernel_rfl) (by kernel_rfl) (by kernel_rfl) (fun _ _ _ h => h) hHeld (Or.inr ⟨by rfl, rfl⟩) ?_
        simp only [Act.put, List.setIfInBounds_toArray, List.set_cons_zero, List.set_cons_succ]
        refine held_take 6 undef rfl (by kernel_rfl) (by kernel_rfl) (by kernel_rfl) (fun _ _ _ h => h) hHeld (Or.inr ⟨by rfl, rfl⟩) ?_
        simp only [Act.put, List.setIfInBounds_toArray, List.set_cons_zero, List.set_cons_succ]
        refine held_take 7 undef rfl (by kernel_rfl) (by kernel_rfl) (by kernel_rfl) (fun _ _ _ h => h) hHeld (Or.inr ⟨by rfl, rfl⟩) ?_
        simp only [Act.put, List.setIfInBounds_toArray, List.set_cons_zero, List.set_cons_succ]
        refine held_take 8 undef rfl (by kernel_rfl) (by kernel_rfl) (by kernel_rfl) (fun _ _ _ h => h) hHeld (Or.inr ⟨by rfl, rfl⟩) ?_
        simp only [Act.put, List.setIfInBounds_toArray, List.set_cons_zero, List.set_cons_succ]
        refine held_take 9 undef rfl (by kernel_rfl) (by kernel_rfl) (by kernel_rfl) (fun _ _ _ h => h) hHeld (Or.inr ⟨by rfl, rfl⟩) ?_
        simp only [Act.put, List.setIfInBounds_toArray, List.set_cons_zero, List.set_cons_succ]
        refine held_take 10 undef rfl (by kernel_rfl) (by kernel_rfl) (by kernel_rfl) (fun _ _ _ h => h) hHeld (Or.inr ⟨by rfl, rfl⟩) ?_
        simp only [Act.put, List.setIfInBounds_toArray, List.set_cons_zero, List.set_cons_succ]
        refine held_take 11 undef rfl (by kernel_rfl) (by kernel_rfl) (by kernel_rfl) (fun _ _ _ h => h) hHeld (Or.inr ⟨by rfl, rfl⟩) ?_
        simp only [Act.put, List.setIfInBounds_toArray, List.set_cons_zero, List.set_cons_succ]
        refine held_take 12 undef rfl (by kernel_rfl) (by kernel_rfl) (by kernel_rfl) (fun _ _ _ h => h) hHeld (Or.inr ⟨by rfl, rfl⟩) ?_
        simp only [Act.put, List.setIfInBounds_toArray, List.set_cons_zero, List.set_cons_succ]
        refine held_take 13 (.bool false) rfl (by kernel_rfl) (by kernel_rfl) (by kernel_rfl) (fun _ _ _ h => h) hHeld (Or.inl ⟨by rfl, fun w' hSw => by (try dsimp only at hSw); (try subst hSw); go_simp⟩) ?_
        simp only [Act.put, List.setIfInBounds_toArray, List.set_cons_zero, List.set_cons_succ]
        refine held_take 14 (.int .i64 lo) rfl (by kernel_rfl) (by kernel_rfl) (by kernel_rfl) (fun _ _ _ h => h) hHeld (Or.inl ⟨by rfl, fun w' hSw => by (try dsimp only at hSw); (try subst hSw); go_simp⟩) ?_
        simp only [Act.put, List.setIfInBounds_toArray, List.set_cons_zero, List.set_cons_succ]
        refine held_take 15 (.bool false) rfl (by kernel_rfl) (by kernel_rfl) (by kernel_rfl) (fun _ _ _ h => h) hHeld (Or.inl ⟨by rfl, fun w' hSw => by (try dsimp only at hSw); (try subst hSw); go_simp⟩) ?_
        simp only [Act.put, List.setIfInBounds_toArray, List.set_cons_zero, List.set_cons_succ]
        refine wpAnyH_done (by kernel_rfl) ?_ _
        clear hHeld
        go_wp2
        go_ret2
        exact ⟨rfl, hkw.drew⟩

theorem place_any (w : World) (A : Option Addr) (c : Nat) (l : List Opn) (a h : Int) (hb : Els opE 5 w A l) (hr : l.Pairwise keyLt) (hl : l.length ≤ 1048576) :
    Calls Try.prog 36 #[.slice A l.length c, .int .u32 a, .int .u32 h] w fun e w' => e = .returned (.tuple #[.int .i64 (posO l ⟨a, h, 0, 0, 0⟩ : Nat), .bool (findK l a h).isSome]) ∧ Only [] w w' := by
  have hs := fun W (k : Only [] w W) => search_any W A c l ⟨a, h, 0, 0, 0⟩ (hb.kept k (by simp)) hr hl
  have hv : opV ⟨a, h, 0, 0, 0⟩ = .agg #[.int .u32 a, .int .u32 h, .int .u32 0, .int .u32 0, .int .u32 0] := rfl
  rw [hv] at hs
  replace hs := Lib.hid hs
  go_enter Try.func36, Try.ntmps36
  go_wp2_with fail
  refine (hs.out _ (Only.refl _ _)).mono ?_; rintro e w3 ⟨rfl, k3⟩
  go_wp2
  go_ret2
  exact ⟨rfl, k3⟩
end Go.Proofs.Ythclpefomhakdaa
