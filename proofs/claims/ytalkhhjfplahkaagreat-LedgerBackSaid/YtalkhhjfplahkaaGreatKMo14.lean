/- .. opens, works. -/
import Derived.Test.YtalkhhjfplahkaaGreatKMe14
namespace Go.Proofs.YtalkhhjfplahkaaGreat
open Go.RowKit
set_option linter.unusedVariables false

set_option maxRecDepth 100000 in
set_option maxHeartbeats 16000000 in
theorem open_any (b : Bs) (wr w : World) (gx kp kg vp vg : Nat) (s : Sta) (tv ov kv wv sv : Value) (lvs : List Lv) (rk rv : ByteArray) (rg : Bool) (kb vb : List UInt8) (hL : LdR b wr gx s tv ov kv wv sv lvs) (ho : Only [gx] wr w) (hx : LdB w gx s tv ov kv wv sv rk rv rg kp vp) (h2 : Two wr.heap.size w kp kg vp vg (kb, 0) (vb, 0)) (hl : s.opens.length ≤ 1000000) :
    Calls Tryz.prog 46 #[.pointer (some ⟨gx, 0, none⟩)] w fun e w' => e = .returned (.tuple #[]) ∧ LdAns b gx { s with opens := s.opens ++ [openOf kb vb] } w' := by
  have hne : gx < wr.heap.size := hL.gxl
  have hgx : gx ∉ [kp, vp] := by
    have := h2.a
    have := h2.c
    simp
    omega
  have KP : Hid (∀ W, Only [kp, vp] w W → W.cell? ⟨gx, 10, none⟩ = some (.pointer (some ⟨kp, 0, none⟩)) ∧ W.cell? ⟨gx, 11, none⟩ = some (.pointer (some ⟨vp, 0, none⟩))) := fun W kW => ⟨(hx.kept kW hgx).cell 10, (hx.kept kW hgx).cell 11⟩
  have KT : Hid (∀ W, Only [kp, vp] w W → W.cell? ⟨gx, 3, none⟩ = some ov) := fun W kW => (hx.kept kW hgx).cell 3
  have wn := w.drew
  have kk : Only [kp, vp] w w.drew := (Only.refl [kp, vp] w).drew
  replace h2 := h2.kept ((Only.refl [] w).drew)
  clear wn
  replace hL := Lib.hid hL
  replace hx := Lib.hid hx
  replace ho := Lib.hid ho
  replace hl := Lib.hid hl
  go_enter Tryz.func46, Tryz.ntmps46
  go_wp2_with fail
  refine wp_region_held_drew (S := fun w' => w'.cell? ⟨gx, 10, none⟩ = some (.pointer (some ⟨kp, 0, none⟩)) ∧ w'.cell? ⟨gx, 11, none⟩ = some (.pointer (some ⟨vp, 0, none⟩))) (by kernel_rfl) (KP.out _ kk) (fun hHeld => ?_)
  refine held_take 0 (.pointer (some ⟨gx, 0, none⟩)) rfl (by kernel_rfl) (by kernel_rfl) (by kernel_rfl) (fun _ _ _ h => h) hHeld (Or.inl ⟨by rfl, fun w' hSw => by (try dsimp only at hSw); (try subst hSw); go_simp⟩) ?_
  simp only [Act.put, List.setIfInBounds_toArray, List.set_cons_zero, List.set_cons_succ]
  refine held_take 1 (.pointer (some ⟨gx, 0, none⟩)) rfl (by kernel_rfl) (by kernel_rfl) (by kernel_rfl) (fun _ _ _ h => h) hHeld (Or.inl ⟨by rfl, fun w' hSw => by (try dsimp only at hSw); (try subst hSw); go_simp⟩) ?_
  simp only [Act.put, List.setIfInBounds_toArray, List.set_cons_zero, List.set_cons_succ]
  refine held_take 2 (.pointer (some ⟨gx, 0, none⟩)) rfl (by kernel_rfl) (by kernel_rfl) (by kernel_rfl) (fun _ _ _ h => h) hHeld (Or.inl ⟨by rfl, fun w' hSw => by (try dsimp only at hSw); (try subst hSw); go_simp⟩) ?_
  simp only [Act.put, List.setIfInBounds_toArray, List.set_cons_zero, List.set_cons_succ]
  refine held_take 3 (.pointer (some ⟨gx, 0, none⟩)) rfl (by kernel_rfl) (by kernel_rfl) (by kernel_rfl) (fun _ _ _ h => h) hHeld (Or.inl ⟨by rfl, fun w' hSw => by (try dsimp only at hSw); (try subst hSw); go_simp⟩) ?_
  simp only [Act.put, List.setIfInBounds_toArray, List.set_cons_zero, List.set_cons_succ]
  refine held_take 4 (.pointer (some ⟨gx, 3, none⟩)) rfl (by kernel_rfl) (by kernel_rfl) (by kernel_rfl) (fun _ _ _ h => h) hHeld (Or.inl ⟨by rfl, fun w' hSw => by (try dsimp only at hSw); (try subst hSw); go_simp⟩) ?_
  simp only [Act.put, List.setIfInBounds_toArray, List.set_cons_zero, List.set_cons_succ]
  refine held_take 6 (.pointer (some ⟨gx, 0, none⟩)) rfl (by kernel_rfl) (by kernel_rfl) (by kernel_rfl) (fun _ _ _ h => h) hHeld (Or.inl ⟨by rfl, fun w' hSw => by (try dsimp only at hSw); (try subst hSw); go_simp⟩) ?_
  simp only [Act.put, List.setIfInBounds_toArray, List.set_cons_zero, List.set_cons_succ]
  refine held_take 7 (.pointer (some ⟨gx, 0, none⟩)) rfl (by kernel_rfl) (by kernel_rfl) (by kernel_rfl) (fun _ _ _ h => h) hHeld (Or.inl ⟨by rfl, fun w' hSw => by (try dsimp only at hSw); (try subst hSw); go_simp⟩) ?_
  simp only [Act.put, List.setIfInBounds_toArray, List.set_cons_zero, List.set_cons_succ]
  refine held_take 8 (.pointer (some ⟨gx, 10, none⟩)) rfl (by kernel_rfl) (by kernel_rfl) (by kernel_rfl) (fun _ _ _ h => h) hHeld (Or.inl ⟨by rfl, fun w' hSw => by (try dsimp only at hSw); (try subst hSw); go_simp⟩) ?_
  simp only [Act.put, List.setIfInBounds_toArray, List.set_cons_zero, List.set_cons_succ]
  refine held_take 9 (.pointer (some ⟨kp, 0, none⟩)) rfl (by kernel_rfl) (by kernel_rfl) (by kernel_rfl) (fun _ _ _ h => h) hHeld (Or.inl ⟨by rfl, fun w' hSw => by (try dsimp only at hSw); (try subst hSw); go_simp⟩) ?_
  simp only [Act.put, List.setIfInBounds_toArray, List.set_cons_zero, List.set_cons_succ]
  refine held_take 11 (.pointer (some ⟨gx, 0, none⟩)) rfl (by kernel_rfl) (by kernel_rfl) (by kernel_rfl) (fun _ _ _ h => h) hHeld (Or.inl ⟨by rfl, fun w' hSw => by (try dsimp only at hSw); (try subst hSw); go_simp⟩) ?_
  simp only [Act.put, List.setIfInBounds_toArray, List.set_cons_zero, List.set_cons_succ]
  refine held_take 12 (.pointer (some ⟨gx, 0, none⟩)) rfl (by kernel_rfl) (by kernel_rfl) (by kernel_rfl) (fun _ _ _ h => h) hHeld (Or.inl ⟨by rfl, fun w' hSw => by (try dsimp only at hSw); (try subst hSw); go_simp⟩) ?_
  simp only [Act.put, List.setIfInBounds_toArray, List.set_cons_zero, List.set_cons_succ]
  refine held_take 13 (.pointer (some ⟨gx, 10, none⟩)) rfl (by kernel_rfl) (by kernel_rfl) (by kernel_rfl) (fun _ _ _ h => h) hHeld (Or.inl ⟨by rfl, fun w' hSw => by (try dsimp only at hSw); (try subst hSw); go_simp⟩) ?_
  simp only [Act.put, List.setIfInBounds_toArray, List.set_cons_zero, List.set_cons_succ]
  refine held_take 14 (.pointer (some ⟨kp, 0, none⟩)) rfl (by kernel_rfl) (by kernel_rfl) (by kernel_rfl) (fun _ _ _ h => h) hHeld (Or.inl ⟨by rfl, fun w' hSw => by (try dsimp only at hSw); (try subst hSw); go_simp⟩) ?_
  simp only [Act.put, List.setIfInBounds_toArray, List.set_cons_zero, List.set_cons_succ]
  refine held_take 16 (.pointer (some ⟨gx, 0, none⟩)) rfl (by kernel_rfl) (by kernel_rfl) (by kernel_rfl) (fun _ _ _ h => h) hHeld (Or.inl ⟨by rfl, fun w' hSw => by (try dsimp only at hSw); (try subst hSw); go_simp⟩) ?_
  simp only [Act.put, List.setIfInBounds_toArray, List.set_cons_zero, List.set_cons_succ]
  refine held_take 17 (.pointer (some ⟨gx, 0, none⟩)) rfl (by kernel_rfl) (by kernel_rfl) (by kernel_rfl) (fun _ _ _ h => h) hHeld (Or.inl ⟨by rfl, fun w' hSw => by (try dsimp only at hSw); (try subst hSw); go_simp⟩) ?_
  simp only [Act.put, List.setIfInBounds_toArray, List.set_cons_zero, List.set_cons_succ]
  refine held_take 18 (.pointer (some ⟨gx, 11, none⟩)) rfl (by kernel_rfl) (by kernel_rfl) (by kernel_rfl) (fun _ _ _ h => h) hHeld (Or.inl ⟨by rfl, fun w' hSw => by (try dsimp only at hSw); (try subst hSw); go_simp⟩) ?_
  simp only [Act.put, List.setIfInBounds_toArray, List.set_cons_zero, List.set_cons_succ]
  refine held_take 19 (.pointer (some ⟨vp, 0, none⟩)) rfl (by kernel_rfl) (by kernel_rfl) (by kernel_rfl) (fun _ _ _ h => h) hHeld (Or.inl ⟨by rfl, fun w' hSw => by (try dsimp only at hSw); (try subst hSw); go_simp⟩) ?_
  simp only [Act.put, List.setIfInBounds_toArray, List.set_cons_zero, List.set_cons_succ]
  refine held_take 21 (.pointer (some ⟨gx, 0, none⟩)) rfl (by kernel_rfl) (by kernel_rfl) (by kernel_rfl) (fun _ _ _ h => h) hHeld (Or.inl ⟨by rfl, fun w' hSw => by (try dsimp only at hSw); (try subst hSw); go_simp⟩) ?_
  simp only [Act.put, List.setIfInBounds_toArray, List.set_cons_zero, List.set_cons_succ]
  refine held_take 22 (.pointer (some ⟨gx, 0, none⟩)) rfl (by kernel_rfl) (by kernel_rfl) (by kernel_rfl) (fun _ _ _ h => h) hHeld (Or.inl ⟨by rfl, fun w' hSw => by (try dsimp only at hSw); (try subst hSw); go_simp⟩) ?_
  simp only [Act.put, List.setIfInBounds_toArray, List.set_cons_zero, List.set_cons_succ]
  refine held_take 23 (.pointer (some ⟨gx, 11, none⟩)) rfl (by kernel_rfl) (by kernel_rfl) (by kernel_rfl) (fun _ _ _ h => h) hHeld (Or.inl ⟨by rfl, fun w' hSw => by (try dsimp only at hSw); (try subst hSw); go_simp⟩) ?_
  simp only [Act.put, List.setIfInBounds_toArray, List.set_cons_zero, List.set_cons_succ]
  refine held_take 24 (.pointer (some ⟨vp, 0, none⟩)) rfl (by kernel_rfl) (by kernel_rfl) (by kernel_rfl) (fun _ _ _ h => h) hHeld (Or.inl ⟨by rfl, fun w' hSw => by (try dsimp only at hSw); (try subst hSw); go_simp⟩) ?_
  simp only [Act.put, List.setIfInBounds_toArray, List.set_cons_zero, List.set_cons_succ]
  refine held_take 26 (.pointer (some ⟨gx, 0, none⟩)) rfl (by kernel_rfl) (by kernel_rfl) (by kernel_rfl) (fun _ _ _ h => h) hHeld (Or.inl ⟨by rfl, fun w' hSw => by (try dsimp only at hSw); (try subst hSw); go_simp⟩) ?_
  simp only [Act.put, List.setIfInBounds_toArray, List.set_cons_zero, List.set_cons_succ]
  refine held_take 27 (.pointer (some ⟨gx, 0, none⟩)) rfl (by kernel_rfl) (by kernel_rfl) (by kernel_rfl) (fun _ _ _ h => h) hHeld (Or.inl ⟨by rfl, fun w' hSw => by (try dsimp only at hSw); (try subst hSw); go_simp⟩) ?_
  simp only [Act.put, List.setIfInBounds_toArray, List.set_cons_zero, List.set_cons_succ]
  refine held_take 28 (.pointer (some ⟨gx, 11, none⟩)) rfl (by kernel_rfl) (by kernel_rfl) (by kernel_rfl) (fun _ _ _ h => h) hHeld (Or.inl ⟨by rfl, fun w' hSw => by (try dsimp only at hSw); (try subst hSw); go_simp⟩) ?_
  simp only [Act.put, List.setIfInBounds_toArray, List.set_cons_zero, List.set_cons_succ]
  refine held_take 29 (.pointer (some ⟨vp, 0, none⟩)) rfl (by kernel_rfl) (by kernel_rfl) (by kernel_rfl) (fun _ _ _ h => h) hHeld (Or.inl ⟨by rfl, fun w' hSw => by (try dsimp only at hSw); (try subst hSw); go_simp⟩) ?_
  simp only [Act.put, List.setIfInBounds_toArray, List.set_cons_zero, List.set_cons_succ]
  refine held_step2 5 10 rfl rfl (by kernel_rfl) (fun K hK => ?_) (fun K hK => ?_)
  · have cl := KT.out _ kk
    go_simp
    go_wp2_with fail
    refine hK.out _ _ (KP.out _ kk) (fun hHeld => ?_)
    clear hK K
    clear cl
    refine held_step 10 rfl (by kernel_rfl) (fun K hK => ?_)
    go_simp
    refine (rnum_s _ kp kg (kb, 0) h2.k).mono ?_; rintro e wn ⟨rfl, hr, kn⟩
    replace h2 := h2.readK hr kn
    replace kk := kk.then kn (by simp)
    clear hr kn
    go_wp2_with fail
    refine hK.out _ _ (KP.out _ kk) (fun hHeld => ?_)
    clear hK K
    refine held_step 15 rfl (by kernel_rfl) (fun K hK => ?_)
    go_simp
    refine (rnum_s _ kp kg (nu2 (kb, 0)) h2.k).mono ?_; rintro e wn ⟨rfl, hr, kn⟩
    replace h2 := h2.readK hr kn
    replace kk := kk.then kn (by simp)
    clear hr kn
    go_wp2_with fail
    refine hK.out _ _ (KP.out _ kk) (fun hHeld => ?_)
    clear hK K
    refine held_step 20 rfl (by kernel_rfl) (fun K hK => ?_)
    go_simp
    refine (rnum_s _ vp vg (vb, 0) h2.v).mono ?_; rintro e wn ⟨rfl, hr, kn⟩
    replace h2 := h2.readV hr kn
    replace kk := kk.then kn (by simp)
    clear hr kn
    go_wp2_with fail
    refine hK.out _ _ (KP.out _ kk) (fun hHeld => ?_)
    clear hK K
    refine held_step 25 rfl (by kernel_rfl) (fun K hK => ?_)
    go_simp
    refine (rnum_s _ vp vg (nu2 (vb, 0)) h2.v).mono ?_; rintro e wn ⟨rfl, hr, kn⟩
    replace h2 := h2.readV hr kn
    replace kk := kk.then kn (by simp)
    clear hr kn
    go_wp2_with fail
    refine hK.out _ _ (KP.out _ kk) (fun hHeld => ?_)
    clear hK K
    refine held_step 30 rfl (by kernel_rfl) (fun K hK => ?_)
    go_simp
    refine (rnum_s _ vp vg (nu2 (nu2 (vb, 0))) h2.v).mono ?_; rintro e wn ⟨rfl, hr, kn⟩
    replace h2 := h2.readV hr kn
    replace kk := kk.then kn (by simp)
    clear hr kn
    go_wp2_with fail
    refine hK.out _ _ (KP.out _ kk) (fun hHeld => ?_)
    clear hK K
    refine held_take 31 (.agg #[.int .u32 ((nu1 (kb, 0) : Nat) : Int), .int .u32 ((nu1 (nu2 (kb, 0)) : Nat) : Int), .int .u32 ((nu1 (vb, 0) : Nat) : Int), .int .u32 ((nu1 (nu2 (vb, 0)) : Nat) : Int), .int .u32 ((nu1 (nu2 (nu2 (vb, 0))) : Nat) : Int)]) rfl (by kernel_rfl) (by kernel_rfl) (by kernel_rfl) (fun _ _ _ h => h) hHeld (Or.inl ⟨by rfl, fun w' hSw => by (try dsimp only at hSw); (try subst hSw); go_simp⟩) ?_
    simp only [Act.put, List.setIfInBounds_toArray, List.set_cons_zero, List.set_cons_succ]
    refine held_step 32 rfl (by kernel_rfl) (fun K hK => ?_)
    go_simp
    go_wp2_with fail
    refine hK.out _ _ (KP.out _ (kk.alloc _)) (fun hHeld => ?_)
    clear hK K
    have hR := (hL.out.reach ho.out kk h2.a h2.c).keep ((Only.refl [] _).alloc (.cells (opE (⟨((nu1 (kb, 0) : Nat) : Int), ((nu1 (nu2 (kb, 0)) : Nat) : Int), ((nu1 (vb, 0) : Nat) : Int), ((nu1 (nu2 (vb, 0)) : Nat) : Int), (nu1 (nu2 (nu2 (vb, 0))) : Nat)⟩)).toArray 61)) (by simp)
    have bR := (hx.out.kept kk hgx).alloc (.cells (opE (⟨((nu1 (kb, 0) : Nat) : Int), ((nu1 (nu2 (kb, 0)) : Nat) : Int), ((nu1 (vb, 0) : Nat) : Int), ((nu1 (nu2 (vb, 0)) : Nat) : Int), (nu1 (nu2 (nu2 (vb, 0))) : Nat)⟩)).toArray 61)
    have b5 : Blk _ _ 61 (opE (⟨((nu1 (kb, 0) : Nat) : Int), ((nu1 (nu2 (kb, 0)) : Nat) : Int), ((nu1 (vb, 0) : Nat) : Int), ((nu1 (nu2 (vb, 0)) : Nat) : Int), (nu1 (nu2 (nu2 (vb, 0))) : Nat)⟩)).toArray := Blk.new wn 61 (opE (⟨((nu1 (kb, 0) : Nat) : Int), ((nu1 (nu2 (kb, 0)) : Nat) : Int), ((nu1 (vb, 0) : Nat) : Int), ((nu1 (nu2 (vb, 0)) : Nat) : Int), (nu1 (nu2 (nu2 (vb, 0))) : Nat)⟩)).toArray
    refine held_step 33 rfl (by kernel_rfl) (fun K hK => ?_)
    refine step_push rfl _ _ 24 rfl 61 _ 20 opE_length (by decide) opE_one Tryz.underlying24 info_op rfl ov s.opens.length s.opens rfl hR.mo.own wn.heap.size (⟨((nu1 (kb, 0) : Nat) : Int), ((nu1 (nu2 (kb, 0)) : Nat) : Int), ((nu1 (vb, 0) : Nat) : Int), ((nu1 (nu2 (vb, 0)) : Nat) : Int), (nu1 (nu2 (nu2 (vb, 0))) : Nat)⟩) 61 rfl b5 (by unfold maxLen; have := hl.out; omega) (by have := hl.out; omega) ?_
    intro vv w6 h6 g6 a6
    have hL6 := hR.push_mo h6 g6 a6
    obtain ⟨Av, nv, cv, rfl⟩ : ∃ A n c, vv = Value.slice A n c := by { obtain ⟨A, c, h, _⟩ := hL6.mo.shape opE_length; exact ⟨A, _, c, h⟩ }
    have b6 := bR.kept (only_own g6) (hR.apart 1 rfl)
    refine hK.out _ _ ⟨b6.cell 10, b6.cell 11⟩ (fun hHeld => ?_)
    clear hK K h6 g6 a6 hR bR b5
    have cq := b6.cell 3
    have fq := b6.free 3
    simp only [ldA, List.getElem?_toArray, List.getElem?_cons_zero, List.getElem?_cons_succ] at cq
    simp only [Act.put, List.setIfInBounds_toArray, List.set_cons_zero, List.set_cons_succ]
    refine held_take 34 (.pointer (some ⟨gx, 0, none⟩)) rfl (by kernel_rfl) (by kernel_rfl) (by kernel_rfl) (fun _ _ _ h => h) hHeld (Or.inl ⟨by rfl, fun w' hSw => by (try dsimp only at hSw); (try subst hSw); go_simp⟩) ?_
    simp only [Act.put, List.setIfInBounds_toArray, List.set_cons_zero, List.set_cons_succ]
    refine held_take 35 (.pointer (some ⟨gx, 0, none⟩)) rfl (by kernel_rfl) (by kernel_rfl) (by kernel_rfl) (fun _ _ _ h => h) hHeld (Or.inl ⟨by rfl, fun w' hSw => by (try dsimp only at hSw); (try subst hSw); go_simp⟩) ?_
    simp only [Act.put, List.setIfInBounds_toArray, List.set_cons_zero, List.set_cons_succ]
    refine held_take 36 (.pointer (some ⟨gx, 3, none⟩)) rfl (by kernel_rfl) (by kernel_rfl) (by kernel_rfl) (fun _ _ _ h => h) hHeld (Or.inl ⟨by rfl, fun w' hSw => by (try dsimp only at hSw); (try subst hSw); go_simp⟩) ?_
    simp only [Act.put, List.setIfInBounds_toArray, List.set_cons_zero, List.set_cons_succ]
    refine held_step 37 rfl (by kernel_rfl) (fun K hK => ?_)
    go_simp
    have b7 := b6.set 3 (.slice Av nv cv)
    refine hK.out _ _ ⟨b7.cell 10, b7.cell 11⟩ (fun hHeld => ?_)
    clear hK K
    refine wpAnyH_done (by kernel_rfl) ?_ _
    clear hHeld
    go_wp2
    go_end0
    exact ⟨rfl, _, _, _, _, _, _, _, _, _, _, _, hL6.keep (Only.set w6 [gx] (by simp) (.slice Av nv cv)) (by simp), b7⟩
  · go_simp
    refine (rnum_s _ kp kg (kb, 0) h2.k).mono ?_; rintro e wn ⟨rfl, hr, kn⟩
    replace h2 := h2.readK hr kn
    replace kk := kk.then kn (by simp)
    clear hr kn
    go_wp2_with fail
    refine hK.out _ _ (KP.out _ kk) (fun hHeld => ?_)
    clear hK K
    refine held_step2 5 15 rfl rfl (by kernel_rfl) (fun K hK => ?_) (fun K hK => ?_)
    · have cl := KT.out _ kk
      go_simp
      go_wp2_with fail
      refine hK.out _ _ (KP.out _ kk) (fun hHeld => ?_)
      clear hK K
      clear cl
      refine held_step 15 rfl (by kernel_rfl) (fun K hK => ?_)
      go_simp
      refine (rnum_s _ kp kg (nu2 (kb, 0)) h2.k).mono ?_; rintro e wn ⟨rfl, hr, kn⟩
      replace h2 := h2.readK hr kn
      replace kk := kk.then kn (by simp)
      clear hr kn
      go_wp2_with fail
      refine hK.out _ _ (KP.out _ kk) (fun hHeld => ?_)
      clear hK K
      refine held_step 20 rfl (by kernel_rfl) (fun K hK => ?_)
      go_simp
      refine (rnum_s _ vp vg (vb, 0) h2.v).mono ?_; rintro e wn ⟨rfl, hr, kn⟩
      replace h2 := h2.readV hr kn
      replace kk := kk.then kn (by simp)
      clear hr kn
      go_wp2_with fail
      refine hK.out _ _ (KP.out _ kk) (fun hHeld => ?_)
      clear hK K
      refine held_step 25 rfl (by kernel_rfl) (fun K hK => ?_)
      go_simp
      refine (rnum_s _ vp vg (nu2 (vb, 0)) h2.v).mono ?_; rintro e wn ⟨rfl, hr, kn⟩
      replace h2 := h2.readV hr kn
      replace kk := kk.then kn (by simp)
      clear hr kn
      go_wp2_with fail
      refine hK.out _ _ (KP.out _ kk) (fun hHeld => ?_)
      clear hK K
      refine held_step 30 rfl (by kernel_rfl) (fun K hK => ?_)
      go_simp
      refine (rnum_s _ vp vg (nu2 (nu2 (vb, 0))) h2.v).mono ?_; rintro e wn ⟨rfl, hr, kn⟩
      replace h2 := h2.readV hr kn
      replace kk := kk.then kn (by simp)
      clear hr kn
      go_wp2_with fail
      refine hK.out _ _ (KP.out _ kk) (fun hHeld => ?_)
      clear hK K
      refine held_take 31 (.agg #[.int .u32 ((nu1 (kb, 0) : Nat) : Int), .int .u32 ((nu1 (nu2 (kb, 0)) : Nat) : Int), .int .u32 ((nu1 (vb, 0) : Nat) : Int), .int .u32 ((nu1 (nu2 (vb, 0)) : Nat) : Int), .int .u32 ((nu1 (nu2 (nu2 (vb, 0))) : Nat) : Int)]) rfl (by kernel_rfl) (by kernel_rfl) (by kernel_rfl) (fun _ _ _ h => h) hHeld (Or.inl ⟨by rfl, fun w' hSw => by (try dsimp only at hSw); (try subst hSw); go_simp⟩) ?_
      simp only [Act.put, List.setIfInBounds_toArray, List.set_cons_zero, List.set_cons_succ]
      refine held_step 32 rfl (by kernel_rfl) (fun K hK => ?_)
      go_simp
      go_wp2_with fail
      refine hK.out _ _ (KP.out _ (kk.alloc _)) (fun hHeld => ?_)
      clear hK K
      have hR := (hL.out.reach ho.out kk h2.a h2.c).keep ((Only.refl [] _).alloc (.cells (opE (⟨((nu1 (kb, 0) : Nat) : Int), ((nu1 (nu2 (kb, 0)) : Nat) : Int), ((nu1 (vb, 0) : Nat) : Int), ((nu1 (nu2 (vb, 0)) : Nat) : Int), (nu1 (nu2 (nu2 (vb, 0))) : Nat)⟩)).toArray 61)) (by simp)
      have bR := (hx.out.kept kk hgx).alloc (.cells (opE (⟨((nu1 (kb, 0) : Nat) : Int), ((nu1 (nu2 (kb, 0)) : Nat) : Int), ((nu1 (vb, 0) : Nat) : Int), ((nu1 (nu2 (vb, 0)) : Nat) : Int), (nu1 (nu2 (nu2 (vb, 0))) : Nat)⟩)).toArray 61)
      have b5 : Blk _ _ 61 (opE (⟨((nu1 (kb, 0) : Nat) : Int), ((nu1 (nu2 (kb, 0)) : Nat) : Int), ((nu1 (vb, 0) : Nat) : Int), ((nu1 (nu2 (vb, 0)) : Nat) : Int), (nu1 (nu2 (nu2 (vb, 0))) : Nat)⟩)).toArray := Blk.new wn 61 (opE (⟨((nu1 (kb, 0) : Nat) : Int), ((nu1 (nu2 (kb, 0)) : Nat) : Int), ((nu1 (vb, 0) : Nat) : Int), ((nu1 (nu2 (vb, 0)) : Nat) : Int), (nu1 (nu2 (nu2 (vb, 0))) : Nat)⟩)).toArray
      refine held_step 33 rfl (by kernel_rfl) (fun K hK => ?_)
      refine step_push rfl _ _ 24 rfl 61 _ 20 opE_length (by decide) opE_one Tryz.underlying24 info_op rfl ov s.opens.length s.opens rfl hR.mo.own wn.heap.size (⟨((nu1 (kb, 0) : Nat) : Int), ((nu1 (nu2 (kb, 0)) : Nat) : Int), ((nu1 (vb, 0) : Nat) : Int), ((nu1 (nu2 (vb, 0)) : Nat) : Int), (nu1 (nu2 (nu2 (vb, 0))) : Nat)⟩) 61 rfl b5 (by unfold maxLen; have := hl.out; omega) (by have := hl.out; omega) ?_
      intro vv w6 h6 g6 a6
      have hL6 := hR.push_mo h6 g6 a6
      obtain ⟨Av, nv, cv, rfl⟩ : ∃ A n c, vv = Value.slice A n c := by { obtain ⟨A, c, h, _⟩ := hL6.mo.shape opE_length; exact ⟨A, _, c, h⟩ }
      have b6 := bR.kept (only_own g6) (hR.apart 1 rfl)
      refine hK.out _ _ ⟨b6.cell 10, b6.cell 11⟩ (fun hHeld => ?_)
      clear hK K h6 g6 a6 hR bR b5
      have cq := b6.cell 3
      have fq := b6.free 3
      simp only [ldA, List.getElem?_toArray, List.getElem?_cons_zero, List.getElem?_cons_succ] at cq
      simp only [Act.put, List.setIfInBounds_toArray, List.set_cons_zero, List.set_cons_succ]
      refine held_take 34 (.pointer (some ⟨gx, 0, none⟩)) rfl (by kernel_rfl) (by kernel_rfl) (by kernel_rfl) (fun _ _ _ h => h) hHeld (Or.inl ⟨by rfl, fun w' hSw => by (try dsimp only at hSw); (try subst hSw); go_simp⟩) ?_
      simp only [Act.put, List.setIfInBounds_toArray, List.set_cons_zero, List.set_cons_succ]
      refine held_take 35 (.pointer (some ⟨gx, 0, none⟩)) rfl (by kernel_rfl) (by kernel_rfl) (by kernel_rfl) (fun _ _ _ h => h) hHeld (Or.inl ⟨by rfl, fun w' hSw => by (try dsimp only at hSw); (try subst hSw); go_simp⟩) ?_
      simp only [Act.put, List.setIfInBounds_toArray, List.set_cons_zero, List.set_cons_succ]
      refine held_take 36 (.pointer (some ⟨gx, 3, none⟩)) rfl (by kernel_rfl) (by kernel_rfl) (by kernel_rfl) (fun _ _ _ h => h) hHeld (Or.inl ⟨by rfl, fun w' hSw => by (try dsimp only at hSw); (try subst hSw); go_simp⟩) ?_
      simp only [Act.put, List.setIfInBounds_toArray, List.set_cons_zero, List.set_cons_succ]
      refine held_step 37 rfl (by kernel_rfl) (fun K hK => ?_)
      go_simp
      have b7 := b6.set 3 (.slice Av nv cv)
      refine hK.out _ _ ⟨b7.cell 10, b7.cell 11⟩ (fun hHeld => ?_)
      clear hK K
      refine wpAnyH_done (by kernel_rfl) ?_ _
      clear hHeld
      go_wp2
      go_end0
      exact ⟨rfl, _, _, _, _, _, _, _, _, _, _, _, hL6.keep (Only.set w6 [gx] (by simp) (.slice Av nv cv)) (by simp), b7⟩
    · go_simp
      refine (rnum_s _ kp kg (nu2 (kb, 0)) h2.k).mono ?_; rintro e wn ⟨rfl, hr, kn⟩
      replace h2 := h2.readK hr kn
      replace kk := kk.then kn (by simp)
      clear hr kn
      go_wp2_with fail
      refine hK.out _ _ (KP.out _ kk) (fun hHeld => ?_)
      clear hK K
      refine held_step2 5 20 rfl rfl (by kernel_rfl) (fun K hK => ?_) (fun K hK => ?_)
      · have cl := KT.out _ kk
        go_simp
        go_wp2_with fail
        refine hK.out _ _ (KP.out _ kk) (fun hHeld => ?_)
        clear hK K
        clear cl
        refine held_step 20 rfl (by kernel_rfl) (fun K hK => ?_)
        go_simp
        refine (rnum_s _ vp vg (vb, 0) h2.v).mono ?_; rintro e wn ⟨rfl, hr, kn⟩
        replace h2 := h2.readV hr kn
        replace kk := kk.then kn (by simp)
        clear hr kn
        go_wp2_with fail
        refine hK.out _ _ (KP.out _ kk) (fun hHeld => ?_)
        clear hK K
        refine held_step 25 rfl (by kernel_rfl) (fun K hK => ?_)
        go_simp
        refine (rnum_s _ vp vg (nu2 (vb, 0)) h2.v).mono ?_; rintro e wn ⟨rfl, hr, kn⟩
        replace h2 := h2.readV hr kn
        replace kk := kk.then kn (by simp)
        clear hr kn
        go_wp2_with fail
        refine hK.out _ _ (KP.out _ kk) (fun hHeld => ?_)
        clear hK K
        refine held_step 30 rfl (by kernel_rfl) (fun K hK => ?_)
        go_simp
        refine (rnum_s _ vp vg (nu2 (nu2 (vb, 0))) h2.v).mono ?_; rintro e wn ⟨rfl, hr, kn⟩
        replace h2 := h2.readV hr kn
        replace kk := kk.then kn (by simp)
        clear hr kn
        go_wp2_with fail
        refine hK.out _ _ (KP.out _ kk) (fun hHeld => ?_)
        clear hK K
        refine held_take 31 (.agg #[.int .u32 ((nu1 (kb, 0) : Nat) : Int), .int .u32 ((nu1 (nu2 (kb, 0)) : Nat) : Int), .int .u32 ((nu1 (vb, 0) : Nat) : Int), .int .u32 ((nu1 (nu2 (vb, 0)) : Nat) : Int), .int .u32 ((nu1 (nu2 (nu2 (vb, 0))) : Nat) : Int)]) rfl (by kernel_rfl) (by kernel_rfl) (by kernel_rfl) (fun _ _ _ h => h) hHeld (Or.inl ⟨by rfl, fun w' hSw => by (try dsimp only at hSw); (try subst hSw); go_simp⟩) ?_
        simp only [Act.put, List.setIfInBounds_toArray, List.set_cons_zero, List.set_cons_succ]
        refine held_step 32 rfl (by kernel_rfl) (fun K hK => ?_)
        go_simp
        go_wp2_with fail
        refine hK.out _ _ (KP.out _ (kk.alloc _)) (fun hHeld => ?_)
        clear hK K
        have hR := (hL.out.reach ho.out kk h2.a h2.c).keep ((Only.refl [] _).alloc (.cells (opE (⟨((nu1 (kb, 0) : Nat) : Int), ((nu1 (nu2 (kb, 0)) : Nat) : Int), ((nu1 (vb, 0) : Nat) : Int), ((nu1 (nu2 (vb, 0)) : Nat) : Int), (nu1 (nu2 (nu2 (vb, 0))) : Nat)⟩)).toArray 61)) (by simp)
        have bR := (hx.out.kept kk hgx).alloc (.cells (opE (⟨((nu1 (kb, 0) : Nat) : Int), ((nu1 (nu2 (kb, 0)) : Nat) : Int), ((nu1 (vb, 0) : Nat) : Int), ((nu1 (nu2 (vb, 0)) : Nat) : Int), (nu1 (nu2 (nu2 (vb, 0))) : Nat)⟩)).toArray 61)
        have b5 : Blk _ _ 61 (opE (⟨((nu1 (kb, 0) : Nat) : Int), ((nu1 (nu2 (kb, 0)) : Nat) : Int), ((nu1 (vb, 0) : Nat) : Int), ((nu1 (nu2 (vb, 0)) : Nat) : Int), (nu1 (nu2 (nu2 (vb, 0))) : Nat)⟩)).toArray := Blk.new wn 61 (opE (⟨((nu1 (kb, 0) : Nat) : Int), ((nu1 (nu2 (kb, 0)) : Nat) : Int), ((nu1 (vb, 0) : Nat) : Int), ((nu1 (nu2 (vb, 0)) : Nat) : Int), (nu1 (nu2 (nu2 (vb, 0))) : Nat)⟩)).toArray
        refine held_step 33 rfl (by kernel_rfl) (fun K hK => ?_)
        refine step_push rfl _ _ 24 rfl 61 _ 20 opE_length (by decide) opE_one Tryz.underlying24 info_op rfl ov s.opens.length s.opens rfl hR.mo.own wn.heap.size (⟨((nu1 (kb, 0) : Nat) : Int), ((nu1 (nu2 (kb, 0)) : Nat) : Int), ((nu1 (vb, 0) : Nat) : Int), ((nu1 (nu2 (vb, 0)) : Nat) : Int), (nu1 (nu2 (nu2 (vb, 0))) : Nat)⟩) 61 rfl b5 (by unfold maxLen; have := hl.out; omega) (by have := hl.out; omega) ?_
        intro vv w6 h6 g6 a6
        have hL6 := hR.push_mo h6 g6 a6
        obtain ⟨Av, nv, cv, rfl⟩ : ∃ A n c, vv = Value.slice A n c := by { obtain ⟨A, c, h, _⟩ := hL6.mo.shape opE_length; exact ⟨A, _, c, h⟩ }
        have b6 := bR.kept (only_own g6) (hR.apart 1 rfl)
        refine hK.out _ _ ⟨b6.cell 10, b6.cell 11⟩ (fun hHeld => ?_)
        clear hK K h6 g6 a6 hR bR b5
        have cq := b6.cell 3
        have fq := b6.free 3
        simp only [ldA, List.getElem?_toArray, List.getElem?_cons_zero, List.getElem?_cons_succ] at cq
        simp only [Act.put, List.setIfInBounds_toArray, List.set_cons_zero, List.set_cons_succ]
        refine held_take 34 (.pointer (some ⟨gx, 0, none⟩)) rfl (by kernel_rfl) (by kernel_rfl) (by kernel_rfl) (fun _ _ _ h => h) hHeld (Or.inl ⟨by rfl, fun w' hSw => by (try dsimp only at hSw); (try subst hSw); go_simp⟩) ?_
        simp only [Act.put, List.setIfInBounds_toArray, List.set_cons_zero, List.set_cons_succ]
        refine held_take 35 (.pointer (some ⟨gx, 0, none⟩)) rfl (by kernel_rfl) (by kernel_rfl) (by kernel_rfl) (fun _ _ _ h => h) hHeld (Or.inl ⟨by rfl, fun w' hSw => by (try dsimp only at hSw); (try subst hSw); go_simp⟩) ?_
        simp only [Act.put, List.setIfInBounds_toArray, List.set_cons_zero, List.set_cons_succ]
        refine held_take 36 (.pointer (some ⟨gx, 3, none⟩)) rfl (by kernel_rfl) (by kernel_rfl) (by kernel_rfl) (fun _ _ _ h => h) hHeld (Or.inl ⟨by rfl, fun w' hSw => by (try dsimp only at hSw); (try subst hSw); go_simp⟩) ?_
        simp only [Act.put, List.setIfInBounds_toArray, List.set_cons_zero, List.set_cons_succ]
        refine held_step 37 rfl (by kernel_rfl) (fun K hK => ?_)
        go_simp
        have b7 := b6.set 3 (.slice Av nv cv)
        refine hK.out _ _ ⟨b7.cell 10, b7.cell 11⟩ (fun hHeld => ?_)
        clear hK K
        refine wpAnyH_done (by kernel_rfl) ?_ _
        clear hHeld
        go_wp2
        go_end0
        exact ⟨rfl, _, _, _, _, _, _, _, _, _, _, _, hL6.keep (Only.set w6 [gx] (by simp) (.slice Av nv cv)) (by simp), b7⟩
      · go_simp
        refine (rnum_s _ vp vg (vb, 0) h2.v).mono ?_; rintro e wn ⟨rfl, hr, kn⟩
        replace h2 := h2.readV hr kn
        replace kk := kk.then kn (by simp)
        clear hr kn
        go_wp2_with fail
        refine hK.out _ _ (KP.out _ kk) (fun hHeld => ?_)
        clear hK K
        refine held_step2 5 25 rfl rfl (by kernel_rfl) (fun K hK => ?_) (fun K hK => ?_)
        · have cl := KT.out _ kk
          go_simp
          go_wp2_with fail
          refine hK.out _ _ (KP.out _ kk) (fun hHeld => ?_)
          clear hK K
          clear cl
          refine held_step 25 rfl (by kernel_rfl) (fun K hK => ?_)
          go_simp
          refine (rnum_s _ vp vg (nu2 (vb, 0)) h2.v).mono ?_; rintro e wn ⟨rfl, hr, kn⟩
          replace h2 := h2.readV hr kn
          replace kk := kk.then kn (by simp)
          clear hr kn
          go_wp2_with fail
          refine hK.out _ _ (KP.out _ kk) (fun hHeld => ?_)
          clear hK K
          refine held_step 30 rfl (by kernel_rfl) (fun K hK => ?_)
          go_simp
          refine (rnum_s _ vp vg (nu2 (nu2 (vb, 0))) h2.v).mono ?_; rintro e wn ⟨rfl, hr, kn⟩
          replace h2 := h2.readV hr kn
          replace kk := kk.then kn (by simp)
          clear hr kn
          go_wp2_with fail
          refine hK.out _ _ (KP.out _ kk) (fun hHeld => ?_)
          clear hK K
          refine held_take 31 (.agg #[.int .u32 ((nu1 (kb, 0) : Nat) : Int), .int .u32 ((nu1 (nu2 (kb, 0)) : Nat) : Int), .int .u32 ((nu1 (vb, 0) : Nat) : Int), .int .u32 ((nu1 (nu2 (vb, 0)) : Nat) : Int), .int .u32 ((nu1 (nu2 (nu2 (vb, 0))) : Nat) : Int)]) rfl (by kernel_rfl) (by kernel_rfl) (by kernel_rfl) (fun _ _ _ h => h) hHeld (Or.inl ⟨by rfl, fun w' hSw => by (try dsimp only at hSw); (try subst hSw); go_simp⟩) ?_
          simp only [Act.put, List.setIfInBounds_toArray, List.set_cons_zero, List.set_cons_succ]
          refine held_step 32 rfl (by kernel_rfl) (fun K hK => ?_)
          go_simp
          go_wp2_with fail
          refine hK.out _ _ (KP.out _ (kk.alloc _)) (fun hHeld => ?_)
          clear hK K
          have hR := (hL.out.reach ho.out kk h2.a h2.c).keep ((Only.refl [] _).alloc (.cells (opE (⟨((nu1 (kb, 0) : Nat) : Int), ((nu1 (nu2 (kb, 0)) : Nat) : Int), ((nu1 (vb, 0) : Nat) : Int), ((nu1 (nu2 (vb, 0)) : Nat) : Int), (nu1 (nu2 (nu2 (vb, 0))) : Nat)⟩)).toArray 61)) (by simp)
          have bR := (hx.out.kept kk hgx).alloc (.cells (opE (⟨((nu1 (kb, 0) : Nat) : Int), ((nu1 (nu2 (kb, 0)) : Nat) : Int), ((nu1 (vb, 0) : Nat) : Int), ((nu1 (nu2 (vb, 0)) : Nat) : Int), (nu1 (nu2 (nu2 (vb, 0))) : Nat)⟩)).toArray 61)
          have b5 : Blk _ _ 61 (opE (⟨((nu1 (kb, 0) : Nat) : Int), ((nu1 (nu2 (kb, 0)) : Nat) : Int), ((nu1 (vb, 0) : Nat) : Int), ((nu1 (nu2 (vb, 0)) : Nat) : Int), (nu1 (nu2 (nu2 (vb, 0))) : Nat)⟩)).toArray := Blk.new wn 61 (opE (⟨((nu1 (kb, 0) : Nat) : Int), ((nu1 (nu2 (kb, 0)) : Nat) : Int), ((nu1 (vb, 0) : Nat) : Int), ((nu1 (nu2 (vb, 0)) : Nat) : Int), (nu1 (nu2 (nu2 (vb, 0))) : Nat)⟩)).toArray
          refine held_step 33 rfl (by kernel_rfl) (fun K hK => ?_)
          refine step_push rfl _ _ 24 rfl 61 _ 20 opE_length (by decide) opE_one Tryz.underlying24 info_op rfl ov s.opens.length s.opens rfl hR.mo.own wn.heap.size (⟨((nu1 (kb, 0) : Nat) : Int), ((nu1 (nu2 (kb, 0)) : Nat) : Int), ((nu1 (vb, 0) : Nat) : Int), ((nu1 (nu2 (vb, 0)) : Nat) : Int), (nu1 (nu2 (nu2 (vb, 0))) : Nat)⟩) 61 rfl b5 (by unfold maxLen; have := hl.out; omega) (by have := hl.out; omega) ?_
          intro vv w6 h6 g6 a6
          have hL6 := hR.push_mo h6 g6 a6
          obtain ⟨Av, nv, cv, rfl⟩ : ∃ A n c, vv = Value.slice A n c := by { obtain ⟨A, c, h, _⟩ := hL6.mo.shape opE_length; exact ⟨A, _, c, h⟩ }
          have b6 := bR.kept (only_own g6) (hR.apart 1 rfl)
          refine hK.out _ _ ⟨b6.cell 10, b6.cell 11⟩ (fun hHeld => ?_)
          clear hK K h6 g6 a6 hR bR b5
          have cq := b6.cell 3
          have fq := b6.free 3
          simp only [ldA, List.getElem?_toArray, List.getElem?_cons_zero, List.getElem?_cons_succ] at cq
          simp only [Act.put, List.setIfInBounds_toArray, List.set_cons_zero, List.set_cons_succ]
          refine held_take 34 (.pointer (some ⟨gx, 0, none⟩)) rfl (by kernel_rfl) (by kernel_rfl) (by kernel_rfl) (fun _ _ _ h => h) hHeld (Or.inl ⟨by rfl, fun w' hSw => by (try dsimp only at hSw); (try subst hSw); go_simp⟩) ?_
          simp only [Act.put, List.setIfInBounds_toArray, List.set_cons_zero, List.set_cons_succ]
          refine held_take 35 (.pointer (some ⟨gx, 0, none⟩)) rfl (by kernel_rfl) (by kernel_rfl) (by kernel_rfl) (fun _ _ _ h => h) hHeld (Or.inl ⟨by rfl, fun w' hSw => by (try dsimp only at hSw); (try subst hSw); go_simp⟩) ?_
          simp only [Act.put, List.setIfInBounds_toArray, List.set_cons_zero, List.set_cons_succ]
          refine held_take 36 (.pointer (some ⟨gx, 3, none⟩)) rfl (by kernel_rfl) (by kernel_rfl) (by kernel_rfl) (fun _ _ _ h => h) hHeld (Or.inl ⟨by rfl, fun w' hSw => by (try dsimp only at hSw); (try subst hSw); go_simp⟩) ?_
          simp only [Act.put, List.setIfInBounds_toArray, List.set_cons_zero, List.set_cons_succ]
          refine held_step 37 rfl (by kernel_rfl) (fun K hK => ?_)
          go_simp
          have b7 := b6.set 3 (.slice Av nv cv)
          refine hK.out _ _ ⟨b7.cell 10, b7.cell 11⟩ (fun hHeld => ?_)
          clear hK K
          refine wpAnyH_done (by kernel_rfl) ?_ _
          clear hHeld
          go_wp2
          go_end0
          exact ⟨rfl, _, _, _, _, _, _, _, _, _, _, _, hL6.keep (Only.set w6 [gx] (by simp) (.slice Av nv cv)) (by simp), b7⟩
        · go_simp
          refine (rnum_s _ vp vg (nu2 (vb, 0)) h2.v).mono ?_; rintro e wn ⟨rfl, hr, kn⟩
          replace h2 := h2.readV hr kn
          replace kk := kk.then kn (by simp)
          clear hr kn
          go_wp2_with fail
          refine hK.out _ _ (KP.out _ kk) (fun hHeld => ?_)
          clear hK K
          refine held_step2 5 30 rfl rfl (by kernel_rfl) (fun K hK => ?_) (fun K hK => ?_)
          · have cl := KT.out _ kk
            go_simp
            go_wp2_with fail
            refine hK.out _ _ (KP.out _ kk) (fun hHeld => ?_)
            clear hK K
            clear cl
            refine held_step 30 rfl (by kernel_rfl) (fun K hK => ?_)
            go_simp
            refine (rnum_s _ vp vg (nu2 (nu2 (vb, 0))) h2.v).mono ?_; rintro e wn ⟨rfl, hr, kn⟩
            replace h2 := h2.readV hr kn
            replace kk := kk.then kn (by simp)
            clear hr kn
            go_wp2_with fail
            refine hK.out _ _ (KP.out _ kk) (fun hHeld => ?_)
            clear hK K
            refine held_take 31 (.agg #[.int .u32 ((nu1 (kb, 0) : Nat) : Int), .int .u32 ((nu1 (nu2 (kb, 0)) : Nat) : Int), .int .u32 ((nu1 (vb, 0) : Nat) : Int), .int .u32 ((nu1 (nu2 (vb, 0)) : Nat) : Int), .int .u32 ((nu1 (nu2 (nu2 (vb, 0))) : Nat) : Int)]) rfl (by kernel_rfl) (by kernel_rfl) (by kernel_rfl) (fun _ _ _ h => h) hHeld (Or.inl ⟨by rfl, fun w' hSw => by (try dsimp only at hSw); (try subst hSw); go_simp⟩) ?_
            simp only [Act.put, List.setIfInBounds_toArray, List.set_cons_zero, List.set_cons_succ]
            refine held_step 32 rfl (by kernel_rfl) (fun K hK => ?_)
            go_simp
            go_wp2_with fail
            refine hK.out _ _ (KP.out _ (kk.alloc _)) (fun hHeld => ?_)
            clear hK K
            have hR := (hL.out.reach ho.out kk h2.a h2.c).keep ((Only.refl [] _).alloc (.cells (opE (⟨((nu1 (kb, 0) : Nat) : Int), ((nu1 (nu2 (kb, 0)) : Nat) : Int), ((nu1 (vb, 0) : Nat) : Int), ((nu1 (nu2 (vb, 0)) : Nat) : Int), (nu1 (nu2 (nu2 (vb, 0))) : Nat)⟩)).toArray 61)) (by simp)
            have bR := (hx.out.kept kk hgx).alloc (.cells (opE (⟨((nu1 (kb, 0) : Nat) : Int), ((nu1 (nu2 (kb, 0)) : Nat) : Int), ((nu1 (vb, 0) : Nat) : Int), ((nu1 (nu2 (vb, 0)) : Nat) : Int), (nu1 (nu2 (nu2 (vb, 0))) : Nat)⟩)).toArray 61)
            have b5 : Blk _ _ 61 (opE (⟨((nu1 (kb, 0) : Nat) : Int), ((nu1 (nu2 (kb, 0)) : Nat) : Int), ((nu1 (vb, 0) : Nat) : Int), ((nu1 (nu2 (vb, 0)) : Nat) : Int), (nu1 (nu2 (nu2 (vb, 0))) : Nat)⟩)).toArray := Blk.new wn 61 (opE (⟨((nu1 (kb, 0) : Nat) : Int), ((nu1 (nu2 (kb, 0)) : Nat) : Int), ((nu1 (vb, 0) : Nat) : Int), ((nu1 (nu2 (vb, 0)) : Nat) : Int), (nu1 (nu2 (nu2 (vb, 0))) : Nat)⟩)).toArray
            refine held_step 33 rfl (by kernel_rfl) (fun K hK => ?_)
            refine step_push rfl _ _ 24 rfl 61 _ 20 opE_length (by decide) opE_one Tryz.underlying24 info_op rfl ov s.opens.length s.opens rfl hR.mo.own wn.heap.size (⟨((nu1 (kb, 0) : Nat) : Int), ((nu1 (nu2 (kb, 0)) : Nat) : Int), ((nu1 (vb, 0) : Nat) : Int), ((nu1 (nu2 (vb, 0)) : Nat) : Int), (nu1 (nu2 (nu2 (vb, 0))) : Nat)⟩) 61 rfl b5 (by unfold maxLen; have := hl.out; omega) (by have := hl.out; omega) ?_
            intro vv w6 h6 g6 a6
            have hL6 := hR.push_mo h6 g6 a6
            obtain ⟨Av, nv, cv, rfl⟩ : ∃ A n c, vv = Value.slice A n c := by { obtain ⟨A, c, h, _⟩ := hL6.mo.shape opE_length; exact ⟨A, _, c, h⟩ }
            have b6 := bR.kept (only_own g6) (hR.apart 1 rfl)
            refine hK.out _ _ ⟨b6.cell 10, b6.cell 11⟩ (fun hHeld => ?_)
            clear hK K h6 g6 a6 hR bR b5
            have cq := b6.cell 3
            have fq := b6.free 3
            simp only [ldA, List.getElem?_toArray, List.getElem?_cons_zero, List.getElem?_cons_succ] at cq
            simp only [Act.put, List.setIfInBounds_toArray, List.set_cons_zero, List.set_cons_succ]
            refine held_take 34 (.pointer (some ⟨gx, 0, none⟩)) rfl (by kernel_rfl) (by kernel_rfl) (by kernel_rfl) (fun _ _ _ h => h) hHeld (Or.inl ⟨by rfl, fun w' hSw => by (try dsimp only at hSw); (try subst hSw); go_simp⟩) ?_
            simp only [Act.put, List.setIfInBounds_toArray, List.set_cons_zero, List.set_cons_succ]
            refine held_take 35 (.pointer (some ⟨gx, 0, none⟩)) rfl (by kernel_rfl) (by kernel_rfl) (by kernel_rfl) (fun _ _ _ h => h) hHeld (Or.inl ⟨by rfl, fun w' hSw => by (try dsimp only at hSw); (try subst hSw); go_simp⟩) ?_
            simp only [Act.put, List.setIfInBounds_toArray, List.set_cons_zero, List.set_cons_succ]
            refine held_take 36 (.pointer (some ⟨gx, 3, none⟩)) rfl (by kernel_rfl) (by kernel_rfl) (by kernel_rfl) (fun _ _ _ h => h) hHeld (Or.inl ⟨by rfl, fun w' hSw => by (try dsimp only at hSw); (try subst hSw); go_simp⟩) ?_
            simp only [Act.put, List.setIfInBounds_toArray, List.set_cons_zero, List.set_cons_succ]
            refine held_step 37 rfl (by kernel_rfl) (fun K hK => ?_)
            go_simp
            have b7 := b6.set 3 (.slice Av nv cv)
            refine hK.out _ _ ⟨b7.cell 10, b7.cell 11⟩ (fun hHeld => ?_)
            clear hK K
            refine wpAnyH_done (by kernel_rfl) ?_ _
            clear hHeld
            go_wp2
            go_end0
            exact ⟨rfl, _, _, _, _, _, _, _, _, _, _, _, hL6.keep (Only.set w6 [gx] (by simp) (.slice Av nv cv)) (by simp), b7⟩
          · go_simp
            refine (rnum_s _ vp vg (nu2 (nu2 (vb, 0))) h2.v).mono ?_; rintro e wn ⟨rfl, hr, kn⟩
            replace h2 := h2.readV hr kn
            replace kk := kk.then kn (by simp)
            clear hr kn
            go_wp2_with fail
            refine hK.out _ _ (KP.out _ kk) (fun hHeld => ?_)
            clear hK K
            refine held_take 31 (.agg #[.int .u32 ((nu1 (kb, 0) : Nat) : Int), .int .u32 ((nu1 (nu2 (kb, 0)) : Nat) : Int), .int .u32 ((nu1 (vb, 0) : Nat) : Int), .int .u32 ((nu1 (nu2 (vb, 0)) : Nat) : Int), .int .u32 ((nu1 (nu2 (nu2 (vb, 0))) : Nat) : Int)]) rfl (by kernel_rfl) (by kernel_rfl) (by kernel_rfl) (fun _ _ _ h => h) hHeld (Or.inl ⟨by rfl, fun w' hSw => by (try dsimp only at hSw); (try subst hSw); go_simp⟩) ?_
            simp only [Act.put, List.setIfInBounds_toArray, List.set_cons_zero, List.set_cons_succ]
            refine held_step2 5 32 rfl rfl (by kernel_rfl) (fun K hK => ?_) (fun K hK => ?_)
            · have cl := KT.out _ kk
              go_simp
              go_wp2_with fail
              refine hK.out _ _ (KP.out _ kk) (fun hHeld => ?_)
              clear hK K
              clear cl
              refine held_step 32 rfl (by kernel_rfl) (fun K hK => ?_)
              go_simp
              go_wp2_with fail
              refine hK.out _ _ (KP.out _ (kk.alloc _)) (fun hHeld => ?_)
              clear hK K
              have hR := (hL.out.reach ho.out kk h2.a h2.c).keep ((Only.refl [] _).alloc (.cells (opE (⟨((nu1 (kb, 0) : Nat) : Int), ((nu1 (nu2 (kb, 0)) : Nat) : Int), ((nu1 (vb, 0) : Nat) : Int), ((nu1 (nu2 (vb, 0)) : Nat) : Int), (nu1 (nu2 (nu2 (vb, 0))) : Nat)⟩)).toArray 61)) (by simp)
              have bR := (hx.out.kept kk hgx).alloc (.cells (opE (⟨((nu1 (kb, 0) : Nat) : Int), ((nu1 (nu2 (kb, 0)) : Nat) : Int), ((nu1 (vb, 0) : Nat) : Int), ((nu1 (nu2 (vb, 0)) : Nat) : Int), (nu1 (nu2 (nu2 (vb, 0))) : Nat)⟩)).toArray 61)
              have b5 : Blk _ _ 61 (opE (⟨((nu1 (kb, 0) : Nat) : Int), ((nu1 (nu2 (kb, 0)) : Nat) : Int), ((nu1 (vb, 0) : Nat) : Int), ((nu1 (nu2 (vb, 0)) : Nat) : Int), (nu1 (nu2 (nu2 (vb, 0))) : Nat)⟩)).toArray := Blk.new wn 61 (opE (⟨((nu1 (kb, 0) : Nat) : Int), ((nu1 (nu2 (kb, 0)) : Nat) : Int), ((nu1 (vb, 0) : Nat) : Int), ((nu1 (nu2 (vb, 0)) : Nat) : Int), (nu1 (nu2 (nu2 (vb, 0))) : Nat)⟩)).toArray
              refine held_step 33 rfl (by kernel_rfl) (fun K hK => ?_)
              refine step_push rfl _ _ 24 rfl 61 _ 20 opE_length (by decide) opE_one Tryz.underlying24 info_op rfl ov s.opens.length s.opens rfl hR.mo.own wn.heap.size (⟨((nu1 (kb, 0) : Nat) : Int), ((nu1 (nu2 (kb, 0)) : Nat) : Int), ((nu1 (vb, 0) : Nat) : Int), ((nu1 (nu2 (vb, 0)) : Nat) : Int), (nu1 (nu2 (nu2 (vb, 0))) : Nat)⟩) 61 rfl b5 (by unfold maxLen; have := hl.out; omega) (by have := hl.out; omega) ?_
              intro vv w6 h6 g6 a6
              have hL6 := hR.push_mo h6 g6 a6
              obtain ⟨Av, nv, cv, rfl⟩ : ∃ A n c, vv = Value.slice A n c := by { obtain ⟨A, c, h, _⟩ := hL6.mo.shape opE_length; exact ⟨A, _, c, h⟩ }
              have b6 := bR.kept (only_own g6) (hR.apart 1 rfl)
              refine hK.out _ _ ⟨b6.cell 10, b6.cell 11⟩ (fun hHeld => ?_)
              clear hK K h6 g6 a6 hR bR b5
              have cq := b6.cell 3
              have fq := b6.free 3
              simp only [ldA, List.getElem?_toArray, List.getElem?_cons_zero, List.getElem?_cons_succ] at cq
              simp only [Act.put, List.setIfInBounds_toArray, List.set_cons_zero, List.set_cons_succ]
              refine held_take 34 (.pointer (some ⟨gx, 0, none⟩)) rfl (by kernel_rfl) (by kernel_rfl) (by kernel_rfl) (fun _ _ _ h => h) hHeld (Or.inl ⟨by rfl, fun w' hSw => by (try dsimp only at hSw); (try subst hSw); go_simp⟩) ?_
              simp only [Act.put, List.setIfInBounds_toArray, List.set_cons_zero, List.set_cons_succ]
              refine held_take 35 (.pointer (some ⟨gx, 0, none⟩)) rfl (by kernel_rfl) (by kernel_rfl) (by kernel_rfl) (fun _ _ _ h => h) hHeld (Or.inl ⟨by rfl, fun w' hSw => by (try dsimp only at hSw); (try subst hSw); go_simp⟩) ?_
              simp only [Act.put, List.setIfInBounds_toArray, List.set_cons_zero, List.set_cons_succ]
              refine held_take 36 (.pointer (some ⟨gx, 3, none⟩)) rfl (by kernel_rfl) (by kernel_rfl) (by kernel_rfl) (fun _ _ _ h => h) hHeld (Or.inl ⟨by rfl, fun w' hSw => by (try dsimp only at hSw); (try subst hSw); go_simp⟩) ?_
              simp only [Act.put, List.setIfInBounds_toArray, List.set_cons_zero, List.set_cons_succ]
              refine held_step 37 rfl (by kernel_rfl) (fun K hK => ?_)
              go_simp
              have b7 := b6.set 3 (.slice Av nv cv)
              refine hK.out _ _ ⟨b7.cell 10, b7.cell 11⟩ (fun hHeld => ?_)
              clear hK K
              refine wpAnyH_done (by kernel_rfl) ?_ _
              clear hHeld
              go_wp2
              go_end0
              exact ⟨rfl, _, _, _, _, _, _, _, _, _, _, _, hL6.keep (Only.set w6 [gx] (by simp) (.slice Av nv cv)) (by simp), b7⟩
            · go_simp
              go_wp2_with fail
              refine hK.out _ _ (KP.out _ (kk.alloc _)) (fun hHeld => ?_)
              clear hK K
              have cl := KT.out _ (kk.alloc (.cells (opE (⟨((nu1 (kb, 0) : Nat) : Int), ((nu1 (nu2 (kb, 0)) : Nat) : Int), ((nu1 (vb, 0) : Nat) : Int), ((nu1 (nu2 (vb, 0)) : Nat) : Int), (nu1 (nu2 (nu2 (vb, 0))) : Nat)⟩)).toArray 61))
              simp only [opE] at cl
              refine held_step 5 rfl (by kernel_rfl) (fun K hK => ?_)
              go_simp
              go_wp2_with fail
              refine hK.out _ _ (KP.out _ (kk.alloc _)) (fun hHeld => ?_)
              clear hK K
              clear cl
              have hR := (hL.out.reach ho.out kk h2.a h2.c).keep ((Only.refl [] _).alloc (.cells (opE (⟨((nu1 (kb, 0) : Nat) : Int), ((nu1 (nu2 (kb, 0)) : Nat) : Int), ((nu1 (vb, 0) : Nat) : Int), ((nu1 (nu2 (vb, 0)) : Nat) : Int), (nu1 (nu2 (nu2 (vb, 0))) : Nat)⟩)).toArray 61)) (by simp)
              have bR := (hx.out.kept kk hgx).alloc (.cells (opE (⟨((nu1 (kb, 0) : Nat) : Int), ((nu1 (nu2 (kb, 0)) : Nat) : Int), ((nu1 (vb, 0) : Nat) : Int), ((nu1 (nu2 (vb, 0)) : Nat) : Int), (nu1 (nu2 (nu2 (vb, 0))) : Nat)⟩)).toArray 61)
              have b5 : Blk _ _ 61 (opE (⟨((nu1 (kb, 0) : Nat) : Int), ((nu1 (nu2 (kb, 0)) : Nat) : Int), ((nu1 (vb, 0) : Nat) : Int), ((nu1 (nu2 (vb, 0)) : Nat) : Int), (nu1 (nu2 (nu2 (vb, 0))) : Nat)⟩)).toArray := Blk.new wn 61 (opE (⟨((nu1 (kb, 0) : Nat) : Int), ((nu1 (nu2 (kb, 0)) : Nat) : Int), ((nu1 (vb, 0) : Nat) : Int), ((nu1 (nu2 (vb, 0)) : Nat) : Int), (nu1 (nu2 (nu2 (vb, 0))) : Nat)⟩)).toArray
              refine held_step 33 rfl (by kernel_rfl) (fun K hK => ?_)
              refine step_push rfl _ _ 24 rfl 61 _ 20 opE_length (by decide) opE_one Tryz.underlying24 info_op rfl ov s.opens.length s.opens rfl hR.mo.own wn.heap.size (⟨((nu1 (kb, 0) : Nat) : Int), ((nu1 (nu2 (kb, 0)) : Nat) : Int), ((nu1 (vb, 0) : Nat) : Int), ((nu1 (nu2 (vb, 0)) : Nat) : Int), (nu1 (nu2 (nu2 (vb, 0))) : Nat)⟩) 61 rfl b5 (by unfold maxLen; have := hl.out; omega) (by have := hl.out; omega) ?_
              intro vv w6 h6 g6 a6
              have hL6 := hR.push_mo h6 g6 a6
              obtain ⟨Av, nv, cv, rfl⟩ : ∃ A n c, vv = Value.slice A n c := by { obtain ⟨A, c, h, _⟩ := hL6.mo.shape opE_length; exact ⟨A, _, c, h⟩ }
              have b6 := bR.kept (only_own g6) (hR.apart 1 rfl)
              refine hK.out _ _ ⟨b6.cell 10, b6.cell 11⟩ (fun hHeld => ?_)
              clear hK K h6 g6 a6 hR bR b5
              have cq := b6.cell 3
              have fq := b6.free 3
              simp only [ldA, List.getElem?_toArray, List.getElem?_cons_zero, List.getElem?_cons_succ] at cq
              simp only [Act.put, List.setIfInBounds_toArray, List.set_cons_zero, List.set_cons_succ]
              refine held_take 34 (.pointer (some ⟨gx, 0, none⟩)) rfl (by kernel_rfl) (by kernel_rfl) (by kernel_rfl) (fun _ _ _ h => h) hHeld (Or.inl ⟨by rfl, fun w' hSw => by (try dsimp only at hSw); (try subst hSw); go_simp⟩) ?_
              simp only [Act.put, List.setIfInBounds_toArray, List.set_cons_zero, List.set_cons_succ]
              refine held_take 35 (.pointer (some ⟨gx, 0, none⟩)) rfl (by kernel_rfl) (by kernel_rfl) (by kernel_rfl) (fun _ _ _ h => h) hHeld (Or.inl ⟨by rfl, fun w' hSw => by (try dsimp only at hSw); (try subst hSw); go_simp⟩) ?_
              simp only [Act.put, List.setIfInBounds_toArray, List.set_cons_zero, List.set_cons_succ]
              refine held_take 36 (.pointer (some ⟨gx, 3, none⟩)) rfl (by kernel_rfl) (by kernel_rfl) (by kernel_rfl) (fun _ _ _ h => h) hHeld (Or.inl ⟨by rfl, fun w' hSw => by (try dsimp only at hSw); (try subst hSw); go_simp⟩) ?_
              simp only [Act.put, List.setIfInBounds_toArray, List.set_cons_zero, List.set_cons_succ]
              refine held_step 37 rfl (by kernel_rfl) (fun K hK => ?_)
              go_simp
              have b7 := b6.set 3 (.slice Av nv cv)
              refine hK.out _ _ ⟨b7.cell 10, b7.cell 11⟩ (fun hHeld => ?_)
              clear hK K
              refine wpAnyH_done (by kernel_rfl) ?_ _
              clear hHeld
              go_wp2
              go_end0
              exact ⟨rfl, _, _, _, _, _, _, _, _, _, _, _, hL6.keep (Only.set w6 [gx] (by simp) (.slice Av nv cv)) (by simp), b7⟩

end Go.Proofs.YtalkhhjfplahkaaGreat
