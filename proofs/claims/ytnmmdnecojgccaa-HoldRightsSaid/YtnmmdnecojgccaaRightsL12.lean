/- HoldRights: whether every lock may be, and what is asked of it, are the document's; and every new one. -/
import Derived.Test.YtnmmdnecojgccaaAlive12
namespace Go.Proofs.Ytnmmdnecojgccaa
open Go.RowKit
set_option linter.unusedVariables false

set_option maxRecDepth 100000 in
set_option maxHeartbeats 8000000 in
theorem holdRights_walk (w : World) (L : Lk) (A : Option Addr) (c : Nat) (cl m : Int) (hb : Els holE 2 w A L.hs) (hl : L.hs.length ≤ 9223372036854775807) :
    Calls Try.prog 3 #[lkV L (.slice A L.hs.length c), .int .u32 cl, .int .u32 m] w fun e w' => e = .returned (.bool true) ∧ Only [] w w' := by
  have hRt := fun W (k : Only [] w W) => right_any W L A c (hb.kept k (by simp)) hl
  have hRr := fun W (k : Only [] w W) => rright_any W L A c (hb.kept k (by simp)) hl
  have hO := fun W (k : Only [] w W) => others_any W L A c cl m (hb.kept k (by simp)) hl
  have hOr := fun (h : L.hs.length ≤ 1000) W (k : Only [] w W) => rothers_any W L A c cl m (hb.kept k (by simp)) h
  have hM := fun W (k : Only [] w W) => mode_of W L A c cl (hb.kept k (by simp)) hl
  have hMr := fun (h : L.hs.length ≤ 1000) W (k : Only [] w W) => rmode_of W L A c cl (hb.kept k (by simp)) h
  have hF := fun W => fresh_any W cl
  have hSa := fun W => rsame_yes W ⟨cl, 1, 0, 0, false, false, []⟩ none none 0 0 (.inl rfl) (.inl rfl) (by simp)
  have hle : (othersL L.hs cl m).length ≤ L.hs.length := others_le _ _ _
  have hno : ¬ RightP L → othL L cl m = [] ∧ modeL L cl = 0 := fun h => ⟨if_neg h, if_neg h⟩
  have hye : RightP L → othL L cl m = othersL L.hs cl m ∧ modeL L cl = modeH L.hs cl := fun h => ⟨if_pos h, if_pos h⟩
  have hlong : 100 < L.hs.length → ¬ RightP L := fun h r => by have := r.len; omega
  obtain ⟨P, hP⟩ : ∃ P, P = decide (RightP L) := ⟨_, rfl⟩
  rw [← hP] at hRt hRr
  have hPt : P = true → RightP L := fun h => by rw [hP] at h; exact of_decide_eq_true h
  have hPf : P = false → ¬ RightP L := fun h => by rw [hP] at h; exact of_decide_eq_false h
  have hlong2 : 100 < L.hs.length → P = false := fun h => by rw [hP]; exact decide_eq_false (hlong h)
  clear hP hlong
  have hno2 := fun h => hno (hPf h)
  have hye2 := fun h => hye (hPt h)
  clear hno hye hPt hPf
  generalize othL L cl m = O1 at *
  generalize modeL L cl = M1 at *
  obtain ⟨f, ep, u, ct, fe, go, l⟩ := L
  have k0 := (Only.refl [] w).alloc (.cells #[.int .u32 f, .int .u32 ep, .int .u32 u, .int .u32 ct, .bool fe, .bool go, .slice A l.length c] 25)
  have b0 := Lx.new w f ep u ct fe go l (.slice A l.length c)
  simp only at hb hl hle hOr hMr hno2 hye2 hlong2
  simp only [lkV, List.length_nil] at hRt hRr hO hOr hM hMr hF hSa ⊢
  generalize othersL l cl m = OT at *
  generalize modeH l cl = MO at *
  replace hRt := Lib.hid hRt
  replace hRr := Lib.hid hRr
  replace hO := Lib.hid hO
  replace hM := Lib.hid hM
  replace hF := Lib.hid hF
  replace hSa := Lib.hid hSa
  replace hb := Lib.hid hb
  replace hle := Lib.hid hle
  replace hno2 := Lib.hid hno2
  replace hye2 := Lib.hid hye2
  replace hlong2 := Lib.hid hlong2
  replace hOr := Lib.hid hOr
  replace hMr := Lib.hid hMr
  go_enter Try.func3, Try.ntmps3
  go_wp2_with fail
  refine (alive_any _).mono ?_; rintro e w1 ⟨rfl, k1'⟩
  have k1 := k0.trans k1'
  have b1 := b0.kept k1' (by simp)
  obtain ⟨c0, c1, c2, c3, c4, c5, c6⟩ := b1.at (Only.refl [] _) (by simp)
  clear b0 k0 k1'
  by_cases h100 : (100 : Int) < (l.length : Int)
  · have d100 : decide ((100 : Int) < (l.length : Int)) = true := decide_eq_true h100
    obtain rfl := hlong2.out (by omega)
    clear c0 c1 c2 c3 c4 c5
    go_wp2_with fail
    refine (alive_any _).mono ?_; rintro e wz ⟨rfl, kz⟩
    obtain ⟨c0, c1, c2, c3, c4, c5, c6⟩ := b1.at kz (by simp)
    go_wp2_with fail
    refine (hRt.out _ (k1.trans kz)).mono ?_; rintro e wy ⟨rfl, ky⟩
    go_wp2
    go_ret
    exact ⟨rfl, (k1.trans kz).trans ky⟩
  have d100 : decide ((100 : Int) < (l.length : Int)) = false := decide_eq_false h100
  have hl100 : l.length ≤ 100 := by omega
  have hOr2 := hOr.out (by omega)
  have hMr2 := hMr.out (by omega)
  replace hOr2 := Lib.hid hOr2
  replace hMr2 := Lib.hid hMr2
  replace h100 := Lib.hid h100
  clear hOr hMr
  go_wp2_with fail
  refine (hRr.out _ k1).mono ?_; rintro e w2 ⟨rfl, k2'⟩
  have k2 := k1.trans k2'
  have b2 := b1.kept k2' (by simp)
  clear b1 k2' c0 c1 c2 c3 c4 c5 c6
  go_wp2_with fail
  refine (alive_any _).mono ?_; rintro e w3 ⟨rfl, k3'⟩
  have k3 := k2.trans k3'
  have b3 := b2.kept k3' (by simp)
  clear b2 k3'
  obtain ⟨c0, c1, c2, c3, c4, c5, c6⟩ := b3.at (Only.refl [] _) (by simp)
  go_wp2_with fail
  refine (hRt.out _ k3).mono ?_; rintro e w4 ⟨rfl, k4'⟩
  have k4 := k3.trans k4'
  have b4 := b3.kept k4' (by simp)
  clear b3 k4' c0 c1 c2 c3 c4 c5 c6
  cases P with
  | false =>
    obtain ⟨rfl, rfl⟩ := hno2.out rfl
    go_wp2_with fail
    refine (hF.out _).mono ?_; rintro e w5 ⟨rfl, k5'⟩
    go_wp2_with fail
    refine (hSa.out _).mono ?_; rintro e w6 ⟨rfl, k6'⟩
    have k6 := k4.trans (k5'.trans k6')
    have b6 := b4.kept (k5'.trans k6') (by simp)
    clear b4 k5' k6'
    obtain ⟨c0, c1, c2, c3, c4, c5, c6⟩ := b6.at (Only.refl [] _) (by simp)
    go_wp2_with fail
    refine (hO.out _ k6).mono ?_; rintro e w7 ⟨v7, rfl, n7⟩
    obtain ⟨A7, d7, rfl, _⟩ := n7.shape nuE_length
    have k7 := k6.trans n7.only
    have b7 := b6.kept n7.only (by simp)
    clear b6 n7 c0 c1 c2 c3 c4 c5 c6
    obtain ⟨c0, c1, c2, c3, c4, c5, c6⟩ := b7.at (Only.refl [] _) (by simp)
    go_wp2_with fail
    refine (hM.out _ k7).mono ?_; rintro e w8 ⟨rfl, k8⟩
    go_wp2
    go_ret
    exact ⟨rfl, k7.trans k8⟩
  | true =>
    obtain ⟨h1, h2⟩ := hye2.out rfl
    replace h1 := h1.symm
    replace h2 := h2.symm
    subst h1
    subst h2
    go_wp2_with fail
    refine (hF.out _).mono ?_; rintro e w5 ⟨rfl, k5'⟩
    go_wp2_with fail
    refine (hSa.out _).mono ?_; rintro e w6 ⟨rfl, k6'⟩
    have k6 := k4.trans (k5'.trans k6')
    have b6 := b4.kept (k5'.trans k6') (by simp)
    clear b4 k5' k6'
    obtain ⟨c0, c1, c2, c3, c4, c5, c6⟩ := b6.at (Only.refl [] _) (by simp)
    go_wp2_with fail
    refine (hO.out _ k6).mono ?_; rintro e w7 ⟨v7, rfl, n7⟩
    obtain ⟨A7, d7, rfl, e7, _⟩ := n7.shape nuE_length
    have k7 := k6.trans n7.only
    have b7 := b6.kept n7.only (by simp)
    clear b6 n7 c0 c1 c2 c3 c4 c5 c6
    obtain ⟨c0, c1, c2, c3, c4, c5, c6⟩ := b7.at (Only.refl [] _) (by simp)
    go_wp2_with fail
    refine (hOr2.out _ k7).mono ?_; rintro e w8 ⟨v8, rfl, n8⟩
    obtain ⟨A8, d8, rfl, e8, _⟩ := n8.shape nuE_length
    have k8 := k7.trans n8.only
    have b8 := b7.kept n8.only (by simp)
    have e78 := e7.kept n8.only (by simp)
    clear b7 n8 e7 c0 c1 c2 c3 c4 c5 c6
    have KP : Hid (∀ w', Only [] w8 w' → w'.cell? ⟨w.heap.size, 0, none⟩ = some (.int .u32 f) ∧ w'.cell? ⟨w.heap.size, 1, none⟩ = some (.int .u32 ep) ∧ w'.cell? ⟨w.heap.size, 2, none⟩ = some (.int .u32 u) ∧ w'.cell? ⟨w.heap.size, 3, none⟩ = some (.int .u32 ct) ∧ w'.cell? ⟨w.heap.size, 4, none⟩ = some (.bool fe) ∧ w'.cell? ⟨w.heap.size, 5, none⟩ = some (.bool go) ∧ w'.cell? ⟨w.heap.size, 6, none⟩ = some (.slice A l.length c)) := fun w' kk => b8.at kk (by simp)
    go_wp2_with fail
    generalize w.heap.size = q at *
    have k9 := k8.drew
    refine wp_region_held_drew (S := fun w' => w'.cell? ⟨q, 0, none⟩ = some (.int .u32 f) ∧ w'.cell? ⟨q, 1, none⟩ = some (.int .u32 ep) ∧ w'.cell? ⟨q, 2, none⟩ = some (.int .u32 u) ∧ w'.cell? ⟨q, 3, none⟩ = some (.int .u32 ct) ∧ w'.cell? ⟨q, 4, none⟩ = some (.bool fe) ∧ w'.cell? ⟨q, 5, none⟩ = some (.bool go) ∧ w'.cell? ⟨q, 6, none⟩ = some (.slice A l.length c)) (by kernel_rfl) (KP.out _ (Only.refl _ _).drew) (fun hHeld => ?_)
    refine held_take 0 (.slice A7 OT.length d7) rfl (by kernel_rfl) (by kernel_rfl) (by kernel_rfl) (fun _ _ _ h => h) hHeld (Or.inl ⟨by rfl, fun w' hSw => by (try dsimp only at hSw); (try subst hSw); go_simp⟩) ?_
    simp only [Act.put, List.setIfInBounds_toArray, List.set_cons_zero, List.set_cons_succ]
    refine held_take 2 (.slice A8 OT.length d8) rfl (by kernel_rfl) (by kernel_rfl) (by kernel_rfl) (fun _ _ _ h => h) hHeld (Or.inl ⟨by rfl, fun w' hSw => by (try dsimp only at hSw); (try subst hSw); go_simp⟩) ?_
    simp only [Act.put, List.setIfInBounds_toArray, List.set_cons_zero, List.set_cons_succ]
    refine held_take 1 (.int .i64 OT.length) rfl (by kernel_rfl) (by kernel_rfl) (by kernel_rfl) (fun _ _ _ h => h) hHeld (Or.inl ⟨by rfl, fun w' hSw => by (try dsimp only at hSw); (try subst hSw); go_simp⟩) ?_
    simp only [Act.put, List.setIfInBounds_toArray, List.set_cons_zero, List.set_cons_succ]
    refine held_take 3 (.int .i64 OT.length) rfl (by kernel_rfl) (by kernel_rfl) (by kernel_rfl) (fun _ _ _ h => h) hHeld (Or.inl ⟨by rfl, fun w' hSw => by (try dsimp only at hSw); (try subst hSw); go_simp⟩) ?_
    simp only [Act.put, List.setIfInBounds_toArray, List.set_cons_zero, List.set_cons_succ]
    refine held_take 4 (.bool false) rfl (by kernel_rfl) (by kernel_rfl) (by kernel_rfl) (fun _ _ _ h => h) hHeld (Or.inl ⟨by rfl, fun w' hSw => by (try dsimp only at hSw); (try subst hSw); go_simp⟩) ?_
    simp only [Act.put, List.setIfInBounds_toArray, List.set_cons_zero, List.set_cons_succ]
    refine held_take 5 (.bool false) rfl (by kernel_rfl) (by kernel_rfl) (by kernel_rfl) (fun _ _ _ h => h) hHeld (Or.inl ⟨by rfl, fun w' hSw => by (try dsimp only at hSw); (try subst hSw); go_simp⟩) ?_
    simp only [Act.put, List.setIfInBounds_toArray, List.set_cons_zero, List.set_cons_succ]
    refine held_take 6 (.agg #[.int .u32 f, .int .u32 ep, .int .u32 u, .int .u32 ct, .bool fe, .bool go, .slice A l.length c]) rfl (by kernel_rfl) (by kernel_rfl) (by kernel_rfl) (fun _ _ _ h => h) hHeld (Or.inl ⟨by rfl, fun w' hSw => by (try dsimp only at hSw); (try subst hSw); go_simp⟩) ?_
    simp only [Act.put, List.setIfInBounds_toArray, List.set_cons_zero, List.set_cons_succ]
    refine held_take 7 (.int .u32 cl) rfl (by kernel_rfl) (by kernel_rfl) (by kernel_rfl) (fun _ _ _ h => h) hHeld (Or.inl ⟨by rfl, fun w' hSw => by (try dsimp only at hSw); (try subst hSw); go_simp⟩) ?_
    simp only [Act.put, List.setIfInBounds_toArray, List.set_cons_zero, List.set_cons_succ]
    refine held_take 9 (.agg #[.int .u32 f, .int .u32 ep, .int .u32 u, .int .u32 ct, .bool fe, .bool go, .slice A l.length c]) rfl (by kernel_rfl) (by kernel_rfl) (by kernel_rfl) (fun _ _ _ h => h) hHeld (Or.inl ⟨by rfl, fun w' hSw => by (try dsimp only at hSw); (try subst hSw); go_simp⟩) ?_
    simp only [Act.put, List.setIfInBounds_toArray, List.set_cons_zero, List.set_cons_succ]
    refine held_take 10 (.int .u32 cl) rfl (by kernel_rfl) (by kernel_rfl) (by kernel_rfl) (fun _ _ _ h => h) hHeld (Or.inl ⟨by rfl, fun w' hSw => by (try dsimp only at hSw); (try subst hSw); go_simp⟩) ?_
    simp only [Act.put, List.setIfInBounds_toArray, List.set_cons_zero, List.set_cons_succ]
    refine held_step 8 rfl (by kernel_rfl) (fun K hK => ?_)
    go_simp
    refine (hM.out _ k9).mono ?_; rintro e w10 ⟨rfl, k10'⟩; replace k10' := k10'.undrew; have k10 := k8.trans k10'
    go_wp2_with fail
    refine hK.out _ _ (KP.out _ k10') (fun hHeld => ?_)
    clear hK K
    refine held_step 11 rfl (by kernel_rfl) (fun K hK => ?_)
    go_simp
    refine (hMr2.out _ k10).mono ?_; rintro e w11 ⟨rfl, k11'⟩; have k11 := k10.trans k11'
    go_wp2_with fail
    refine hK.out _ _ (KP.out _ (k10'.trans k11')) (fun hHeld => ?_)
    clear hK K
    refine held_take 12 (.bool false) rfl (by kernel_rfl) (by kernel_rfl) (by kernel_rfl) (fun _ _ _ h => h) hHeld (Or.inl ⟨by rfl, fun w' hSw => by (try dsimp only at hSw); (try subst hSw); go_simp⟩) ?_
    simp only [Act.put, List.setIfInBounds_toArray, List.set_cons_zero, List.set_cons_succ]
    refine held_take 13 (.bool false) rfl (by kernel_rfl) (by kernel_rfl) (by kernel_rfl) (fun _ _ _ h => h) hHeld (Or.inl ⟨by rfl, fun w' hSw => by (try dsimp only at hSw); (try subst hSw); go_simp⟩) ?_
    simp only [Act.put, List.setIfInBounds_toArray, List.set_cons_zero, List.set_cons_succ]
    refine wpAnyH_done (by kernel_rfl) ?_ _
    clear hHeld
    have e711 := e78.kept (k10'.trans k11') (by simp)
    have e811 := e8.kept (k10'.trans k11') (by simp)
    clear KP b8 e78 e8 k10' k11' k10 k9 k8 k7 k6 k4 k3 k2
    have hON : OT.length ≤ 100 := by have := hle.out; omega
    replace hle := Lib.hid hle
    go_wp2_with fail
    go_loopw [10] (fun i wr => ∃ n : Nat, n ≤ OT.length ∧ i = .int .i64 n ∧ Only [] w11 wr) (fun i _ => OT.length - (intOf i).toNat)
    case atStart => exact ⟨0, Nat.zero_le _, rfl, Only.refl _ _⟩
    case round =>
      obtain ⟨n, hn, rfl, hk⟩ := hrel
      by_cases hlt : n < OT.length
      · obtain ⟨g, o, rfl, _, hat⟩ := e711.get hlt
        obtain ⟨g', o', rfl, _, hat'⟩ := e811.get hlt
        have x0 := nus_at (hat.kept hk (by simp)) hlt
        have x1 := nus_at (hat'.kept hk (by simp)) hlt
        generalize OT[n] = x at *
        clear hat hat'
        go_wp2_with fail
        go_quiet (fail)
        go_wp2_with fail
        go_roundw
        case rel => exact ⟨n + 1, by omega, by go_num, hk.drewN _⟩
        case measure => simp [intOf]; omega
      · go_wp2
        go_ret
        exact ⟨rfl, k11.trans hk⟩
end Go.Proofs.Ytnmmdnecojgccaa
