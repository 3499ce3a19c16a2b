/- Return, Revoke, Settle, Shrink: the program's. -/
import Derived.Test.YtnmmdnecojgccaaAsk12
namespace Go.Proofs.Ytnmmdnecojgccaa
open Go.RowKit
set_option linter.unusedVariables false


set_option maxRecDepth 100000 in
set_option maxHeartbeats 4000000 in
theorem return_any (w : World) (L : Lk) (A : Option Addr) (c : Nat) (cl eq : Int) (hb : Els holE 2 w A L.hs) (hl : L.hs.length ≤ 9223372036854775807) (he : 0 ≤ L.epoch ∧ L.epoch ≤ 4294967295) :
    Calls Try.prog 19 #[lkV L (.slice A L.hs.length c), .int .u32 cl, .int .u32 eq] w fun e w' => PairS [] w w' e (returnL L cl eq) := by
  have hR := fun W (k : Only [] w W) => right_any W L A c (hb.kept k (by simp)) hl
  have hO := fun W (k : Only [] w W) (h : RightP L) => own_any W L A c (hb.kept k (by simp)) (by have := h.len; omega)
  obtain ⟨R, hRR⟩ : ∃ R, R = (returnL L cl eq) := ⟨_, rfl⟩
  rw [← hRR]
  have hW := fun W v (h : W.ownsRow 0 47 2 v L.hs.length (encs holE L.hs)) (r : RightP L) => without_any W L v cl h r.rise (by have := r.len; omega)
  have r1 : ¬ RightP L → R = (noL, 1) := fun h => by rw [hRR]; exact if_pos h
  have ry : RightP L → eq = L.epoch → R = (withL L (withoutH L.hs cl), 0) := fun h h2 => by rw [hRR]; unfold returnL; rw [if_neg (fun k => k h), if_pos h2]
  have rn : RightP L → eq ≠ L.epoch → R = (L, 0) := fun h h2 => by rw [hRR]; unfold returnL; rw [if_neg (fun k => k h), if_neg h2]
  clear hRR
  obtain ⟨f, ep, u, ct, fe, go, l⟩ := L
  have T := two_new w f ep u ct fe go l (.slice A l.length c)
  generalize hwb : ((w.alloc (.cells #[.int .u32 f, .int .u32 ep, .int .u32 u, .int .u32 ct, .bool fe, .bool go, .slice A l.length c] 25)).alloc (.cells #[.int .u32 0, .int .u32 0, .int .u32 0, .int .u32 0, .bool false, .bool false, .slice none 0 0] 25)) = wb at T
  replace hwb := Lib.hid hwb
  obtain ⟨k2, b2, z2, hsz⟩ := T
  simp only at hb hl he
  simp only [lkV] at hR hO ⊢
  replace hR := Lib.hid hR
  replace hO := Lib.hid hO
  replace hsz := Lib.hid hsz
  simp only at hW r1 ry rn
  replace hW := Lib.hid hW
  replace r1 := Lib.hid r1
  replace ry := Lib.hid ry
  replace rn := Lib.hid rn

  by_cases hr : RightP ⟨f, ep, u, ct, fe, go, l⟩
  rotate_left
  · obtain rfl := r1.out hr
    rw [decide_eq_false hr] at hR
    replace hr := Lib.hid hr
    clear hW ry rn
    go_enter Try.func19, Try.ntmps19
    go_wp2_with fail
    rw [hwb.out]
    refine (hR.out _ k2).mono ?_; rintro e w3 ⟨rfl, k3⟩
    have z3 := z2.kept k3 (by simp)
    go_wp2_with (refine wpList_store_lk noL noL (.slice none 0 0) _ rfl rfl _ _ rfl (w.heap.size + 1) rfl rfl z3 ?_; intro w5 b5 k5)
    refine bodyPost_ret (v := .tuple #[lkV noL (.slice none 0 0), .int .i64 1]) (results_lk1 rfl _ _ (w.heap.size + 1) rfl _ _ b5 _ rfl) rfl ?_
    exact ⟨_, rfl, Hs.start ((k2.trans k3).far k5 (by omega))⟩
  rw [decide_eq_true hr] at hR
  replace hr := Lib.hid hr

  go_enter Try.func19, Try.ntmps19
  go_wp2_with fail
  rw [hwb.out]
  refine (hR.out _ k2).mono ?_; rintro e w3 ⟨rfl, k3⟩
  obtain ⟨c0, c1, c2, c3, c4, c5, c6⟩ := b2.at k3 (by simp)
  go_wp2_with fail
  refine (hO.out _ (k2.trans k3) hr.out).mono ?_; rintro e w4 ⟨v4, rfl, hm4⟩
  have b4 := (b2.kept k3 (by simp)).kept hm4.only (by simp)
  have z4 := (z2.kept k3 (by simp)).kept hm4.only (by simp)
  obtain ⟨A4, d4, rfl, _⟩ := hm4.shape
  have hN4 : ∀ g, (Value.slice A4 l.length d4).ownBlock = some g → wb.heap.size ≤ g := fun g hg => by
    rcases hm4.new g hg with a | a
    · cases a
    · exact Nat.le_trans k3.size a
  have hs4 := Nat.le_trans k3.size hm4.only.size
  replace hs4 := Lib.hid hs4
  replace hm4 := Hs.from (k2.trans k3) hm4
  have ne0 : (Value.slice A4 l.length d4).ownBlock ≠ some w.heap.size := fun h => by have := hN4 _ h; have := hsz.out; omega
  have ne1 : (Value.slice A4 l.length d4).ownBlock ≠ some (w.heap.size + 1) := fun h => by have := hN4 _ h; have := hsz.out; omega
  replace hN4 := Lib.hid hN4
  replace ne0 := Lib.hid ne0
  replace ne1 := Lib.hid ne1
  clear b2 z2 c0 c1 c2 c3 c4 c5 c6

  by_cases heq : eq = ep
  rotate_left
  · obtain rfl := rn.out hr.out heq
    have d1 : (eq == ep) = false := by simpa using heq
    replace heq := Lib.hid heq
    clear hW ry
    go_wp2_with (first
      | (refine wpList_store_lk ⟨f, ep, u, ct, fe, go, l⟩ ⟨f, ep, u, ct, fe, go, l⟩ (.slice A4 l.length d4) _ rfl rfl _ _ rfl w.heap.size rfl rfl b4 ?_; intro w5 b5 k5; have z5 := Blk.kept z4 k5 (by simp); have hm5 := Lib.hid (hm4.far k5 (Nat.le_refl _) ne0.out); have hs5 := Lib.hid (Nat.le_trans hs4.out k5.size); clear b4 z4 k5 hm4 hs4; obtain ⟨c0, c1, c2, c3, c4, c5, c6⟩ := Lx.at b5 (Only.refl [] _) (by simp))
      | (refine wpList_store_lk ⟨f, ep, u, ct, fe, go, l⟩ noL (.slice A4 l.length d4) _ rfl rfl _ _ rfl (w.heap.size + 1) rfl rfl z5 ?_; intro w7 b7 k7))
    refine bodyPost_ret (v := .tuple #[lkV ⟨f, ep, u, ct, fe, go, l⟩ (.slice A4 l.length d4), .int .i64 0]) (results_lk1 rfl _ _ (w.heap.size + 1) rfl _ _ b7 _ rfl) rfl ?_
    exact ⟨_, rfl, hm5.out.far k7 (by omega) ne1.out⟩

  have hRy := Lib.hid (ry.out hr.out heq)
  have d1 : (eq == ep) = true := by simpa using heq
  replace heq := Lib.hid heq
  clear rn
  go_wp2_with (refine wpList_store_lk ⟨f, ep, u, ct, fe, go, l⟩ ⟨f, ep, u, ct, fe, go, l⟩ (.slice A4 l.length d4) _ rfl rfl _ _ rfl w.heap.size rfl rfl b4 ?_; intro w5 b5 k5; have z5 := Blk.kept z4 k5 (by simp); have hm5 := Lib.hid (hm4.far k5 (Nat.le_refl _) ne0.out); have hs5 := Lib.hid (Nat.le_trans hs4.out k5.size); clear b4 z4 k5 hm4 hs4; obtain ⟨c0, c1, c2, c3, c4, c5, c6⟩ := Lx.at b5 (Only.refl [] _) (by simp))
  have q0 : w.heap.size < wb.heap.size := by have := hsz.out; omega
  have q1 : w.heap.size + 1 < wb.heap.size := by have := hsz.out; omega
  refine (hW.out _ _ hm5.out.own hr.out).mono ?_; rintro e w9 ⟨v9, rfl, hm9⟩
  have hN9 := hm9.since2 hN4.out hs5.out
  have b9 := Lx.kept b5 hm9.only (not_own hN4.out q0)
  have z9 := Blk.kept z5 hm9.only (not_own hN4.out q1)
  have hm9w := hm9.since hm5.out.only (fun g hg => by have := hN4.out g hg; omega)
  clear hm9 c0 c1 c2 c3 c4 c5 c6 b5 z5
  simp only [withL] at hm9w
  generalize withoutH l cl = l2 at *
  obtain rfl := hRy.out
  obtain ⟨B, e10, rfl, _⟩ := hm9w.shape
  have ne10 : (Value.slice B l2.length e10).ownBlock ≠ some w.heap.size := fun h => by have := hN9 _ h; omega
  have ne11 : (Value.slice B l2.length e10).ownBlock ≠ some (w.heap.size + 1) := fun h => by have := hN9 _ h; omega
  replace ne11 := Lib.hid ne11
  replace ne10 := Lib.hid ne10
  replace hm9w := Lib.hid hm9w
  replace hN9 := Lib.hid hN9
  replace q0 := Lib.hid q0
  replace q1 := Lib.hid q1
  clear hW
  go_wp2_with (first
    | (refine wpList_store_lk ⟨f, ep, u, ct, fe, go, l2⟩ ⟨f, ep, u, ct, fe, go, l⟩ (.slice B l2.length e10) _ rfl rfl _ _ rfl w.heap.size rfl rfl b9 ?_; intro w11 b11 k11; have z11 := Blk.kept z9 k11 (by simp); have hm11 := Lib.hid (hm9w.out.far k11 (Nat.le_refl _) ne10.out); clear b9 z9 k11; obtain ⟨c0, c1, c2, c3, c4, c5, c6⟩ := Lx.at b11 (Only.refl [] _) (by simp))
    | (refine wpList_store_lk ⟨f, ep, u, ct, fe, go, l2⟩ noL (.slice B l2.length e10) _ rfl rfl _ _ rfl (w.heap.size + 1) rfl rfl z11 ?_; intro w7 b7 k7))
  refine bodyPost_ret (v := .tuple #[lkV ⟨f, ep, u, ct, fe, go, l2⟩ (.slice B l2.length e10), .int .i64 0]) (results_lk1 rfl _ _ (w.heap.size + 1) rfl _ _ b7 _ rfl) rfl ?_
  exact ⟨_, rfl, hm11.out.far k7 (by omega) ne11.out⟩

set_option maxRecDepth 100000 in
set_option maxHeartbeats 4000000 in
theorem revoke_any (w : World) (L : Lk) (A : Option Addr) (c : Nat) (hb : Els holE 2 w A L.hs) (hl : L.hs.length ≤ 9223372036854775807) (he : 0 ≤ L.epoch ∧ L.epoch ≤ 4294967295) :
    Calls Try.prog 20 #[lkV L (.slice A L.hs.length c)] w fun e w' => PairS [] w w' e (revokeL L) := by
  have hR := fun W (k : Only [] w W) => right_any W L A c (hb.kept k (by simp)) hl
  have hO := fun W (k : Only [] w W) (h : RightP L) => own_any W L A c (hb.kept k (by simp)) (by have := h.len; omega)
  obtain ⟨R, hRR⟩ : ∃ R, R = (revokeL L) := ⟨_, rfl⟩
  rw [← hRR]
  have hT := fun W B d => turned_any W L B d he
  have r1 : ¬ RightP L → R = (noL, 1) := fun h => by rw [hRR]; exact if_pos h
  have rt : RightP L → R = (turnL L, 0) := fun h => by rw [hRR]; unfold revokeL; rw [if_neg (fun k => k h)]
  clear hRR
  obtain ⟨f, ep, u, ct, fe, go, l⟩ := L
  have T := two_new w f ep u ct fe go l (.slice A l.length c)
  generalize hwb : ((w.alloc (.cells #[.int .u32 f, .int .u32 ep, .int .u32 u, .int .u32 ct, .bool fe, .bool go, .slice A l.length c] 25)).alloc (.cells #[.int .u32 0, .int .u32 0, .int .u32 0, .int .u32 0, .bool false, .bool false, .slice none 0 0] 25)) = wb at T
  replace hwb := Lib.hid hwb
  obtain ⟨k2, b2, z2, hsz⟩ := T
  simp only at hb hl he
  simp only [lkV] at hR hO ⊢
  simp only at hT r1 rt
  replace hR := Lib.hid hR
  replace hO := Lib.hid hO
  replace hsz := Lib.hid hsz
  replace r1 := Lib.hid r1
  replace rt := Lib.hid rt

  by_cases hr : RightP ⟨f, ep, u, ct, fe, go, l⟩
  rotate_left
  · obtain rfl := r1.out hr
    rw [decide_eq_false hr] at hR
    replace hr := Lib.hid hr
    clear hT rt
    go_enter Try.func20, Try.ntmps20
    go_wp2_with fail
    rw [hwb.out]
    refine (hR.out _ k2).mono ?_; rintro e w3 ⟨rfl, k3⟩
    have z3 := z2.kept k3 (by simp)
    go_wp2_with (refine wpList_store_lk noL noL (.slice none 0 0) _ rfl rfl _ _ rfl (w.heap.size + 1) rfl rfl z3 ?_; intro w5 b5 k5)
    refine bodyPost_ret (v := .tuple #[lkV noL (.slice none 0 0), .int .i64 1]) (results_lk1 rfl _ _ (w.heap.size + 1) rfl _ _ b5 _ rfl) rfl ?_
    exact ⟨_, rfl, Hs.start ((k2.trans k3).far k5 (by omega))⟩
  rw [decide_eq_true hr] at hR
  replace hr := Lib.hid hr

  have hRy := Lib.hid (rt.out hr.out)
  go_enter Try.func20, Try.ntmps20
  go_wp2_with fail
  rw [hwb.out]
  refine (hR.out _ k2).mono ?_; rintro e w3 ⟨rfl, k3⟩
  obtain ⟨c0, c1, c2, c3, c4, c5, c6⟩ := b2.at k3 (by simp)
  go_wp2_with fail
  refine (hO.out _ (k2.trans k3) hr.out).mono ?_; rintro e w4 ⟨v4, rfl, hm4⟩
  have b4 := (b2.kept k3 (by simp)).kept hm4.only (by simp)
  have z4 := (z2.kept k3 (by simp)).kept hm4.only (by simp)
  obtain ⟨A4, d4, rfl, _⟩ := hm4.shape
  have hN4 : ∀ g, (Value.slice A4 l.length d4).ownBlock = some g → wb.heap.size ≤ g := fun g hg => by
    rcases hm4.new g hg with a | a
    · cases a
    · exact Nat.le_trans k3.size a
  have hs4 := Nat.le_trans k3.size hm4.only.size
  replace hs4 := Lib.hid hs4
  replace hm4 := Hs.from (k2.trans k3) hm4
  have ne0 : (Value.slice A4 l.length d4).ownBlock ≠ some w.heap.size := fun h => by have := hN4 _ h; have := hsz.out; omega
  have ne1 : (Value.slice A4 l.length d4).ownBlock ≠ some (w.heap.size + 1) := fun h => by have := hN4 _ h; have := hsz.out; omega
  replace hN4 := Lib.hid hN4
  replace ne0 := Lib.hid ne0
  replace ne1 := Lib.hid ne1
  have hT4 := hT w4 A4 d4
  have hm5 := Hs.turn hm4
  have hTo := turnV_one (L := ⟨f, ep, u, ct, fe, go, l⟩) (v := .slice A4 l.length d4) rfl
  have hnt : (turnV ⟨f, ep, u, ct, fe, go, l⟩ (.slice A4 l.length d4)).ownBlock ≠ some (w.heap.size + 1) := by
    unfold turnV
    split
    · exact ne1.out
    · simp [Value.ownBlock]
  simp only [lkV_mk] at hT4
  generalize turnV ⟨f, ep, u, ct, fe, go, l⟩ (.slice A4 l.length d4) = TV at *
  replace hT4 := Lib.hid hT4
  replace hm5 := Lib.hid hm5
  replace hnt := Lib.hid hnt
  replace hm4 := Lib.hid hm4
  clear b4 hT
  clear b2 z2 c0 c1 c2 c3 c4 c5 c6
  generalize turnL ⟨f, ep, u, ct, fe, go, l⟩ = TL at *
  obtain rfl := hRy.out
  go_wp2_with fail
  refine hT4.out.mono ?_; rintro e w6 ⟨rfl, k6⟩
  have hm6 := Lib.hid (hm5.out.kept k6)
  have z6 := Blk.kept z4 k6 (by simp)
  clear z4 hm5
  go_wp2_with (refine wpList_store_lk TL noL TV _ hTo rfl _ _ rfl (w.heap.size + 1) rfl rfl z6 ?_; intro w7 b7 k7)
  refine bodyPost_ret (v := .tuple #[lkV TL TV, .int .i64 0]) (results_lk1 rfl _ _ (w.heap.size + 1) rfl _ _ b7 _ rfl) rfl ?_
  exact ⟨_, rfl, hm6.out.far k7 (by omega) hnt.out⟩

set_option maxRecDepth 100000 in
set_option maxHeartbeats 4000000 in
theorem settle_any (w : World) (L : Lk) (A : Option Addr) (c : Nat) (eq s : Int) (hb : Els holE 2 w A L.hs) (hl : L.hs.length ≤ 9223372036854775807) (he : 0 ≤ L.epoch ∧ L.epoch ≤ 4294967295) :
    Calls Try.prog 21 #[lkV L (.slice A L.hs.length c), .int .u32 eq, .int .u32 s] w fun e w' => PairS [] w w' e (settleL L eq s) := by
  have hR := fun W (k : Only [] w W) => right_any W L A c (hb.kept k (by simp)) hl
  have hO := fun W (k : Only [] w W) (h : RightP L) => own_any W L A c (hb.kept k (by simp)) (by have := h.len; omega)
  obtain ⟨R, hRR⟩ : ∃ R, R = (settleL L eq s) := ⟨_, rfl⟩
  rw [← hRR]
  have r1 : ¬ (RightP L ∧ s ≤ 1024) → R = (noL, 1) := fun h => by rw [hRR]; exact if_pos h
  have ry : RightP L ∧ s ≤ 1024 → L.fenced = false → eq = L.epoch → R = (⟨L.file, L.epoch, L.used, s, true, L.gone, L.hs⟩, 0) := fun h h2 h3 => by rw [hRR]; unfold settleL; rw [if_neg (fun k => k h), if_pos ⟨h2, h3⟩]
  have rn : RightP L ∧ s ≤ 1024 → ¬ (L.fenced = false ∧ eq = L.epoch) → R = (L, 0) := fun h h2 => by rw [hRR]; unfold settleL; rw [if_neg (fun k => k h), if_neg h2]
  clear hRR
  obtain ⟨f, ep, u, ct, fe, go, l⟩ := L
  have T := two_new w f ep u ct fe go l (.slice A l.length c)
  generalize hwb : ((w.alloc (.cells #[.int .u32 f, .int .u32 ep, .int .u32 u, .int .u32 ct, .bool fe, .bool go, .slice A l.length c] 25)).alloc (.cells #[.int .u32 0, .int .u32 0, .int .u32 0, .int .u32 0, .bool false, .bool false, .slice none 0 0] 25)) = wb at T
  replace hwb := Lib.hid hwb
  obtain ⟨k2, b2, z2, hsz⟩ := T
  simp only at hb hl he
  simp only [lkV] at hR hO ⊢
  replace hR := Lib.hid hR
  replace hO := Lib.hid hO
  replace hsz := Lib.hid hsz
  simp only at r1 ry rn
  replace r1 := Lib.hid r1
  replace ry := Lib.hid ry
  replace rn := Lib.hid rn

  by_cases hr : RightP ⟨f, ep, u, ct, fe, go, l⟩
  rotate_left
  · obtain rfl := r1.out (fun h => hr h.1)
    rw [decide_eq_false hr] at hR
    replace hr := Lib.hid hr
    clear ry rn
    go_enter Try.func21, Try.ntmps21
    go_wp2_with fail
    rw [hwb.out]
    refine (hR.out _ k2).mono ?_; rintro e w3 ⟨rfl, k3⟩
    have z3 := z2.kept k3 (by simp)
    go_wp2_with (refine wpList_store_lk noL noL (.slice none 0 0) _ rfl rfl _ _ rfl (w.heap.size + 1) rfl rfl z3 ?_; intro w5 b5 k5)
    refine bodyPost_ret (v := .tuple #[lkV noL (.slice none 0 0), .int .i64 1]) (results_lk1 rfl _ _ (w.heap.size + 1) rfl _ _ b5 _ rfl) rfl ?_
    exact ⟨_, rfl, Hs.start ((k2.trans k3).far k5 (by omega))⟩
  rw [decide_eq_true hr] at hR
  replace hr := Lib.hid hr

  by_cases hs : 1024 < s
  · obtain rfl := r1.out (fun h => by have := h.2; omega)
    have d1 : decide (1024 < s) = true := decide_eq_true hs
    clear ry rn
    go_enter Try.func21, Try.ntmps21
    go_wp2_with fail
    rw [hwb.out]
    refine (hR.out _ k2).mono ?_; rintro e w3 ⟨rfl, k3⟩
    have z3 := z2.kept k3 (by simp)
    go_wp2_with (refine wpList_store_lk noL noL (.slice none 0 0) _ rfl rfl _ _ rfl (w.heap.size + 1) rfl rfl z3 ?_; intro w5 b5 k5)
    refine bodyPost_ret (v := .tuple #[lkV noL (.slice none 0 0), .int .i64 1]) (results_lk1 rfl _ _ (w.heap.size + 1) rfl _ _ b5 _ rfl) rfl ?_
    exact ⟨_, rfl, Hs.start ((k2.trans k3).far k5 (by omega))⟩
  have d1 : decide (1024 < s) = false := decide_eq_false hs
  have hrs := Lib.hid (And.intro hr.out (show s ≤ 1024 by omega))
  replace hs := Lib.hid hs
  go_enter Try.func21, Try.ntmps21
  go_wp2_with fail
  rw [hwb.out]
  refine (hR.out _ k2).mono ?_; rintro e w3 ⟨rfl, k3⟩
  obtain ⟨c0, c1, c2, c3, c4, c5, c6⟩ := b2.at k3 (by simp)
  go_wp2_with fail
  refine (hO.out _ (k2.trans k3) hr.out).mono ?_; rintro e w4 ⟨v4, rfl, hm4⟩
  have b4 := (b2.kept k3 (by simp)).kept hm4.only (by simp)
  have z4 := (z2.kept k3 (by simp)).kept hm4.only (by simp)
  obtain ⟨A4, d4, rfl, _⟩ := hm4.shape
  have hN4 : ∀ g, (Value.slice A4 l.length d4).ownBlock = some g → wb.heap.size ≤ g := fun g hg => by
    rcases hm4.new g hg with a | a
    · cases a
    · exact Nat.le_trans k3.size a
  have hs4 := Nat.le_trans k3.size hm4.only.size
  replace hs4 := Lib.hid hs4
  replace hm4 := Hs.from (k2.trans k3) hm4
  have ne0 : (Value.slice A4 l.length d4).ownBlock ≠ some w.heap.size := fun h => by have := hN4 _ h; have := hsz.out; omega
  have ne1 : (Value.slice A4 l.length d4).ownBlock ≠ some (w.heap.size + 1) := fun h => by have := hN4 _ h; have := hsz.out; omega
  replace hN4 := Lib.hid hN4
  replace ne0 := Lib.hid ne0
  replace ne1 := Lib.hid ne1
  clear b2 z2 c0 c1 c2 c3 c4 c5 c6

  cases hfe : fe with
  | true =>
    obtain rfl := rn.out hrs.out (by simp [hfe])
    subst hfe
    clear ry
    go_wp2_with (first
      | (refine wpList_store_lk ⟨f, ep, u, ct, true, go, l⟩ ⟨f, ep, u, ct, true, go, l⟩ (.slice A4 l.length d4) _ rfl rfl _ _ rfl w.heap.size rfl rfl b4 ?_; intro w5 b5 k5; have z5 := Blk.kept z4 k5 (by simp); have hm5 := Lib.hid (hm4.far k5 (Nat.le_refl _) ne0.out); have hs5 := Lib.hid (Nat.le_trans hs4.out k5.size); clear b4 z4 k5 hm4 hs4; obtain ⟨c0, c1, c2, c3, c4, c5, c6⟩ := Lx.at b5 (Only.refl [] _) (by simp))
      | (refine wpList_store_lk ⟨f, ep, u, ct, true, go, l⟩ noL (.slice A4 l.length d4) _ rfl rfl _ _ rfl (w.heap.size + 1) rfl rfl z5 ?_; intro w7 b7 k7))
    refine bodyPost_ret (v := .tuple #[lkV ⟨f, ep, u, ct, true, go, l⟩ (.slice A4 l.length d4), .int .i64 0]) (results_lk1 rfl _ _ (w.heap.size + 1) rfl _ _ b7 _ rfl) rfl ?_
    exact ⟨_, rfl, hm5.out.far k7 (by omega) ne1.out⟩
  | false =>
  by_cases heq : eq = ep
  rotate_left
  · obtain rfl := rn.out hrs.out (fun h => heq h.2)
    have d2 : (eq == ep) = false := by simpa using heq
    subst hfe
    replace heq := Lib.hid heq
    clear ry
    go_wp2_with (first
      | (refine wpList_store_lk ⟨f, ep, u, ct, false, go, l⟩ ⟨f, ep, u, ct, false, go, l⟩ (.slice A4 l.length d4) _ rfl rfl _ _ rfl w.heap.size rfl rfl b4 ?_; intro w5 b5 k5; have z5 := Blk.kept z4 k5 (by simp); have hm5 := Lib.hid (hm4.far k5 (Nat.le_refl _) ne0.out); have hs5 := Lib.hid (Nat.le_trans hs4.out k5.size); clear b4 z4 k5 hm4 hs4; obtain ⟨c0, c1, c2, c3, c4, c5, c6⟩ := Lx.at b5 (Only.refl [] _) (by simp))
      | (refine wpList_store_lk ⟨f, ep, u, ct, false, go, l⟩ noL (.slice A4 l.length d4) _ rfl rfl _ _ rfl (w.heap.size + 1) rfl rfl z5 ?_; intro w7 b7 k7))
    refine bodyPost_ret (v := .tuple #[lkV ⟨f, ep, u, ct, false, go, l⟩ (.slice A4 l.length d4), .int .i64 0]) (results_lk1 rfl _ _ (w.heap.size + 1) rfl _ _ b7 _ rfl) rfl ?_
    exact ⟨_, rfl, hm5.out.far k7 (by omega) ne1.out⟩
  obtain rfl := ry.out hrs.out hfe heq
  have d2 : (eq == ep) = true := by simpa using heq
  subst hfe
  replace heq := Lib.hid heq
  clear rn
  go_wp2_with (first
    | (refine wpList_store_lk ⟨f, ep, u, ct, false, go, l⟩ ⟨f, ep, u, ct, false, go, l⟩ (.slice A4 l.length d4) _ rfl rfl _ _ rfl w.heap.size rfl rfl b4 ?_; intro w5 b5 k5; have z5 := Blk.kept z4 k5 (by simp); have hm5 := Lib.hid (hm4.far k5 (Nat.le_refl _) ne0.out); have hs5 := Lib.hid (Nat.le_trans hs4.out k5.size); clear b4 z4 k5 hm4 hs4; obtain ⟨c0, c1, c2, c3, c4, c5, c6⟩ := Lx.at b5 (Only.refl [] _) (by simp); have f3 := Blk.free b5 3; have f4 := Blk.free b5 4; have z6 := Blk.far (p := ⟨w.heap.size, 4, none⟩) (u := .bool true) z5 (by simp); have z7 := Blk.far (p := ⟨w.heap.size, 3, none⟩) (u := .int .u32 s) z6 (by simp))
    | (refine wpList_store_lk ⟨f, ep, u, s, true, go, l⟩ noL (.slice A4 l.length d4) _ rfl rfl _ _ rfl (w.heap.size + 1) rfl rfl z7 ?_; intro w7 b7 k7))
  refine bodyPost_ret (v := .tuple #[lkV ⟨f, ep, u, s, true, go, l⟩ (.slice A4 l.length d4), .int .i64 0]) (results_lk1 rfl _ _ (w.heap.size + 1) rfl _ _ b7 _ rfl) rfl ?_
  have kk : Only [w.heap.size] w5 ((w5.setCell ⟨w.heap.size, 4, none⟩ (.bool true)).setCell ⟨w.heap.size, 3, none⟩ (.int .u32 s)) := ((Only.refl _ _).setCell (.inl (by simp)) _).setCell (.inl (by simp)) _
  exact ⟨_, rfl, (hm5.out.far kk (Nat.le_refl _) ne0.out).far k7 (by omega) ne1.out⟩

set_option maxRecDepth 100000 in
set_option maxHeartbeats 4000000 in
theorem shrink_any (w : World) (L : Lk) (A : Option Addr) (c : Nat) (s : Int) (hb : Els holE 2 w A L.hs) (hl : L.hs.length ≤ 9223372036854775807) (he : 0 ≤ L.epoch ∧ L.epoch ≤ 4294967295) :
    Calls Try.prog 22 #[lkV L (.slice A L.hs.length c), .int .u32 s] w fun e w' => PairS [] w w' e (shrinkL L s) := by
  have hR := fun W (k : Only [] w W) => right_any W L A c (hb.kept k (by simp)) hl
  have hO := fun W (k : Only [] w W) (h : RightP L) => own_any W L A c (hb.kept k (by simp)) (by have := h.len; omega)
  obtain ⟨R, hRR⟩ : ∃ R, R = (shrinkL L s) := ⟨_, rfl⟩
  rw [← hRR]
  have r1 : ¬ RightP L → R = (noL, 1) := fun h => by rw [hRR]; exact if_pos h
  have ry : RightP L → R = (⟨L.file, L.epoch, L.used, minI L.cut s, L.fenced, L.gone, L.hs⟩, 0) := fun h => by rw [hRR]; unfold shrinkL; rw [if_neg (fun k => k h)]
  clear hRR
  obtain ⟨f, ep, u, ct, fe, go, l⟩ := L
  have T := two_new w f ep u ct fe go l (.slice A l.length c)
  generalize hwb : ((w.alloc (.cells #[.int .u32 f, .int .u32 ep, .int .u32 u, .int .u32 ct, .bool fe, .bool go, .slice A l.length c] 25)).alloc (.cells #[.int .u32 0, .int .u32 0, .int .u32 0, .int .u32 0, .bool false, .bool false, .slice none 0 0] 25)) = wb at T
  replace hwb := Lib.hid hwb
  obtain ⟨k2, b2, z2, hsz⟩ := T
  simp only at hb hl he
  simp only [lkV] at hR hO ⊢
  replace hR := Lib.hid hR
  replace hO := Lib.hid hO
  replace hsz := Lib.hid hsz
  simp only at r1 ry
  replace r1 := Lib.hid r1
  replace ry := Lib.hid ry

  by_cases hr : RightP ⟨f, ep, u, ct, fe, go, l⟩
  rotate_left
  · obtain rfl := r1.out hr
    rw [decide_eq_false hr] at hR
    replace hr := Lib.hid hr
    clear ry
    go_enter Try.func22, Try.ntmps22
    go_wp2_with fail
    rw [hwb.out]
    refine (hR.out _ k2).mono ?_; rintro e w3 ⟨rfl, k3⟩
    have z3 := z2.kept k3 (by simp)
    go_wp2_with (refine wpList_store_lk noL noL (.slice none 0 0) _ rfl rfl _ _ rfl (w.heap.size + 1) rfl rfl z3 ?_; intro w5 b5 k5)
    refine bodyPost_ret (v := .tuple #[lkV noL (.slice none 0 0), .int .i64 1]) (results_lk1 rfl _ _ (w.heap.size + 1) rfl _ _ b5 _ rfl) rfl ?_
    exact ⟨_, rfl, Hs.start ((k2.trans k3).far k5 (by omega))⟩
  rw [decide_eq_true hr] at hR
  replace hr := Lib.hid hr

  have hRy := ry.out hr.out
  obtain ⟨mx, hmx⟩ : ∃ mx, mx = minI ct s := ⟨_, rfl⟩
  rw [← hmx] at hRy
  obtain rfl := hRy
  have hmx2 : (if s < ct then s else ct) = mx := by rw [hmx]; rfl
  replace hmx := Lib.hid hmx
  replace hmx2 := Lib.hid hmx2
  go_enter Try.func22, Try.ntmps22
  go_wp2_with fail
  rw [hwb.out]
  refine (hR.out _ k2).mono ?_; rintro e w3 ⟨rfl, k3⟩
  obtain ⟨c0, c1, c2, c3, c4, c5, c6⟩ := b2.at k3 (by simp)
  go_wp2_with fail
  refine (hO.out _ (k2.trans k3) hr.out).mono ?_; rintro e w4 ⟨v4, rfl, hm4⟩
  have b4 := (b2.kept k3 (by simp)).kept hm4.only (by simp)
  have z4 := (z2.kept k3 (by simp)).kept hm4.only (by simp)
  obtain ⟨A4, d4, rfl, _⟩ := hm4.shape
  have hN4 : ∀ g, (Value.slice A4 l.length d4).ownBlock = some g → wb.heap.size ≤ g := fun g hg => by
    rcases hm4.new g hg with a | a
    · cases a
    · exact Nat.le_trans k3.size a
  have hs4 := Nat.le_trans k3.size hm4.only.size
  replace hs4 := Lib.hid hs4
  replace hm4 := Hs.from (k2.trans k3) hm4
  have ne0 : (Value.slice A4 l.length d4).ownBlock ≠ some w.heap.size := fun h => by have := hN4 _ h; have := hsz.out; omega
  have ne1 : (Value.slice A4 l.length d4).ownBlock ≠ some (w.heap.size + 1) := fun h => by have := hN4 _ h; have := hsz.out; omega
  replace hN4 := Lib.hid hN4
  replace ne0 := Lib.hid ne0
  replace ne1 := Lib.hid ne1
  clear b2 z2 c0 c1 c2 c3 c4 c5 c6
  replace hmx2 := hmx2.out
  by_cases hum : s < ct
  · rw [if_pos hum] at hmx2
    subst hmx2
    go_wp2_with (first
      | (refine wpList_store_lk ⟨f, ep, u, ct, fe, go, l⟩ ⟨f, ep, u, ct, fe, go, l⟩ (.slice A4 l.length d4) _ rfl rfl _ _ rfl w.heap.size rfl rfl b4 ?_; intro w5 b5 k5; have z5 := Blk.kept z4 k5 (by simp); have hm5 := Lib.hid (hm4.far k5 (Nat.le_refl _) ne0.out); have hs5 := Lib.hid (Nat.le_trans hs4.out k5.size); clear b4 z4 k5 hm4 hs4; obtain ⟨c0, c1, c2, c3, c4, c5, c6⟩ := Lx.at b5 (Only.refl [] _) (by simp); have f3 := Blk.free b5 3; have z6 := Blk.far (p := ⟨w.heap.size, 3, none⟩) (u := .int .u32 s) z5 (by simp))
      | (refine wpList_store_lk ⟨f, ep, u, s, fe, go, l⟩ noL (.slice A4 l.length d4) _ rfl rfl _ _ rfl (w.heap.size + 1) rfl rfl z6 ?_; intro w7 b7 k7))
    refine bodyPost_ret (v := .tuple #[lkV ⟨f, ep, u, s, fe, go, l⟩ (.slice A4 l.length d4), .int .i64 0]) (results_lk1 rfl _ _ (w.heap.size + 1) rfl _ _ b7 _ rfl) rfl ?_
    have kk : Only [w.heap.size] w5 (w5.setCell ⟨w.heap.size, 3, none⟩ (.int .u32 s)) := (Only.refl _ _).setCell (.inl (by simp)) _
    exact ⟨_, rfl, (hm5.out.far kk (Nat.le_refl _) ne0.out).far k7 (by omega) ne1.out⟩
  · rw [if_neg hum] at hmx2
    subst hmx2
    go_wp2_with (first
      | (refine wpList_store_lk ⟨f, ep, u, ct, fe, go, l⟩ ⟨f, ep, u, ct, fe, go, l⟩ (.slice A4 l.length d4) _ rfl rfl _ _ rfl w.heap.size rfl rfl b4 ?_; intro w5 b5 k5; have z5 := Blk.kept z4 k5 (by simp); have hm5 := Lib.hid (hm4.far k5 (Nat.le_refl _) ne0.out); have hs5 := Lib.hid (Nat.le_trans hs4.out k5.size); clear b4 z4 k5 hm4 hs4; obtain ⟨c0, c1, c2, c3, c4, c5, c6⟩ := Lx.at b5 (Only.refl [] _) (by simp); have f3 := Blk.free b5 3; have z6 := Blk.far (p := ⟨w.heap.size, 3, none⟩) (u := .int .u32 ct) z5 (by simp))
      | (refine wpList_store_lk ⟨f, ep, u, ct, fe, go, l⟩ noL (.slice A4 l.length d4) _ rfl rfl _ _ rfl (w.heap.size + 1) rfl rfl z6 ?_; intro w7 b7 k7))
    refine bodyPost_ret (v := .tuple #[lkV ⟨f, ep, u, ct, fe, go, l⟩ (.slice A4 l.length d4), .int .i64 0]) (results_lk1 rfl _ _ (w.heap.size + 1) rfl _ _ b7 _ rfl) rfl ?_
    have kk : Only [w.heap.size] w5 (w5.setCell ⟨w.heap.size, 3, none⟩ (.int .u32 ct)) := (Only.refl _ _).setCell (.inl (by simp)) _
    exact ⟨_, rfl, (hm5.out.far kk (Nat.le_refl _) ne0.out).far k7 (by omega) ne1.out⟩
end Go.Proofs.Ytnmmdnecojgccaa
