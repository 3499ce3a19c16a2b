/- The law: what was told as rows is read as it was. -/
import Derived.Test.YtalkhhjfplahkaaGreatKAv14
import Derived.Test.YtalkhhjfplahkaaGreatKSm14
import Derived.Test.YtalkhhjfplahkaaGreatKOs14
namespace Go.Proofs.YtalkhhjfplahkaaGreat
open Go.RowKit
set_option linter.unusedVariables false

theorem says_false {P : Prop} {e : Ending} (h : Says P e) (hp : ¬ P) : e = .returned (.bool false) := by
  rcases says_bool h with ⟨hn, _⟩ | ⟨_, h⟩
  · exact absurd hn hp
  · exact h
set_option maxRecDepth 100000 in
set_option maxHeartbeats 16000000 in
theorem ledgerBack_walk (w : World) (a b : Sta) (p q : Sp) (h : RawM w a p) (h2 : RawM w b q) : Calls Tryz.prog 3 #[staV a p, staV b q] w fun e w' => e = .returned (.bool true) ∧ Only [] w w' := by
  have k0 : Only [] w ((w.alloc (.cells #[.int .u32 a.boot, .int .u32 a.next, .slice p.tA a.tree.length p.tc, .slice p.oA a.opens.length p.oc, .slice p.lA a.locks.length p.lc, .slice p.wA a.works.length p.wc, .slice p.sA a.seats.length p.sc] 29)).alloc (.cells #[.int .u32 b.boot, .int .u32 b.next, .slice q.tA b.tree.length q.tc, .slice q.oA b.opens.length q.oc, .slice q.lA b.locks.length q.lc, .slice q.wA b.works.length q.wc, .slice q.sA b.seats.length q.sc] 29)) := ((Only.refl [] w).alloc _).alloc _
  have bx := Sx.new w a p
  have by2 : Sx ((w.alloc (.cells #[.int .u32 a.boot, .int .u32 a.next, .slice p.tA a.tree.length p.tc, .slice p.oA a.opens.length p.oc, .slice p.lA a.locks.length p.lc, .slice p.wA a.works.length p.wc, .slice p.sA a.seats.length p.sc] 29)).alloc (.cells #[.int .u32 b.boot, .int .u32 b.next, .slice q.tA b.tree.length q.tc, .slice q.oA b.opens.length q.oc, .slice q.lA b.locks.length q.lc, .slice q.wA b.works.length q.wc, .slice q.sA b.seats.length q.sc] 29)) (w.heap.size + 1) b q := by
    have := Sx.new (w.alloc (.cells #[.int .u32 a.boot, .int .u32 a.next, .slice p.tA a.tree.length p.tc, .slice p.oA a.opens.length p.oc, .slice p.lA a.locks.length p.lc, .slice p.wA a.works.length p.wc, .slice p.sA a.seats.length p.sc] 29)) b q
    rwa [show (w.alloc (.cells #[.int .u32 a.boot, .int .u32 a.next, .slice p.tA a.tree.length p.tc, .slice p.oA a.opens.length p.oc, .slice p.lA a.locks.length p.lc, .slice p.wA a.works.length p.wc, .slice p.sA a.seats.length p.sc] 29)).heap.size = w.heap.size + 1 by simp] at this
  have bxk := fun W (kW : Only [] ((w.alloc (.cells #[.int .u32 a.boot, .int .u32 a.next, .slice p.tA a.tree.length p.tc, .slice p.oA a.opens.length p.oc, .slice p.lA a.locks.length p.lc, .slice p.wA a.works.length p.wc, .slice p.sA a.seats.length p.sc] 29)).alloc (.cells #[.int .u32 b.boot, .int .u32 b.next, .slice q.tA b.tree.length q.tc, .slice q.oA b.opens.length q.oc, .slice q.lA b.locks.length q.lc, .slice q.wA b.works.length q.wc, .slice q.sA b.seats.length q.sc] 29)) W) => Blk.kept bx (((Only.refl [] _).alloc _).trans kW) (by simp)
  have byk := fun W (kW : Only [] ((w.alloc (.cells #[.int .u32 a.boot, .int .u32 a.next, .slice p.tA a.tree.length p.tc, .slice p.oA a.opens.length p.oc, .slice p.lA a.locks.length p.lc, .slice p.wA a.works.length p.wc, .slice p.sA a.seats.length p.sc] 29)).alloc (.cells #[.int .u32 b.boot, .int .u32 b.next, .slice q.tA b.tree.length q.tc, .slice q.oA b.opens.length q.oc, .slice q.lA b.locks.length q.lc, .slice q.wA b.works.length q.wc, .slice q.sA b.seats.length q.sc] 29)) W) => Blk.kept by2 kW (by simp)
  have KA := fun W (kW : Only [] ((w.alloc (.cells #[.int .u32 a.boot, .int .u32 a.next, .slice p.tA a.tree.length p.tc, .slice p.oA a.opens.length p.oc, .slice p.lA a.locks.length p.lc, .slice p.wA a.works.length p.wc, .slice p.sA a.seats.length p.sc] 29)).alloc (.cells #[.int .u32 b.boot, .int .u32 b.next, .slice q.tA b.tree.length q.tc, .slice q.oA b.opens.length q.oc, .slice q.lA b.locks.length q.lc, .slice q.wA b.works.length q.wc, .slice q.sA b.seats.length q.sc] 29)) W) => sta_cells (bxk W kW)
  have KB := fun W (kW : Only [] ((w.alloc (.cells #[.int .u32 a.boot, .int .u32 a.next, .slice p.tA a.tree.length p.tc, .slice p.oA a.opens.length p.oc, .slice p.lA a.locks.length p.lc, .slice p.wA a.works.length p.wc, .slice p.sA a.seats.length p.sc] 29)).alloc (.cells #[.int .u32 b.boot, .int .u32 b.next, .slice q.tA b.tree.length q.tc, .slice q.oA b.opens.length q.oc, .slice q.lA b.locks.length q.lc, .slice q.wA b.works.length q.wc, .slice q.sA b.seats.length q.sc] 29)) W) => sta_cells (byk W kW)
  replace bxk := Lib.hid bxk
  replace byk := Lib.hid byk
  replace KA := Lib.hid KA
  replace KB := Lib.hid KB
  have hal := fun W => alive_any W
  have hg1 := fun W (kW : Only [] ((w.alloc (.cells #[.int .u32 a.boot, .int .u32 a.next, .slice p.tA a.tree.length p.tc, .slice p.oA a.opens.length p.oc, .slice p.lA a.locks.length p.lc, .slice p.wA a.works.length p.wc, .slice p.sA a.seats.length p.sc] 29)).alloc (.cells #[.int .u32 b.boot, .int .u32 b.next, .slice q.tA b.tree.length q.tc, .slice q.oA b.opens.length q.oc, .slice q.lA b.locks.length q.lc, .slice q.wA b.works.length q.wc, .slice q.sA b.seats.length q.sc] 29)) W) => great_any W a p (h.kept (k0.trans kW))
  have hg2 := fun W (kW : Only [] ((w.alloc (.cells #[.int .u32 a.boot, .int .u32 a.next, .slice p.tA a.tree.length p.tc, .slice p.oA a.opens.length p.oc, .slice p.lA a.locks.length p.lc, .slice p.wA a.works.length p.wc, .slice p.sA a.seats.length p.sc] 29)).alloc (.cells #[.int .u32 b.boot, .int .u32 b.next, .slice q.tA b.tree.length q.tc, .slice q.oA b.opens.length q.oc, .slice q.lA b.locks.length q.lc, .slice q.wA b.works.length q.wc, .slice q.sA b.seats.length q.sc] 29)) W) => great_any W b q (h2.kept (k0.trans kW))
  unfold GrtAns at hg1 hg2
  replace hal := Lib.hid hal
  replace hg1 := Lib.hid hg1
  replace hg2 := Lib.hid hg2
  have hend : ∀ w', Only [] ((w.alloc (.cells #[.int .u32 a.boot, .int .u32 a.next, .slice p.tA a.tree.length p.tc, .slice p.oA a.opens.length p.oc, .slice p.lA a.locks.length p.lc, .slice p.wA a.works.length p.wc, .slice p.sA a.seats.length p.sc] 29)).alloc (.cells #[.int .u32 b.boot, .int .u32 b.next, .slice q.tA b.tree.length q.tc, .slice q.oA b.opens.length q.oc, .slice q.lA b.locks.length q.lc, .slice q.wA b.works.length q.wc, .slice q.sA b.seats.length q.sc] 29)) w' → Only [] w w' := fun w' k => k0.trans k
  replace hend := Lib.hid hend
  have hrw1 := fun W (hm : StM W a p) => rows_state W a p hm
  have hrw2 := fun W (hm : StM W b q) => rows_state W b q hm
  unfold RowsAns at hrw1 hrw2
  replace hrw1 := Lib.hid hrw1
  replace hrw2 := Lib.hid hrw2
  unfold staV
  clear bx by2 h h2 k0
  go_enter Tryz.func3, Tryz.ntmps3
  go_wp2_with fail
  refine (hal.out _).mono ?_; rintro e w1 ⟨rfl, k1⟩
  obtain ⟨c0, c1, c2, c3, c4, c5, c6⟩ := KA.out _ k1
  go_wp2_with fail
  refine (hg1.out _ k1).mono ?_; rintro e w2 ⟨hs, k12⟩; have k2 := k1.trans k12
  clear c0 c1 c2 c3 c4 c5 c6
  rcases hs with rfl | ⟨rfl, hA⟩
  · go_wp2_with fail
    refine (hal.out _).mono ?_; rintro e w3 ⟨rfl, k3⟩; replace k3 := k2.trans k3
    go_wp2
    go_ret
    exact ⟨rfl, hend.out _ k3⟩
  obtain ⟨c0, c1, c2, c3, c4, c5, c6⟩ := KB.out _ k2
  go_wp2_with fail
  refine (hg2.out _ k2).mono ?_; rintro e w3 ⟨hs, k23⟩
  replace hA := hA.kept (k12.trans k23)
  have k3 := k2.trans k23
  clear c0 c1 c2 c3 c4 c5 c6 k12
  rcases hs with rfl | ⟨rfl, hB⟩
  · go_wp2_with fail
    refine (hal.out _).mono ?_; rintro e w4 ⟨rfl, k4⟩; replace k4 := k3.trans k4
    go_wp2
    go_ret
    exact ⟨rfl, hend.out _ k4⟩
  replace hA := Lib.hid hA
  replace hB := hB.kept k23
  replace hB := Lib.hid hB
  clear k1 k2 k23 hg1 hg2
  obtain ⟨c0, c1, c2, c3, c4, c5, c6⟩ := KA.out _ k3
  go_wp2_with fail
  refine (hrw1.out _ hA.out).mono ?_; rintro e w4 hs
  clear c0 c1 c2 c3 c4 c5 c6
  rcases hs with ⟨ra, v, rfl, m4⟩ | ⟨_, rfl, k34⟩
  rotate_left
  · have k4 := k3.trans k34
    obtain ⟨c0, c1, c2, c3, c4, c5, c6⟩ := KB.out _ k4
    go_wp2_with fail
    refine (hrw2.out _ (hB.out.kept k34)).mono ?_; rintro e w5 hs
    clear c0 c1 c2 c3 c4 c5 c6
    have hk5 : (∃ v n, e = .returned (.tuple #[v, .int .i64 n])) ∧ Only [] w4 w5 := by
      rcases hs with ⟨_, v, rfl, m⟩ | ⟨_, rfl, k⟩
      · exact ⟨⟨_, _, rfl⟩, m.only⟩
      · exact ⟨⟨_, _, rfl⟩, k⟩
    clear hs
    obtain ⟨⟨v, n, rfl⟩, k5⟩ := hk5
    replace k5 := k4.trans k5
    go_wp2_with fail
    refine (hal.out _).mono ?_; rintro e w6 ⟨rfl, k6⟩; replace k6 := k5.trans k6
    go_wp2
    go_ret
    exact ⟨rfl, hend.out _ k6⟩
  have k34 := m4.only
  have k4 := k3.trans k34
  obtain ⟨A, c, rfl, hc, e4, _, _⟩ := m4.els chE_length
  have hl160 : Hid ((rowsL a).length ≤ 160) := rows_few ra
  have hl1 : ((rowsL a).length : Int) ≤ 160 := by have := hl160.out; omega
  clear m4
  replace e4 := Lib.hid e4
  replace hc := Lib.hid hc
  obtain ⟨c0, c1, c2, c3, c4, c5, c6⟩ := KB.out _ k4
  go_wp2_with fail
  refine (hrw2.out _ (hB.out.kept k34)).mono ?_; rintro e w5 hs
  clear c0 c1 c2 c3 c4 c5 c6
  have hk5 : Only [] w4 w5 ∧ ((RightS b ∧ ∃ A2 c2, e = .returned (.tuple #[.slice A2 (rowsL b).length c2, .int .i64 0]) ∧ Els chE 3 w5 A2 (rowsL b)) ∨ e = .returned (.tuple #[.slice none 0 0, .int .i64 1])) := by
    rcases hs with ⟨rb, v, rfl, m⟩ | ⟨_, rfl, k⟩
    · obtain ⟨A2, c2, rfl, _, e5, _, _⟩ := m.els chE_length
      exact ⟨m.only, .inl ⟨rb, A2, c2, rfl, e5⟩⟩
    · exact ⟨k, .inr rfl⟩
  clear hs
  obtain ⟨k45, hs⟩ := hk5
  have k5 := k4.trans k45
  have e5 := Lib.hid (e4.out.kept k45 (by simp))
  have hA5 := Lib.hid (hA.out.kept (k34.trans k45))
  have hB5 := Lib.hid (hB.out.kept (k34.trans k45))
  clear e4 hA hB k34 k45 k3 k4
  have hrd := lread_back w5 A c a hA5.out.fit ra e5.out hc.out
  replace hrd := Lib.hid hrd
  have hsm := fun W r (h : StM W a r) (kW : Only [] w5 W) => same_state W a a r p h (hA5.out.kept kW)
  have hsn := fun W (kW : Only [] w5 W) => same_state W a b p q (hA5.out.kept kW) (hB5.out.kept kW)
  replace hsm := Lib.hid hsm
  replace hsn := Lib.hid hsn
  rcases hs with ⟨rb, A2, d2, rfl, e52⟩ | rfl
  · clear hrw1 hrw2
    have hls := fun W (kW : Only [] w5 W) => lsame_any W A A2 c d2 (rowsL a) (rowsL b) (e5.out.kept kW (by simp)) (e52.kept kW (by simp)) (by have := hl160.out; omega) (by have := rows_few rb; omega)
    have hij : Hid (rowsL a = rowsL b ↔ a = b) := ⟨fun h => rows_inj hA5.out.fit ra hB5.out.fit rb h, fun h => by rw [h]⟩
    replace hls := Lib.hid hls
    replace e52 := Lib.hid e52
    generalize (rowsL a).length = nl at *
    go_wp2_with fail
    refine hrd.out.mono ?_; rintro e w6 ⟨r6, rfl, hq6, k56⟩
    have k6 := k5.trans k56
    have bz := Blk.new w6 29 zSA
    have ka : Only [] w6 (w6.alloc (.cells zSA 29)) := (Only.refl [] w6).alloc _
    unfold zSA at ka
    replace ka := Lib.hid ka
    replace hq6 := Lib.hid hq6
    clear hrd
    go_wp2_with (refine wpList_store_sta (staA a r6) zSA rfl _ _ rfl w6.heap.size rfl rfl bz rfl rfl (by simp [Value.oneCell', staA]) ?_; intro w7 b7 k67; replace k67 := ka.out.beyond k67 (Nat.le_refl _); have k7 := k6.trans k67; have k57 := k56.trans k67; obtain ⟨c0, c1, c2, c3, c4, c5, c6⟩ := KA.out _ k7; obtain ⟨d0, d1, d2, d3, d4, d5, d6⟩ := sta_cells b7; clear bz)
    refine (hsm.out _ r6 (hq6.out.kept k67) k57).mono ?_; rintro e w8 ⟨hs, k78⟩
    obtain rfl := says_true hs trivial
    have k8 := k7.trans k78
    have k58 := k57.trans k78
    clear c0 c1 c2 c3 c4 c5 c6 d0 d1 d2 d3 d4 d5 d6 b7 k67 hsm hq6 hs
    have KS : Hid (∀ W, Only [] ((w.alloc (.cells #[.int .u32 a.boot, .int .u32 a.next, .slice p.tA a.tree.length p.tc, .slice p.oA a.opens.length p.oc, .slice p.lA a.locks.length p.lc, .slice p.wA a.works.length p.wc, .slice p.sA a.seats.length p.sc] 29)).alloc (.cells #[.int .u32 b.boot, .int .u32 b.next, .slice q.tA b.tree.length q.tc, .slice q.oA b.opens.length q.oc, .slice q.lA b.locks.length q.lc, .slice q.wA b.works.length q.wc, .slice q.sA b.seats.length q.sc] 29)) W → W.rangeAt w.heap.size 0 (staA a p).toList ∧ W.rangeAt (w.heap.size + 1) 0 (staA b q).toList) := fun W kW => ⟨Blk.range9 (bxk.out W kW), Blk.range9 (byk.out W kW)⟩
    go_wp2_with fail
    refine wp_region_held_drew (S := fun w' => w'.rangeAt w.heap.size 0 (staA a p).toList ∧ w'.rangeAt (w.heap.size + 1) 0 (staA b q).toList) (by kernel_rfl) (KS.out _ k8.drew) (fun hHeld => ?_)
    refine held_step 0 rfl (by kernel_rfl) (fun K hK => ?_)
    go_simp
    refine (hal.out _).mono ?_; rintro e w9 ⟨rfl, k89⟩; replace k89 := k89.undrew; have k9 := k8.trans k89; have k59 := k58.trans k89
    go_wp2_with fail
    refine hK.out _ _ (KS.out _ k9) (fun hHeld => ?_)
    clear hK K
    refine held_take 1 (.bool true) rfl (by kernel_rfl) (by kernel_rfl) (by kernel_rfl) (fun _ _ _ h => h) hHeld (Or.inl ⟨by rfl, fun w' hSw => by (try dsimp only at hSw); (try subst hSw); go_simp⟩) ?_
    simp only [Act.put, List.setIfInBounds_toArray, List.set_cons_zero, List.set_cons_succ]
    refine held_take 2 (.int .i64 0) rfl (by kernel_rfl) (by kernel_rfl) (by kernel_rfl) (fun _ _ _ h => h) hHeld (Or.inl ⟨by rfl, fun w' hSw => by (try dsimp only at hSw); (try subst hSw); go_simp⟩) ?_
    simp only [Act.put, List.setIfInBounds_toArray, List.set_cons_zero, List.set_cons_succ]
    refine held_take 3 (.bool false) rfl (by kernel_rfl) (by kernel_rfl) (by kernel_rfl) (fun _ _ _ h => h) hHeld (Or.inl ⟨by rfl, fun w' hSw => by (try dsimp only at hSw); (try subst hSw); go_simp⟩) ?_
    simp only [Act.put, List.setIfInBounds_toArray, List.set_cons_zero, List.set_cons_succ]
    refine held_take 4 (.bool false) rfl (by kernel_rfl) (by kernel_rfl) (by kernel_rfl) (fun _ _ _ h => h) hHeld (Or.inl ⟨by rfl, fun w' hSw => by (try dsimp only at hSw); (try subst hSw); go_simp⟩) ?_
    simp only [Act.put, List.setIfInBounds_toArray, List.set_cons_zero, List.set_cons_succ]
    refine held_take 5 (.slice A nl c) rfl (by kernel_rfl) (by kernel_rfl) (by kernel_rfl) (fun _ _ _ h => h) hHeld (Or.inl ⟨by rfl, fun w' hSw => by (try dsimp only at hSw); (try subst hSw); go_simp⟩) ?_
    simp only [Act.put, List.setIfInBounds_toArray, List.set_cons_zero, List.set_cons_succ]
    refine held_take 6 (.slice A2 (rowsL b).length d2) rfl (by kernel_rfl) (by kernel_rfl) (by kernel_rfl) (fun _ _ _ h => h) hHeld (Or.inl ⟨by rfl, fun w' hSw => by (try dsimp only at hSw); (try subst hSw); go_simp⟩) ?_
    simp only [Act.put, List.setIfInBounds_toArray, List.set_cons_zero, List.set_cons_succ]
    refine held_take 8 (staV a p) rfl (by kernel_rfl) (by kernel_rfl) (by kernel_rfl) (fun _ _ _ h => h) hHeld (Or.inl ⟨by rfl, fun w' hSw => ev_load 29 _ rfl w.heap.size 0 rfl (staA a p).toList _ hSw.1 Tryz.underlying29 rfl size_sta⟩) ?_
    simp only [Act.put, List.setIfInBounds_toArray, List.set_cons_zero, List.set_cons_succ]
    refine held_take 9 (staV b q) rfl (by kernel_rfl) (by kernel_rfl) (by kernel_rfl) (fun _ _ _ h => h) hHeld (Or.inl ⟨by rfl, fun w' hSw => ev_load 29 _ rfl (w.heap.size + 1) 0 rfl (staA b q).toList _ hSw.2 Tryz.underlying29 rfl size_sta⟩) ?_
    simp only [Act.put, List.setIfInBounds_toArray, List.set_cons_zero, List.set_cons_succ]
    refine held_step 7 rfl (by kernel_rfl) (fun K hK => ?_)
    go_simp
    refine (hls.out _ k59).mono ?_; rintro e wa ⟨hs, k9a⟩
    have ka9 := k9.trans k9a
    have k5a := k59.trans k9a
    by_cases hab : a = b
    · obtain rfl := says_true hs (hij.out.2 hab)
      clear hs
      replace hab := Lib.hid hab
      go_wp2_with fail
      refine hK.out _ _ (KS.out _ ka9) (fun hHeld => ?_)
      clear hK K
      refine held_step 10 rfl (by kernel_rfl) (fun K hK => ?_)
      go_simp
      refine (hsn.out _ k5a).mono ?_; rintro e wb ⟨hs2, kab⟩
      obtain rfl := says_true hs2 hab.out
      clear hs2
      have kb9 := ka9.trans kab
      go_wp2_with fail
      refine hK.out _ _ (KS.out _ kb9) (fun hHeld => ?_)
      clear hK K
      refine held_take 11 (.bool true) rfl (by kernel_rfl) (by kernel_rfl) (by kernel_rfl) (fun _ _ _ h => h) hHeld (Or.inl ⟨by rfl, fun w' hSw => by (try dsimp only at hSw); (try subst hSw); go_simp⟩) ?_
      simp only [Act.put, List.setIfInBounds_toArray, List.set_cons_zero, List.set_cons_succ]
      refine held_take 12 (.bool true) rfl (by kernel_rfl) (by kernel_rfl) (by kernel_rfl) (fun _ _ _ h => h) hHeld (Or.inl ⟨by rfl, fun w' hSw => by (try dsimp only at hSw); (try subst hSw); go_simp⟩) ?_
      simp only [Act.put, List.setIfInBounds_toArray, List.set_cons_zero, List.set_cons_succ]
      refine held_take 13 (.bool true) rfl (by kernel_rfl) (by kernel_rfl) (by kernel_rfl) (fun _ _ _ h => h) hHeld (Or.inl ⟨by rfl, fun w' hSw => by (try dsimp only at hSw); (try subst hSw); go_simp⟩) ?_
      simp only [Act.put, List.setIfInBounds_toArray, List.set_cons_zero, List.set_cons_succ]
      refine held_take 14 (.bool true) rfl (by kernel_rfl) (by kernel_rfl) (by kernel_rfl) (fun _ _ _ h => h) hHeld (Or.inl ⟨by rfl, fun w' hSw => by (try dsimp only at hSw); (try subst hSw); go_simp⟩) ?_
      simp only [Act.put, List.setIfInBounds_toArray, List.set_cons_zero, List.set_cons_succ]
      refine wpAnyH_done (by kernel_rfl) ?_ _
      clear hHeld
      go_wp2
      go_ret
      exact ⟨rfl, hend.out _ kb9⟩
    · obtain rfl := says_false hs (fun h => hab (hij.out.1 h))
      clear hs
      replace hab := Lib.hid hab
      go_wp2_with fail
      refine hK.out _ _ (KS.out _ ka9) (fun hHeld => ?_)
      clear hK K
      refine held_step 10 rfl (by kernel_rfl) (fun K hK => ?_)
      go_simp
      refine (hsn.out _ k5a).mono ?_; rintro e wb ⟨hs2, kab⟩
      obtain rfl := says_false hs2 hab.out
      clear hs2
      have kb9 := ka9.trans kab
      go_wp2_with fail
      refine hK.out _ _ (KS.out _ kb9) (fun hHeld => ?_)
      clear hK K
      refine held_take 11 (.bool true) rfl (by kernel_rfl) (by kernel_rfl) (by kernel_rfl) (fun _ _ _ h => h) hHeld (Or.inl ⟨by rfl, fun w' hSw => by (try dsimp only at hSw); (try subst hSw); go_simp⟩) ?_
      simp only [Act.put, List.setIfInBounds_toArray, List.set_cons_zero, List.set_cons_succ]
      refine held_take 12 (.bool true) rfl (by kernel_rfl) (by kernel_rfl) (by kernel_rfl) (fun _ _ _ h => h) hHeld (Or.inl ⟨by rfl, fun w' hSw => by (try dsimp only at hSw); (try subst hSw); go_simp⟩) ?_
      simp only [Act.put, List.setIfInBounds_toArray, List.set_cons_zero, List.set_cons_succ]
      refine held_take 13 (.bool true) rfl (by kernel_rfl) (by kernel_rfl) (by kernel_rfl) (fun _ _ _ h => h) hHeld (Or.inl ⟨by rfl, fun w' hSw => by (try dsimp only at hSw); (try subst hSw); go_simp⟩) ?_
      simp only [Act.put, List.setIfInBounds_toArray, List.set_cons_zero, List.set_cons_succ]
      refine held_take 14 (.bool true) rfl (by kernel_rfl) (by kernel_rfl) (by kernel_rfl) (fun _ _ _ h => h) hHeld (Or.inl ⟨by rfl, fun w' hSw => by (try dsimp only at hSw); (try subst hSw); go_simp⟩) ?_
      simp only [Act.put, List.setIfInBounds_toArray, List.set_cons_zero, List.set_cons_succ]
      refine wpAnyH_done (by kernel_rfl) ?_ _
      clear hHeld
      go_wp2
      go_ret
      exact ⟨rfl, hend.out _ kb9⟩
  · clear hrw1 hrw2
    generalize (rowsL a).length = nl at *
    go_wp2_with fail
    refine hrd.out.mono ?_; rintro e w6 ⟨r6, rfl, hq6, k56⟩
    have k6 := k5.trans k56
    have bz := Blk.new w6 29 zSA
    have ka : Only [] w6 (w6.alloc (.cells zSA 29)) := (Only.refl [] w6).alloc _
    unfold zSA at ka
    replace ka := Lib.hid ka
    replace hq6 := Lib.hid hq6
    clear hrd
    go_wp2_with (refine wpList_store_sta (staA a r6) zSA rfl _ _ rfl w6.heap.size rfl rfl bz rfl rfl (by simp [Value.oneCell', staA]) ?_; intro w7 b7 k67; replace k67 := ka.out.beyond k67 (Nat.le_refl _); have k7 := k6.trans k67; have k57 := k56.trans k67; obtain ⟨c0, c1, c2, c3, c4, c5, c6⟩ := KA.out _ k7; obtain ⟨d0, d1, d2, d3, d4, d5, d6⟩ := sta_cells b7; clear bz)
    refine (hsm.out _ r6 (hq6.out.kept k67) k57).mono ?_; rintro e w8 ⟨hs, k78⟩
    obtain rfl := says_true hs trivial
    have k8 := k7.trans k78
    have k58 := k57.trans k78
    clear c0 c1 c2 c3 c4 c5 c6 d0 d1 d2 d3 d4 d5 d6 b7 k67 hsm hq6 hs
    have KS : Hid (∀ W, Only [] ((w.alloc (.cells #[.int .u32 a.boot, .int .u32 a.next, .slice p.tA a.tree.length p.tc, .slice p.oA a.opens.length p.oc, .slice p.lA a.locks.length p.lc, .slice p.wA a.works.length p.wc, .slice p.sA a.seats.length p.sc] 29)).alloc (.cells #[.int .u32 b.boot, .int .u32 b.next, .slice q.tA b.tree.length q.tc, .slice q.oA b.opens.length q.oc, .slice q.lA b.locks.length q.lc, .slice q.wA b.works.length q.wc, .slice q.sA b.seats.length q.sc] 29)) W → W.rangeAt w.heap.size 0 (staA a p).toList ∧ W.rangeAt (w.heap.size + 1) 0 (staA b q).toList) := fun W kW => ⟨Blk.range9 (bxk.out W kW), Blk.range9 (byk.out W kW)⟩
    go_wp2_with fail
    refine wp_region_held_drew (S := fun w' => w'.rangeAt w.heap.size 0 (staA a p).toList ∧ w'.rangeAt (w.heap.size + 1) 0 (staA b q).toList) (by kernel_rfl) (KS.out _ k8.drew) (fun hHeld => ?_)
    refine held_step 0 rfl (by kernel_rfl) (fun K hK => ?_)
    go_simp
    refine (hal.out _).mono ?_; rintro e w9 ⟨rfl, k89⟩; replace k89 := k89.undrew; have k9 := k8.trans k89; have k59 := k58.trans k89
    go_wp2_with fail
    refine hK.out _ _ (KS.out _ k9) (fun hHeld => ?_)
    clear hK K
    refine held_take 1 (.bool true) rfl (by kernel_rfl) (by kernel_rfl) (by kernel_rfl) (fun _ _ _ h => h) hHeld (Or.inl ⟨by rfl, fun w' hSw => by (try dsimp only at hSw); (try subst hSw); go_simp⟩) ?_
    simp only [Act.put, List.setIfInBounds_toArray, List.set_cons_zero, List.set_cons_succ]
    refine held_take 2 (.int .i64 1) rfl (by kernel_rfl) (by kernel_rfl) (by kernel_rfl) (fun _ _ _ h => h) hHeld (Or.inl ⟨by rfl, fun w' hSw => by (try dsimp only at hSw); (try subst hSw); go_simp⟩) ?_
    simp only [Act.put, List.setIfInBounds_toArray, List.set_cons_zero, List.set_cons_succ]
    refine held_take 3 (.bool true) rfl (by kernel_rfl) (by kernel_rfl) (by kernel_rfl) (fun _ _ _ h => h) hHeld (Or.inl ⟨by rfl, fun w' hSw => by (try dsimp only at hSw); (try subst hSw); go_simp⟩) ?_
    simp only [Act.put, List.setIfInBounds_toArray, List.set_cons_zero, List.set_cons_succ]
    refine held_take 4 (.bool true) rfl (by kernel_rfl) (by kernel_rfl) (by kernel_rfl) (fun _ _ _ h => h) hHeld (Or.inl ⟨by rfl, fun w' hSw => by (try dsimp only at hSw); (try subst hSw); go_simp⟩) ?_
    simp only [Act.put, List.setIfInBounds_toArray, List.set_cons_zero, List.set_cons_succ]
    refine held_take 5 undef rfl (by kernel_rfl) (by kernel_rfl) (by kernel_rfl) (fun _ _ _ h => h) hHeld (Or.inr ⟨by rfl, rfl⟩) ?_
    simp only [Act.put, List.setIfInBounds_toArray, List.set_cons_zero, List.set_cons_succ]
    refine held_take 6 undef rfl (by kernel_rfl) (by kernel_rfl) (by kernel_rfl) (fun _ _ _ h => h) hHeld (Or.inr ⟨by rfl, rfl⟩) ?_
    simp only [Act.put, List.setIfInBounds_toArray, List.set_cons_zero, List.set_cons_succ]
    refine held_take 7 undef rfl (by kernel_rfl) (by kernel_rfl) (by kernel_rfl) (fun _ _ _ h => h) hHeld (Or.inr ⟨by rfl, rfl⟩) ?_
    simp only [Act.put, List.setIfInBounds_toArray, List.set_cons_zero, List.set_cons_succ]
    refine held_take 8 undef rfl (by kernel_rfl) (by kernel_rfl) (by kernel_rfl) (fun _ _ _ h => h) hHeld (Or.inr ⟨by rfl, rfl⟩) ?_
    simp only [Act.put, List.setIfInBounds_toArray, List.set_cons_zero, List.set_cons_succ]
    refine held_take 9 undef rfl (by kernel_rfl) (by kernel_rfl) (by kernel_rfl) (fun _ _ _ h => h) hHeld (Or.inr ⟨by rfl, rfl⟩) ?_
    simp only [Act.put, List.setIfInBounds_toArray, List.set_cons_zero, List.set_cons_succ]
    refine held_take 10 undef rfl (by kernel_rfl) (by kernel_rfl) (by kernel_rfl) (fun _ _ _ h => h) hHeld (Or.inr ⟨by rfl, rfl⟩) ?_
    simp only [Act.put, List.setIfInBounds_toArray, List.set_cons_zero, List.set_cons_succ]
    refine held_take 11 undef rfl (by kernel_rfl) (by kernel_rfl) (by kernel_rfl) (fun _ _ _ h => h) hHeld (Or.inr ⟨by rfl, rfl⟩) ?_
    simp only [Act.put, List.setIfInBounds_toArray, List.set_cons_zero, List.set_cons_succ]
    refine held_take 12 (.bool true) rfl (by kernel_rfl) (by kernel_rfl) (by kernel_rfl) (fun _ _ _ h => h) hHeld (Or.inl ⟨by rfl, fun w' hSw => by (try dsimp only at hSw); (try subst hSw); go_simp⟩) ?_
    simp only [Act.put, List.setIfInBounds_toArray, List.set_cons_zero, List.set_cons_succ]
    refine held_take 13 (.bool true) rfl (by kernel_rfl) (by kernel_rfl) (by kernel_rfl) (fun _ _ _ h => h) hHeld (Or.inl ⟨by rfl, fun w' hSw => by (try dsimp only at hSw); (try subst hSw); go_simp⟩) ?_
    simp only [Act.put, List.setIfInBounds_toArray, List.set_cons_zero, List.set_cons_succ]
    refine held_take 14 (.bool true) rfl (by kernel_rfl) (by kernel_rfl) (by kernel_rfl) (fun _ _ _ h => h) hHeld (Or.inl ⟨by rfl, fun w' hSw => by (try dsimp only at hSw); (try subst hSw); go_simp⟩) ?_
    simp only [Act.put, List.setIfInBounds_toArray, List.set_cons_zero, List.set_cons_succ]
    refine wpAnyH_done (by kernel_rfl) ?_ _
    clear hHeld
    go_wp2
    go_ret
    exact ⟨rfl, hend.out _ k9⟩

end Go.Proofs.YtalkhhjfplahkaaGreat
