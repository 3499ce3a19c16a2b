/- ask, alive. -/
import Derived.Test.YtmelaiefbpdifaaGreatDoorGK6
namespace Go.Proofs.YtmelaiefbpdifaaGreatDoor.Srv
open Go.RowKit Go.Maps
open Pgs (Pg)
theorem al_ok : al1.Ok ∧ al2.Ok ∧ al3.Ok ∧ al4.Ok := by
 refine ⟨?_, ?_, ?_, ?_⟩ <;> constructor <;> first | (show U _; unfold U; decide) | (show I _; unfold I; decide)
set_option maxRecDepth 100000 in
set_option maxHeartbeats 2000000 in
theorem ask_any (w : World) (fr sq bo : Int) (o : Pk) :
  Calls Tryz.prog 31 #[.int .i64 fr, .int .u32 sq, .int .u32 bo, opV o] w fun e w' => e = .returned (pkV (askP fr sq bo o)) ∧ Only [] w w' := by
 have b0 : Blk ((w.alloc (.cells (opL o).toArray 51)).alloc (.cells zPkA 53)) w.heap.size 51 (opL o).toArray := (Blk.new w _ _).alloc _
 have z1 : Blk ((w.alloc (.cells (opL o).toArray 51)).alloc (.cells zPkA 53)) (w.heap.size + 1) 53 (pkA zPk) := by
  have := Blk.new (w.alloc (.cells (opL o).toArray 51)) 53 zPkA
  rwa [show (w.alloc (.cells (opL o).toArray 51)).heap.size = w.heap.size + 1 by simp] at this
 have k1 : Only [] w ((w.alloc (.cells (opL o).toArray 51)).alloc (.cells zPkA 53)) := ((Only.refl [] w).alloc _).alloc _
 unfold askP
 obtain ⟨x0, x1, x2, x3, x4, x5, x6, x7, x8, x9, x10, x11, x12, x13, x14, x15, x16, x17, x18, x19⟩ := o
 go_enter Tryz.func31, Tryz.ntmps31
 go_wp2_with (first
  | (refine wpList_load_opB ⟨x0, x1, x2, x3, x4, x5, x6, x7, x8, x9, x10, x11, x12, x13, x14, x15, x16, x17, x18, x19⟩ rfl (.tmp 7) rfl w.heap.size rfl b0 ?_)
  | (refine wpList_store_pk ⟨1, fr, 1, 1, sq, bo, 0, x7, x8, x9, x10, x11, x12, x13, x14, x15, x16, x17, x18, x19⟩ zPk rfl (.tmp 8) (.tmp 13) rfl (w.heap.size + 1) rfl rfl z1 ?_; intro w2 b2 k2))
 refine bodyPost_ret (v := pkV ⟨1, fr, 1, 1, sq, bo, 0, x7, x8, x9, x10, x11, x12, x13, x14, x15, x16, x17, x18, x19⟩) (results_blk rfl _ _ (w.heap.size + 1) rfl (pkA _).toList _ b2 Tryz.underlying53 rfl size_pk) rfl ?_
 exact ⟨rfl, k1.then k2 (fun i hi => .inr (by simp at hi; omega))⟩
theorem boxed_pk (w : World) : Blk (w.alloc (.cells zPkA 53)) w.heap.size 53 (pkA zPk) := Blk.new w _ _
theorem out_of {R R' : List Nat} {g m : Nat} (hg : g ∉ R) (hR : ∀ j ∈ R', j ∈ R ∨ m ≤ j) (h : g < m) : g ∉ R' := fun hm => by
 rcases hR g hm with h' | h'
 ·exact hg h'
 ·omega
set_option maxRecDepth 100000 in
set_option maxHeartbeats 8000000 in
theorem alive_any (w : World) : Calls Tryz.prog 9 #[] w fun e w' => e = .returned (.bool true) ∧ Only [] w w' := by
 obtain ⟨o1, o2, o3, o4⟩ := al_ok
 have hnew := ownNew_any w w 140 (by decide) (by decide) (Only.refl _ _)
 replace hnew := Lib.hid hnew
 go_enter Tryz.func9, Tryz.ntmps9
 go_wp2_with fail
 refine hnew.out.mono ?_; rintro e w1 ⟨dp, F, rfl, hd1, _, _⟩
 clear hnew
 go_wp2_with fail
 refine (OwnD.startL (N := 99) hd1 (by decide) (by decide) 1 ⟨by decide, by decide⟩).mono ?_
 rintro e w2 ⟨sb, R0, M0, rfl, hl0, _, _, hG, hM⟩
 have hbt := hl0.boot
 change Calls _ _ _ w2 fun e w' => e = .returned (.int .u32 1) ∧ w' = w2 at hbt
 clear hd1
 replace hG := Lib.hid hG
 replace hM := Lib.hid hM
 go_wp2_with fail
 refine hbt.mono ?_; rintro e w3 ⟨rfl, rfl⟩
 clear hbt
 go_wp2_with fail
 refine (ask_any _ 0 1 1 (opP 4 7 1 0 0 1024 ⟨#[]⟩)).mono ?_; rintro e s1 ⟨rfl, ks1⟩
 have hk1 := hl0.keep ks1
 go_wp2_with fail
 refine (hk1.handle (by decide) al1 o1).mono ?_; rintro e t1 ⟨r1, ok1, σ1, R1, rfl, h1, hl1, kt1, hR1⟩
 have z1 := boxed_pk t1
 have kz1 : Only [] t1 (t1.alloc (.cells zPkA 53)) := (Only.refl [] t1).alloc _
 have hnl1 : ∀ j ∈ R1, j < t1.heap.size := fun j hj => (hl1.new j hj).2
 go_wp2_with (refine wpList_store_pk r1 zPk rfl (.tmp 3) (.tmp 32) rfl t1.heap.size rfl rfl z1 ?_; intro u1 b1 ku1)
 replace hl1 := hl1.keep (kz1.then ku1 (fun j hj => .inr (by simp at hj; omega)))
 have c1 := b1.cell 8
 simp only [List.getElem?_toArray, List.getElem?_cons_zero, List.getElem?_cons_succ] at c1
 have hl1s : t1.heap.size < u1.heap.size := b1.lt
 obtain ⟨g1, hg1⟩ : ∃ g, g = t1.heap.size := ⟨_, rfl⟩
 rw [← hg1] at c1 hl1s
 have g1R : g1 ∉ R1 := fun hm => by have := hnl1 _ hm; omega
 have g1t := Lib.hid hl1s
 simp only [← hg1]
 replace hg1 := Lib.hid hg1
 replace h1 := Lib.hid h1
 clear b1 z1 kz1 ku1 kt1 ks1 hk1 hR1 hnl1 hl1s  hl0
 go_wp2_with fail
 refine (ask_any _ 17 1 1 (opP 1 7 2 0 0 0 ⟨#[120]⟩)).mono ?_; rintro e s2 ⟨rfl, ks2⟩
 have hk2 := hl1.keep ks2
 go_wp2_with fail
 refine (hk2.handle (by decide) al2 o2).mono ?_; rintro e t2 ⟨r2, ok2, σ2, R2, rfl, h2, hl2, kt2, hR2⟩
 have z2 := boxed_pk t2
 have kz2 : Only [] t2 (t2.alloc (.cells zPkA 53)) := (Only.refl [] t2).alloc _
 have hnl2 : ∀ j ∈ R2, j < t2.heap.size := fun j hj => (hl2.new j hj).2
 have hq12 : ¬ g1 = t2.heap.size := by have := g1t.out; have := ks2.size; have := kt2.size; omega
 replace c1 := (kz2.cell (kt2.cell (ks2.cell c1 (by simp)) g1R) (by simp))
 go_wp2_with (refine wpList_store_pk r2 zPk rfl (.tmp 5) (.tmp 39) rfl t2.heap.size rfl rfl z2 ?_; intro u2 b2 ku2)
 replace hl2 := hl2.keep (kz2.then ku2 (fun j hj => .inr (by simp at hj; omega)))
 have c2 := b2.cell 8
 simp only [List.getElem?_toArray, List.getElem?_cons_zero, List.getElem?_cons_succ] at c2
 have hl2s : t2.heap.size < u2.heap.size := b2.lt
 replace c1 := ku2.cell c1 (by simp; exact hq12)
 replace g1R : g1 ∉ R2 := out_of g1R hR2 (by have := g1t.out; have := ks2.size; omega)
 replace g1t := Lib.hid (show g1 < u2.heap.size by have := g1t.out; have := ks2.size; have := kt2.size; omega)
 obtain ⟨g2, hg2⟩ : ∃ g, g = t2.heap.size := ⟨_, rfl⟩
 rw [← hg2] at c2 hl2s
 have g2R : g2 ∉ R2 := fun hm => by have := hnl2 _ hm; omega
 have g2t := Lib.hid hl2s
 simp only [← hg2]
 replace hg2 := Lib.hid hg2
 replace h2 := Lib.hid h2
 clear b2 z2 kz2 ku2 kt2 ks2 hk2 hR2 hnl2 hl2s hq12 hl1
 go_wp2_with fail
 refine (ask_any _ 17 2 1 (opP 1 7 1 3 0 0 ⟨#[97, 98, 99]⟩)).mono ?_; rintro e s3 ⟨rfl, ks3⟩
 have hk3 := hl2.keep ks3
 go_wp2_with fail
 refine (hk3.handle (by decide) al3 o3).mono ?_; rintro e t3 ⟨r3, ok3, σ3, R3, rfl, h3, hl3, kt3, hR3⟩
 have z3 := boxed_pk t3
 have kz3 : Only [] t3 (t3.alloc (.cells zPkA 53)) := (Only.refl [] t3).alloc _
 have hnl3 : ∀ j ∈ R3, j < t3.heap.size := fun j hj => (hl3.new j hj).2
 have hq13 : ¬ g1 = t3.heap.size := by have := g1t.out; have := ks3.size; have := kt3.size; omega
 replace c1 := (kz3.cell (kt3.cell (ks3.cell c1 (by simp)) g1R) (by simp))
 have hq23 : ¬ g2 = t3.heap.size := by have := g2t.out; have := ks3.size; have := kt3.size; omega
 replace c2 := (kz3.cell (kt3.cell (ks3.cell c2 (by simp)) g2R) (by simp))
 go_wp2_with (refine wpList_store_pk r3 zPk rfl (.tmp 7) (.tmp 46) rfl t3.heap.size rfl rfl z3 ?_; intro u3 b3 ku3)
 replace hl3 := hl3.keep (kz3.then ku3 (fun j hj => .inr (by simp at hj; omega)))
 have c3 := b3.cell 8
 simp only [List.getElem?_toArray, List.getElem?_cons_zero, List.getElem?_cons_succ] at c3
 have hl3s : t3.heap.size < u3.heap.size := b3.lt
 replace c1 := ku3.cell c1 (by simp; exact hq13)
 replace g1R : g1 ∉ R3 := out_of g1R hR3 (by have := g1t.out; have := ks3.size; omega)
 replace g1t := Lib.hid (show g1 < u3.heap.size by have := g1t.out; have := ks3.size; have := kt3.size; omega)
 replace c2 := ku3.cell c2 (by simp; exact hq23)
 replace g2R : g2 ∉ R3 := out_of g2R hR3 (by have := g2t.out; have := ks3.size; omega)
 replace g2t := Lib.hid (show g2 < u3.heap.size by have := g2t.out; have := ks3.size; have := kt3.size; omega)
 obtain ⟨g3, hg3⟩ : ∃ g, g = t3.heap.size := ⟨_, rfl⟩
 rw [← hg3] at c3 hl3s
 have g3R : g3 ∉ R3 := fun hm => by have := hnl3 _ hm; omega
 have g3t := Lib.hid hl3s
 simp only [← hg3]
 replace hg3 := Lib.hid hg3
 replace h3 := Lib.hid h3
 clear b3 z3 kz3 ku3 kt3 ks3 hk3 hR3 hnl3 hl3s hq13 hq23 hl2
 go_wp2_with fail
 refine (ask_any _ 17 3 1 (opP 2 7 1 2 5 0 ⟨#[]⟩)).mono ?_; rintro e s4 ⟨rfl, ks4⟩
 have hk4 := hl3.keep ks4
 go_wp2_with fail
 refine (hk4.handle (by decide) al4 o4).mono ?_; rintro e t4 ⟨r4, ok4, σ4, R4, rfl, h4, hl4, kt4, hR4⟩
 have z4 := boxed_pk t4
 have kz4 : Only [] t4 (t4.alloc (.cells zPkA 53)) := (Only.refl [] t4).alloc _
 have hnl4 : ∀ j ∈ R4, j < t4.heap.size := fun j hj => (hl4.new j hj).2
 have hq14 : ¬ g1 = t4.heap.size := by have := g1t.out; have := ks4.size; have := kt4.size; omega
 replace c1 := (kz4.cell (kt4.cell (ks4.cell c1 (by simp)) g1R) (by simp))
 have hq24 : ¬ g2 = t4.heap.size := by have := g2t.out; have := ks4.size; have := kt4.size; omega
 replace c2 := (kz4.cell (kt4.cell (ks4.cell c2 (by simp)) g2R) (by simp))
 have hq34 : ¬ g3 = t4.heap.size := by have := g3t.out; have := ks4.size; have := kt4.size; omega
 replace c3 := (kz4.cell (kt4.cell (ks4.cell c3 (by simp)) g3R) (by simp))
 obtain ⟨⟨rfl, hr1⟩, ⟨rfl, hr2⟩, ⟨rfl, hr3⟩, ⟨rfl, hr4⟩, hs7, hob7, hep7⟩ := alive_pure hG.out hM.out h1.out h2.out h3.out h4
 rw [hr1] at c1
 rw [hr2] at c2
 rw [hr3] at c3
 have hsure := fun W (k : Only [] t4 W) => (hl4.keep k).sure 7 7 rfl (by decide)
 have hobj := fun W (k : Only [] t4 W) => (hl4.keep k).object 7 7 rfl (by decide)
 have hepo := fun W (k : Only [] t4 W) => (hl4.keep k).epoch 7 (by unfold U; decide)
 change ∀ W, Only [] t4 W → Calls _ _ _ W fun e w' => e = .returned (.int .u32 (epN σ4.M 7 : Int)) ∧ Only [] W w' at hepo
 rw [hep7] at hepo
 have hs7' : (sureL σ4.M 7).length = 0 := by rw [hs7]; rfl
 generalize sureL σ4.M 7 = so at *
 generalize objL σ4 7 = oo at *
 replace hr4 := Lib.hid hr4
 clear hr1 hr2 hr3 hG hM h1 h2 h3 h4 hep7 hs7
 replace hsure := Lib.hid hsure
 replace hobj := Lib.hid hobj
 replace hepo := Lib.hid hepo
 go_wp2_with ((refine wpList_store_pk r4 zPk rfl (.tmp 9) (.tmp 53) rfl t4.heap.size rfl rfl z4 ?_; intro u4 b4 ku4; have y1 := ku4.cell c1 (by simp; exact hq14); have y2 := ku4.cell c2 (by simp; exact hq24); have y3 := ku4.cell c3 (by simp; exact hq34); have y4 : u4.cell? ⟨t4.heap.size, 19, none⟩ = some (.string ⟨#[0, 97, 98, 99, 0]⟩) := (b4.cell 19).trans (by rw [← hr4.out]; rfl)))
 have ku14 : Only [] t4 u4 := kz4.then ku4 (fun j hj => .inr (by simp at hj; omega))
 have kw := hl4.only.trans ku14
 clear c1 c2 c3 z4 b4 kt4 kz4 ku4
 refine (hsure.out _ ku14).mono ?_; rintro e v1 ⟨v, rfl, A, ka, rfl, _, _, kv1, _⟩
 rw [hs7']
 go_wp2_with fail
 refine (hobj.out _ (ku14.trans kv1)).mono ?_; rintro e v2 ⟨v, rfl, B, kb, rfl, _, _, kv2, _⟩
 rw [hob7]
 have kv12 := kv1.trans kv2
 go_wp2_with fail
 refine (hepo.out _ (ku14.trans kv12)).mono ?_; rintro e v3 ⟨rfl, kv3⟩
 have kend := (kw.trans kv12).trans kv3
 clear kv1 kv2 kv12 kv3 kw
 go_wp2
 go_ret
 exact ⟨rfl, kend⟩
end Go.Proofs.YtmelaiefbpdifaaGreatDoor.Srv
