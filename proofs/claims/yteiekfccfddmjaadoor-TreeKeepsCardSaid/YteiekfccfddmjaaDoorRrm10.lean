/- The document's Remove. -/
import Derived.Test.YteiekfccfddmjaaDoorRmk10
namespace Go.Proofs.YteiekfccfddmjaaDoor
open Go.RowKit

theorem posN_of {t : List Nd} (h : t.Pairwise (fun a b => a.id < b.id)) {k : Nat} {x : Nd} (hx : t[k]? = some x) : posN t x.id = k := by
  have hm := List.mem_of_getElem? hx
  have hg : getI t x.id = some x := getI_of h hm
  have h1 := posN_iff h (i := x.id) hx
  have h2 := getI_pos h hg
  have h3 := posN_iff h (i := x.id) h2
  have h4 : ¬ k < posN t x.id := fun q => by have := h1.2 q; omega
  rcases Nat.lt_or_ge (posN t x.id) k with q | q
  · have ha := List.getElem?_eq_some_iff.1 h2
    have hb := List.getElem?_eq_some_iff.1 hx
    have := List.pairwise_iff_getElem.1 h (posN t x.id) k ha.1 hb.1 q
    rw [ha.2, hb.2] at this
    omega
  · omega
theorem findI_same {t : List Nd} {p : List UInt8} : (findI t p).2 = (findR t p).2 ∧ ((findR t p).2 = 0 → t[(findI t p).1]? = some (findR t p).1) := by
  unfold findI findR
  by_cases he : errOf t p = 0
  · rw [if_pos he, if_pos he]
    have hT := (errOf_tree he).1
    obtain ⟨s1, s2, s3, s4⟩ := walk_same hT (namesOf t p) 0 rootN hT.get0
    exact ⟨s1, s3⟩
  · rw [if_neg he, if_neg he]
    exact ⟨rfl, fun h => absurd h he⟩
theorem Tree.first {t : List Nd} (h : Tree t) {k : Nat} {x : Nd} (hx : t[k]? = some x) : k = 0 ↔ x.id = 1 := by
  constructor
  · rintro rfl
    rw [h.get0] at hx
    injection hx with hx
    rw [← hx]
    rfl
  · intro e
    have h1 := posN_of h.rise hx
    have h2 := posN_of h.rise h.get0
    rw [← h1, e]
    exact h2
set_option maxRecDepth 100000 in
set_option maxHeartbeats 8000000 in
theorem rremove_any (w : World) (A : Option Addr) (c : Nat) (l : List Nd) (p : List UInt8) (dir : Bool) (hb : Els ndE 5 w A l) (hc : l.length ≤ c) (hl : l.length ≤ 1000) (hp : p.length ≤ 1048576) :
    Calls Tryd.prog 27 #[.slice A l.length c, .string (strOf p), .bool dir] w fun e w' => TripAns w w' e (removeR l p dir).1 (removeR l p dir).2.1 (.int .i64 (removeR l p dir).2.2) := by
  obtain ⟨R, hR⟩ : ∃ R, R = removeR l p dir := ⟨_, rfl⟩
  rw [← hR]
  unfold removeR at hR
  have hF := fun W (k : Only [] w W) => rfind_any W A c l p (hb.kept k (by simp)) (by omega) hp
  have hFT : (findR l p).2 = 0 → Tree l ∧ (findR l p).1 ∈ l := fun h => ⟨(findR_tree h).1, (findR_tree h).2.1⟩
  obtain ⟨e1, e2⟩ := findI_same (t := l) (p := p)
  have bz := Bx.zero w
  have hk0 : Only [] w (w.alloc (.cells #[.int .u32 0, .int .u32 0, .string ⟨#[]⟩, .bool false, .int .u32 0] 28)) := (Only.refl [] w).alloc _
  generalize findR l p = F at *
  generalize findI l p = G at *
  obtain ⟨⟨y0, y1, y2, y3, y4⟩, er⟩ := F
  obtain ⟨k, ek⟩ := G
  simp only at hR hF hFT e1 e2
  subst e1
  replace hF := Lib.hid hF
  by_cases he : ek = 0
  rotate_left
  · rw [if_pos he] at hR
    have heb : (ek != 0) = true := by simpa using he
    subst hR
    clear hFT e2
    go_enter Tryd.func27, Tryd.ntmps27
    go_wp2_with fail
    refine (hF.out _ hk0).mono ?_; rintro e w1 ⟨rfl, k1⟩
    have hk1 := hk0.trans k1
    have b2 : Bx w1 w.heap.size zeroN := bz.kept k1 (by simp)
    go_wp2_with (refine wpList_store_nd zeroN zeroN rfl _ _ rfl w.heap.size rfl rfl b2 ?_; intro w5 b5 k5)
    refine bodyPost_ret (v := .tuple #[.slice none 0 0, ndV zeroN, .int .i64 ek]) (results_ndm rfl _ _ w.heap.size rfl _ b5 _ _ rfl rfl) rfl ?_
    exact ⟨_, rfl, Mine.start _ _ _ (hk1.at0 k5 (Nat.le_refl _))⟩
  subst he
  obtain ⟨hT, hmem⟩ := hFT rfl
  have hx := e2 rfl
  clear hFT e2
  rw [if_neg (by decide)] at hR
  have hl0 := List.length_pos_iff.2 (show l ≠ [] from fun h => by have := hT.head; rw [h] at this; cases this)
  have hlt := (List.getElem?_eq_some_iff.1 hx).1
  have hxe : l[k] = _ := (List.getElem?_eq_some_iff.1 hx).2
  have hfirst := hT.first hx
  have hpo := posN_of hT.rise hx
  simp only at hfirst hpo
  have hy1 : 1 ≤ y0 := hT.pos hmem
  have hKs := fun W (k : Only [] w W) => rkids_any W A c l y0 (hb.kept k (by simp)) (by omega) (by omega)
  rw [kids1_eq hT.head (d := y0) (by omega)] at hKs
  have hWo := fun W (kk : Only [] w W) => without_any W A c l k (hb.kept kk (by simp)) hc hl hlt
  obtain ⟨g, o, rfl, _, hat⟩ := hb.get hlt
  have hcl := fun W (kk : Only [] w W) => nds_at (hat.kept kk (by simp)) hlt
  rw [hxe] at hcl
  simp only at hcl
  rw [hpo] at hR
  unfold keptR at hR
  simp only at hR
  have hkI : (k : Int) < (l.length : Int) := by omega
  have hkz : (0 : Int) ≤ (k : Int) := by omega
  have hn := Lib.hid hl0
  generalize kidsN l y0 = kn at *
  replace hKs := Lib.hid hKs
  replace hWo := Lib.hid hWo
  replace hcl := Lib.hid hcl
  replace hR := Lib.hid hR
  replace hfirst := Lib.hid hfirst
  replace hT := Lib.hid hT
  replace hmem := Lib.hid hmem
  replace hx := Lib.hid hx
  replace hxe := Lib.hid hxe
  replace hpo := Lib.hid hpo
  clear hat hl0 hb
  -- the error's number
  obtain ⟨kr, hkr⟩ : ∃ kr : Int, kr = (if y0 = 1 then 21 else if dir = true then (if y3 = false then 10 else if 0 < kn then 24 else 0) else if y3 = true then 11 else 0) := ⟨_, rfl⟩
  have hR2 : R = if kr ≠ 0 then ([], zeroN, kr) else (l.take k ++ l.drop (k + 1), ⟨y0, y1, y2, y3, y4⟩, 0) := by rw [hR.out, hkr]
  clear hR
  replace hR2 := Lib.hid hR2
  go_enter Tryd.func27, Tryd.ntmps27
  go_wp2_with fail
  refine (hF.out _ hk0).mono ?_; rintro e w1 ⟨rfl, k1⟩
  have hk1 := hk0.trans k1
  have b2 : Bx w1 w.heap.size zeroN := bz.kept k1 (by simp)
  obtain ⟨x0, x1, x2, x3, x4⟩ := hcl.out _ hk1
  have hk2 := hk1.alloc (.cells #[.int .u32 y0, .int .u32 y1, .string (strOf y2), .bool y3, .int .u32 y4] 28)
  have b3 : Bx (w1.alloc (.cells #[.int .u32 y0, .int .u32 y1, .string (strOf y2), .bool y3, .int .u32 y4] 28)) w.heap.size zeroN := b2.alloc _
  have bn : Bx (w1.alloc (.cells #[.int .u32 y0, .int .u32 y1, .string (strOf y2), .bool y3, .int .u32 y4] 28)) w1.heap.size ⟨y0, y1, y2, y3, y4⟩ := Bx.new w1 ⟨y0, y1, y2, y3, y4⟩
  have hne2 : w.heap.size < w1.heap.size := Nat.lt_of_lt_of_le (by simp) k1.size
  -- what stands behind the switch where there is an error
  by_cases h1 : y0 = 1
  · have hk00 := hfirst.out.2 h1
    rw [if_pos h1] at hkr
    subst hkr
    have hr : R = ([], zeroN, 21) := by rw [hR2.out, if_pos (by decide)]
    subst hr
    have hk0b : ((k : Int) == 0) = true := by simp [hk00]
    replace hk00 := Lib.hid hk00
    replace h1 := Lib.hid h1
    go_wp2_with (refine wpList_store_nd zeroN zeroN rfl _ _ rfl w.heap.size rfl rfl b3 ?_; intro w5 b5 k5)
    refine bodyPost_ret (v := .tuple #[.slice none 0 0, ndV zeroN, .int .i64 21]) (results_ndm rfl _ _ w.heap.size rfl _ b5 _ _ rfl rfl) rfl ?_
    exact ⟨_, rfl, Mine.start _ _ _ (hk2.at0 k5 (Nat.le_refl _))⟩
  have hk00 : ¬ k = 0 := fun e => h1 (hfirst.out.1 e)
  have hk0b : ((k : Int) == 0) = false := by rw [beq_eq_false_iff_ne]; omega
  rw [if_neg h1] at hkr
  replace hk00 := Lib.hid hk00
  replace h1 := Lib.hid h1
  cases dir with
  | false =>
    rw [if_neg (by simp)] at hkr
    cases y3 with
    | true =>
      simp only [if_true] at hkr
      subst hkr
      have hr : R = ([], zeroN, 11) := by rw [hR2.out, if_pos (by decide)]
      subst hr
      go_wp2_with (refine wpList_store_nd zeroN zeroN rfl _ _ rfl w.heap.size rfl rfl b3 ?_; intro w5 b5 k5)
      refine bodyPost_ret (v := .tuple #[.slice none 0 0, ndV zeroN, .int .i64 11]) (results_ndm rfl _ _ w.heap.size rfl _ b5 _ _ rfl rfl) rfl ?_
      exact ⟨_, rfl, Mine.start _ _ _ (hk2.at0 k5 (Nat.le_refl _))⟩
    | false =>
      rw [if_neg (by simp)] at hkr
      subst hkr
      have hr := Lib.hid (hR2.out.trans (if_neg (by decide)))
      go_wp2_with fail
      generalize (w1.alloc (.cells #[.int .u32 y0, .int .u32 y1, .string (strOf y2), .bool false, .int .u32 y4] 28)) = w4 at *
      generalize w1.heap.size = q1 at *
      have KP : Hid (∀ w', Only [] w4 w' → w'.cell? ⟨q1, 0, none⟩ = some (.int .u32 y0) ∧ w'.cell? ⟨q1, 1, none⟩ = some (.int .u32 y1) ∧ w'.cell? ⟨q1, 2, none⟩ = some (.string (strOf y2)) ∧ w'.cell? ⟨q1, 3, none⟩ = some (.bool false) ∧ w'.cell? ⟨q1, 4, none⟩ = some (.int .u32 y4)) := fun w' kk => (bn.kept kk (by simp)).cells
      have KQ : Hid (∀ w', Only [w.heap.size] w4 w' → w'.cell? ⟨q1, 0, none⟩ = some (.int .u32 y0) ∧ w'.cell? ⟨q1, 1, none⟩ = some (.int .u32 y1) ∧ w'.cell? ⟨q1, 2, none⟩ = some (.string (strOf y2)) ∧ w'.cell? ⟨q1, 3, none⟩ = some (.bool false) ∧ w'.cell? ⟨q1, 4, none⟩ = some (.int .u32 y4)) := fun w' kk => (bn.kept kk (by simp; omega)).cells
      clear bn
      refine wp_region_held_drew (S := fun w' => w'.cell? ⟨q1, 0, none⟩ = some (.int .u32 y0) ∧ w'.cell? ⟨q1, 1, none⟩ = some (.int .u32 y1) ∧ w'.cell? ⟨q1, 2, none⟩ = some (.string (strOf y2)) ∧ w'.cell? ⟨q1, 3, none⟩ = some (.bool false) ∧ w'.cell? ⟨q1, 4, none⟩ = some (.int .u32 y4)) (by kernel_rfl) (KP.out _ (Only.refl _ _).drew) (fun hHeld => ?_)
      refine held_take 0 (.slice (some ⟨g, o, none⟩) l.length c) rfl (by kernel_rfl) (by kernel_rfl) (by kernel_rfl) (fun _ _ _ h => h) hHeld (Or.inl ⟨by rfl, fun w' hSw => by (try dsimp only at hSw); (try subst hSw); go_simp⟩) ?_
      simp only [Act.put, List.setIfInBounds_toArray, List.set_cons_zero, List.set_cons_succ]
      refine held_take 1 (.int .i64 k) rfl (by kernel_rfl) (by kernel_rfl) (by kernel_rfl) (fun _ _ _ h => h) hHeld (Or.inl ⟨by rfl, fun w' hSw => by (try dsimp only at hSw); (try subst hSw); go_simp⟩) ?_
      simp only [Act.put, List.setIfInBounds_toArray, List.set_cons_zero, List.set_cons_succ]
      refine held_take 3 (.agg #[.int .u32 y0, .int .u32 y1, .string (strOf y2), .bool false, .int .u32 y4]) rfl (by kernel_rfl) (by kernel_rfl) (by kernel_rfl) (fun _ _ _ h => h) hHeld (Or.inl ⟨by rfl, fun w' hSw => by (try dsimp only at hSw); (try subst hSw); go_simp⟩) ?_
      simp only [Act.put, List.setIfInBounds_toArray, List.set_cons_zero, List.set_cons_succ]
      have hk9 := hk2.drew
      have b9 : Bx w4.drew w.heap.size zeroN := b3.kept (Only.refl [] w4).drew (by simp)
      refine held_step 2 rfl (by kernel_rfl) (fun K hK => ?_)
      go_simp
      refine (hWo.out _ hk9).mono ?_; rintro e wd ⟨vd, rfl, hmd⟩
      go_wp2_with fail
      refine hK.out _ _ (KP.out _ ((Only.refl _ _).drew.trans hmd.only)) (fun hHeld => ?_)
      clear hK K
      have b11 : Bx wd w.heap.size zeroN := b9.kept hmd.only (by simp)
      refine held_take 4 (vd) rfl (by kernel_rfl) (by kernel_rfl) (by kernel_rfl) (fun _ _ _ h => h) hHeld (Or.inl ⟨by rfl, fun w' hSw => by (try dsimp only at hSw); (try subst hSw); go_simp⟩) ?_
      simp only [Act.put, List.setIfInBounds_toArray, List.set_cons_zero, List.set_cons_succ]
      refine held_step 5 rfl (by kernel_rfl) (fun K hK => ?_)
      rw [if_pos (by rfl)]
      refine wp_store_nd ⟨y0, y1, y2, false, y4⟩ zeroN _ _ rfl w.heap.size rfl rfl b11 ?_
      intro w5 b5 k5
      refine hK.out _ _ (KQ.out _ (((Only.refl [w.heap.size] w4).drew.then hmd.only (by simp)).trans k5)) (fun hHeld => ?_)
      clear hK K
      simp only [Act.put]
      refine held_take 6 (.int .i64 0) rfl (by kernel_rfl) (by kernel_rfl) (by kernel_rfl) (fun _ _ _ h => h) hHeld (Or.inl ⟨by rfl, fun w' hSw => by (try dsimp only at hSw); (try subst hSw); go_simp⟩) ?_
      simp only [Act.put, List.setIfInBounds_toArray, List.set_cons_zero, List.set_cons_succ]
      refine wpAnyH_done (by kernel_rfl) ?_ _
      clear hHeld
      have hmf := Mine.from hk9 hmd
      have hms : Mine ndE 5 28 w w5 vd (l.take k ++ l.drop (k + 1)) := by
        refine ⟨ownsRow_kept' hmf.own k5 (fun g hg => ?_), hmf.new, hmf.only.at0 k5 (Nat.le_refl _)⟩
        have := hmd.new g hg
        have := b9.lt
        simp
        omega
      have hr' := hr.out
      subst hr'
      replace hms := Lib.hid hms
      clear hmf hmd
      go_wp2
      refine bodyPost_ret (v := .tuple #[vd, ndV ⟨y0, y1, y2, false, y4⟩, .int .i64 0]) (results_ndm rfl _ _ w.heap.size rfl _ b5 _ _ rfl rfl) rfl ?_
      exact ⟨_, rfl, hms.out⟩
  | true =>
    rw [if_pos rfl] at hkr
    cases y3 with
    | false =>
      rw [if_pos rfl] at hkr
      subst hkr
      have hr : R = ([], zeroN, 10) := by rw [hR2.out, if_pos (by decide)]
      subst hr
      go_wp2_with (refine wpList_store_nd zeroN zeroN rfl _ _ rfl w.heap.size rfl rfl b3 ?_; intro w5 b5 k5)
      refine bodyPost_ret (v := .tuple #[.slice none 0 0, ndV zeroN, .int .i64 10]) (results_ndm rfl _ _ w.heap.size rfl _ b5 _ _ rfl rfl) rfl ?_
      exact ⟨_, rfl, Mine.start _ _ _ (hk2.at0 k5 (Nat.le_refl _))⟩
    | true =>
      rw [if_neg (by simp)] at hkr
      go_wp2_with fail
      refine (hKs.out _ hk2).mono ?_; rintro e w3 ⟨rfl, k3⟩
      have hk3 := hk2.trans k3
      have b4 : Bx w3 w.heap.size zeroN := b3.kept k3 (by simp)
      have bn3 : Bx w3 w1.heap.size ⟨y0, y1, y2, true, y4⟩ := bn.kept k3 (by simp)
      clear b3 bn hk2
      by_cases hkn : 0 < kn
      · rw [if_pos hkn] at hkr
        subst hkr
        have hr : R = ([], zeroN, 24) := by rw [hR2.out, if_pos (by decide)]
        subst hr
        have hknI : (0 : Int) < (kn : Int) := by omega
        go_wp2_with (refine wpList_store_nd zeroN zeroN rfl _ _ rfl w.heap.size rfl rfl b4 ?_; intro w5 b5 k5)
        refine bodyPost_ret (v := .tuple #[.slice none 0 0, ndV zeroN, .int .i64 24]) (results_ndm rfl _ _ w.heap.size rfl _ b5 _ _ rfl rfl) rfl ?_
        exact ⟨_, rfl, Mine.start _ _ _ (hk3.at0 k5 (Nat.le_refl _))⟩
      · rw [if_neg hkn] at hkr
        subst hkr
        have hr := Lib.hid (hR2.out.trans (if_neg (by decide)))
        have hknI : ¬ (0 : Int) < (kn : Int) := by omega
        have hknb : decide ((0 : Int) < (kn : Int)) = false := decide_eq_false hknI
        obtain ⟨z0, z1, z2, z3, z4⟩ := bn3.cells
        try simp only at z0 z1 z2 z3 z4
        go_wp2_with fail
        clear z0 z1 z2 z3 z4
        obtain ⟨w4, hw4⟩ : ∃ w4, w4 = w3 := ⟨_, rfl⟩
        subst hw4
        generalize w1.heap.size = q1 at *
        have KP : Hid (∀ w', Only [] w4 w' → w'.cell? ⟨q1, 0, none⟩ = some (.int .u32 y0) ∧ w'.cell? ⟨q1, 1, none⟩ = some (.int .u32 y1) ∧ w'.cell? ⟨q1, 2, none⟩ = some (.string (strOf y2)) ∧ w'.cell? ⟨q1, 3, none⟩ = some (.bool true) ∧ w'.cell? ⟨q1, 4, none⟩ = some (.int .u32 y4)) := fun w' kk => (bn3.kept kk (by simp)).cells
        have KQ : Hid (∀ w', Only [w.heap.size] w4 w' → w'.cell? ⟨q1, 0, none⟩ = some (.int .u32 y0) ∧ w'.cell? ⟨q1, 1, none⟩ = some (.int .u32 y1) ∧ w'.cell? ⟨q1, 2, none⟩ = some (.string (strOf y2)) ∧ w'.cell? ⟨q1, 3, none⟩ = some (.bool true) ∧ w'.cell? ⟨q1, 4, none⟩ = some (.int .u32 y4)) := fun w' kk => (bn3.kept kk (by simp; omega)).cells
        clear bn3
        refine wp_region_held_drew (S := fun w' => w'.cell? ⟨q1, 0, none⟩ = some (.int .u32 y0) ∧ w'.cell? ⟨q1, 1, none⟩ = some (.int .u32 y1) ∧ w'.cell? ⟨q1, 2, none⟩ = some (.string (strOf y2)) ∧ w'.cell? ⟨q1, 3, none⟩ = some (.bool true) ∧ w'.cell? ⟨q1, 4, none⟩ = some (.int .u32 y4)) (by kernel_rfl) (KP.out _ (Only.refl _ _).drew) (fun hHeld => ?_)
        refine held_take 0 (.slice (some ⟨g, o, none⟩) l.length c) rfl (by kernel_rfl) (by kernel_rfl) (by kernel_rfl) (fun _ _ _ h => h) hHeld (Or.inl ⟨by rfl, fun w' hSw => by (try dsimp only at hSw); (try subst hSw); go_simp⟩) ?_
        simp only [Act.put, List.setIfInBounds_toArray, List.set_cons_zero, List.set_cons_succ]
        refine held_take 1 (.int .i64 k) rfl (by kernel_rfl) (by kernel_rfl) (by kernel_rfl) (fun _ _ _ h => h) hHeld (Or.inl ⟨by rfl, fun w' hSw => by (try dsimp only at hSw); (try subst hSw); go_simp⟩) ?_
        simp only [Act.put, List.setIfInBounds_toArray, List.set_cons_zero, List.set_cons_succ]
        refine held_take 3 (.agg #[.int .u32 y0, .int .u32 y1, .string (strOf y2), .bool true, .int .u32 y4]) rfl (by kernel_rfl) (by kernel_rfl) (by kernel_rfl) (fun _ _ _ h => h) hHeld (Or.inl ⟨by rfl, fun w' hSw => by (try dsimp only at hSw); (try subst hSw); go_simp⟩) ?_
        simp only [Act.put, List.setIfInBounds_toArray, List.set_cons_zero, List.set_cons_succ]
        have hk9 := hk3.drew
        have b9 : Bx w4.drew w.heap.size zeroN := b4.kept (Only.refl [] w4).drew (by simp)
        refine held_step 2 rfl (by kernel_rfl) (fun K hK => ?_)
        go_simp
        refine (hWo.out _ hk9).mono ?_; rintro e wd ⟨vd, rfl, hmd⟩
        go_wp2_with fail
        refine hK.out _ _ (KP.out _ ((Only.refl _ _).drew.trans hmd.only)) (fun hHeld => ?_)
        clear hK K
        have b11 : Bx wd w.heap.size zeroN := b9.kept hmd.only (by simp)
        refine held_take 4 (vd) rfl (by kernel_rfl) (by kernel_rfl) (by kernel_rfl) (fun _ _ _ h => h) hHeld (Or.inl ⟨by rfl, fun w' hSw => by (try dsimp only at hSw); (try subst hSw); go_simp⟩) ?_
        simp only [Act.put, List.setIfInBounds_toArray, List.set_cons_zero, List.set_cons_succ]
        refine held_step 5 rfl (by kernel_rfl) (fun K hK => ?_)
        rw [if_pos (by rfl)]
        refine wp_store_nd ⟨y0, y1, y2, true, y4⟩ zeroN _ _ rfl w.heap.size rfl rfl b11 ?_
        intro w5 b5 k5
        refine hK.out _ _ (KQ.out _ (((Only.refl [w.heap.size] w4).drew.then hmd.only (by simp)).trans k5)) (fun hHeld => ?_)
        clear hK K
        simp only [Act.put]
        refine held_take 6 (.int .i64 0) rfl (by kernel_rfl) (by kernel_rfl) (by kernel_rfl) (fun _ _ _ h => h) hHeld (Or.inl ⟨by rfl, fun w' hSw => by (try dsimp only at hSw); (try subst hSw); go_simp⟩) ?_
        simp only [Act.put, List.setIfInBounds_toArray, List.set_cons_zero, List.set_cons_succ]
        refine wpAnyH_done (by kernel_rfl) ?_ _
        clear hHeld
        have hmf := Mine.from hk9 hmd
        have hms : Mine ndE 5 28 w w5 vd (l.take k ++ l.drop (k + 1)) := by
          refine ⟨ownsRow_kept' hmf.own k5 (fun g hg => ?_), hmf.new, hmf.only.at0 k5 (Nat.le_refl _)⟩
          have := hmd.new g hg
          have := b9.lt
          simp
          omega
        have hr' := hr.out
        subst hr'
        replace hms := Lib.hid hms
        clear hmf hmd
        go_wp2
        refine bodyPost_ret (v := .tuple #[vd, ndV ⟨y0, y1, y2, true, y4⟩, .int .i64 0]) (results_ndm rfl _ _ w.heap.size rfl _ b5 _ _ rfl rfl) rfl ?_
        exact ⟨_, rfl, hms.out⟩
end Go.Proofs.YteiekfccfddmjaaDoor
