/- kept, Remove, by the program. -/
import Derived.Test.YteiekfccfddmjaaDoorRz10
namespace Go.Proofs.YteiekfccfddmjaaDoor
open Go.RowKit

/-- The error by which one can't be removed. -/
def keptR (t : List Nd) (n : Nd) (dir : Bool) : Int :=
  if n.id = 1 then 21 else if dir = true then (if n.dir = false then 10 else if 0 < kidsN t n.id then 24 else 0) else if n.dir = true then 11 else 0
set_option maxHeartbeats 2000000 in
theorem kept_any (w : World) (A : Option Addr) (c : Nat) (l : List Nd) (n : Nd) (dir : Bool) (hb : Els ndE 5 w A l) (hl : l.length ≤ 1048576) :
    Calls Tryd.prog 56 #[.slice A l.length c, ndV n, .bool dir] w fun e w' => e = .returned (.int .i64 (keptR l n dir)) ∧ Only [] w w' := by
  have hC := fun W (k : Only [] w W) i => count_any W A c l i (hb.kept k (by simp)) hl
  obtain ⟨n0, n1, n2, n3, n4⟩ := n
  obtain ⟨R, hR⟩ : ∃ R, R = keptR l ⟨n0, n1, n2, n3, n4⟩ dir := ⟨_, rfl⟩
  rw [← hR]
  unfold keptR at hR
  try simp only at hR
  have hk0 : Only [] w (w.alloc (.cells #[.int .u32 n0, .int .u32 n1, .string (strOf n2), .bool n3, .int .u32 n4] 28)) := (Only.refl [] w).alloc _
  have hyv : ndV ⟨n0, n1, n2, n3, n4⟩ = .agg #[.int .u32 n0, .int .u32 n1, .string (strOf n2), .bool n3, .int .u32 n4] := rfl
  rw [hyv]
  replace hC := Lib.hid hC
  by_cases h1 : n0 = 1
  · rw [if_pos h1] at hR
    subst hR
    have h1b : (n0 == 1) = true := by simpa using h1
    subst h1
    go_enter Tryd.func56, Tryd.ntmps56
    go_wp2
    go_ret
    exact ⟨rfl, hk0⟩
  rw [if_neg h1] at hR
  have h1b : (n0 == 1) = false := by rw [beq_eq_false_iff_ne]; exact h1
  cases dir with
  | false =>
    rw [if_neg (by simp)] at hR
    cases n3 with
    | true =>
      simp only [if_true] at hR
      subst hR
      go_enter Tryd.func56, Tryd.ntmps56
      go_wp2
      go_ret
      exact ⟨rfl, hk0⟩
    | false =>
      rw [if_neg (by simp)] at hR
      subst hR
      go_enter Tryd.func56, Tryd.ntmps56
      go_wp2
      go_ret
      exact ⟨rfl, hk0⟩
  | true =>
    rw [if_pos rfl] at hR
    cases n3 with
    | false =>
      rw [if_pos rfl] at hR
      subst hR
      go_enter Tryd.func56, Tryd.ntmps56
      go_wp2
      go_ret
      exact ⟨rfl, hk0⟩
    | true =>
      rw [if_neg (by simp)] at hR
      by_cases hk : 0 < kidsN l n0
      · rw [if_pos hk] at hR
        subst hR
        have hkI : (0 : Int) < ((kidsN l n0 : Nat) : Int) := by omega
        go_enter Tryd.func56, Tryd.ntmps56
        go_wp2_with fail
        refine (hC.out _ hk0 n0).mono ?_; rintro e w1 ⟨rfl, k1⟩
        go_wp2
        go_ret
        exact ⟨rfl, hk0.trans k1⟩
      · rw [if_neg hk] at hR
        subst hR
        have hkI : ¬ (0 : Int) < ((kidsN l n0 : Nat) : Int) := by omega
        have bz := Bx.new w ⟨n0, n1, n2, true, n4⟩
        simp only at bz
        go_enter Tryd.func56, Tryd.ntmps56
        go_wp2_with fail
        refine (hC.out _ hk0 n0).mono ?_; rintro e w1 ⟨rfl, k1⟩
        have b1 : Bx w1 w.heap.size ⟨n0, n1, n2, true, n4⟩ := bz.kept k1 (by simp)
        obtain ⟨c0, c1, c2, c3, c4⟩ := b1.cells
        clear b1 bz
        go_wp2
        go_ret
        exact ⟨rfl, hk0.trans k1⟩

theorem results_ndm {fn : Func} {p u v : Tmp} (h : fn.results = #[.tmp u, .cell p 28, .tmp v]) (tmps : Array Value) (w : World) (g : Nat) (hp : tmps.getD p undef = .pointer (some ⟨g, 0, none⟩)) (q : Nd) (hb : Blk w g 28 (ndA q)) (x y : Value) (hx : tmps.getD u undef = x) (hy : tmps.getD v undef = y) :
    (results fn tmps).run Tryd.prog w = .ok (.tuple #[x, ndV q, y]) w := by
  subst hx
  subst hy
  have hl := run_loadVar_mid (P := Tryd.prog) w g 0 28 (ndA q).toList _ (Blk.range9 hb) Tryd.underlying28 rfl size_nd
  rw [Array.getD_eq_getD_getElem?] at hp
  unfold results
  rw [h]
  simp [Result.andThen, hp, asAddr, hl, ndV, ndA]
/-- What is answered: a list of the call's own, an inode, and a word. -/
def TripAns (w w' : World) (e : Ending) (l : List Nd) (n : Nd) (x : Value) : Prop := ∃ v, e = .returned (.tuple #[v, ndV n, x]) ∧ Mine ndE 5 28 w w' v l
/-- The tree with one less. -/
def removeR (t : List Nd) (p : List UInt8) (dir : Bool) : List Nd × Nd × Int :=
  if (findR t p).2 ≠ 0 then ([], zeroN, (findR t p).2) else
  if keptR t (findR t p).1 dir ≠ 0 then ([], zeroN, keptR t (findR t p).1 dir) else
  (t.take (posN t (findR t p).1.id) ++ t.drop (posN t (findR t p).1.id + 1), (findR t p).1, 0)
theorem findR_tree {t : List Nd} {p : List UInt8} (h : (findR t p).2 = 0) : Tree t ∧ (findR t p).1 ∈ t ∧ splitL p = some (namesOf t p) ∧ findR t p = walkR t rootN (namesOf t p) := by
  unfold findR at h ⊢
  by_cases he : errOf t p = 0
  · rw [if_pos he] at h ⊢
    have hT := (errOf_tree he).1
    exact ⟨hT, walkR_mem hT _ _ (List.mem_of_getElem? hT.get0) h, (errOf_tree he).2, rfl⟩
  · rw [if_neg he] at h
    exact absurd h he
set_option maxRecDepth 100000 in
set_option maxHeartbeats 4000000 in
theorem remove_any (w : World) (A : Option Addr) (c : Nat) (l : List Nd) (p : List UInt8) (dir : Bool) (hb : Els ndE 5 w A l) (hc : l.length ≤ c) (hl : l.length ≤ 1000) (hp : p.length ≤ 1048576) :
    Calls Tryd.prog 26 #[.slice A l.length c, .string (strOf p), .bool dir] w fun e w' => TripAns w w' e (removeR l p dir).1 (removeR l p dir).2.1 (.int .i64 (removeR l p dir).2.2) := by
  obtain ⟨R, hR⟩ : ∃ R, R = removeR l p dir := ⟨_, rfl⟩
  rw [← hR]
  unfold removeR at hR
  have hF := fun W (k : Only [] w W) => find_any W A c l p (hb.kept k (by simp)) hc (by omega) hp
  have hFT : (findR l p).2 = 0 → Tree l ∧ (findR l p).1 ∈ l := fun h => ⟨(findR_tree h).1, (findR_tree h).2.1⟩
  have hkp := fun W (k : Only [] w W) n => kept_any W A c l n dir (hb.kept k (by simp)) (by omega)
  have bz := Bx.zero w
  have hk0 : Only [] w (w.alloc (.cells #[.int .u32 0, .int .u32 0, .string ⟨#[]⟩, .bool false, .int .u32 0] 28)) := (Only.refl [] w).alloc _
  generalize findR l p = F at *
  obtain ⟨⟨y0, y1, y2, y3, y4⟩, er⟩ := F
  have hyv : ndV ⟨y0, y1, y2, y3, y4⟩ = .agg #[.int .u32 y0, .int .u32 y1, .string (strOf y2), .bool y3, .int .u32 y4] := rfl
  simp only at hR hF hFT
  rw [hyv] at hF
  replace hF := Lib.hid hF
  replace hkp := Lib.hid hkp
  by_cases he : er = 0
  rotate_left
  · rw [if_pos he] at hR
    have heb : (er == 0) = false := by rw [beq_eq_false_iff_ne]; exact he
    have heb' : (er != 0) = true := by simpa using he
    subst hR
    clear hFT hkp
    go_enter Tryd.func26, Tryd.ntmps26
    go_wp2_with fail
    refine (hF.out _ hk0).mono ?_; rintro e w1 ⟨rfl, k1⟩
    have hk1 := hk0.trans k1
    have b2 : Bx (w1.alloc (.cells #[.int .u32 y0, .int .u32 y1, .string (strOf y2), .bool y3, .int .u32 y4] 28)) w.heap.size zeroN := (bz.kept k1 (by simp)).alloc _
    go_wp2_with (refine wpList_store_nd zeroN zeroN rfl _ _ rfl w.heap.size rfl rfl b2 ?_; intro w5 b5 k5)
    refine bodyPost_ret (v := .tuple #[.slice none 0 0, ndV zeroN, .int .i64 er]) (results_ndm rfl _ _ w.heap.size rfl _ b5 _ _ rfl rfl) rfl ?_
    exact ⟨_, rfl, Mine.start _ _ _ ((hk1.alloc _).at0 k5 (Nat.le_refl _))⟩
  subst he
  obtain ⟨hT, hmem⟩ := hFT rfl
  clear hFT
  rw [if_neg (by simp)] at hR
  have hk := fun W (k : Only [] w W) => hkp.out W k ⟨y0, y1, y2, y3, y4⟩
  rw [hyv] at hk
  clear hkp
  generalize keptR l ⟨y0, y1, y2, y3, y4⟩ dir = kr at *
  replace hk := Lib.hid hk
  by_cases her : kr = 0
  rotate_left
  · rw [if_pos her] at hR
    have heb : (kr != 0) = true := by simpa using her
    subst hR
    replace hT := Lib.hid hT
    replace hmem := Lib.hid hmem
    go_enter Tryd.func26, Tryd.ntmps26
    go_wp2_with fail
    refine (hF.out _ hk0).mono ?_; rintro e w1 ⟨rfl, k1⟩
    have hk1 := hk0.trans k1
    have hk2 := hk1.alloc (.cells #[.int .u32 y0, .int .u32 y1, .string (strOf y2), .bool y3, .int .u32 y4] 28)
    have b2 : Bx (w1.alloc (.cells #[.int .u32 y0, .int .u32 y1, .string (strOf y2), .bool y3, .int .u32 y4] 28)) w.heap.size zeroN := (bz.kept k1 (by simp)).alloc _
    go_wp2_with fail
    refine (hk.out _ hk2).mono ?_; rintro e w3 ⟨rfl, k3⟩
    have hk3 := hk2.trans k3
    have b3 : Bx w3 w.heap.size zeroN := b2.kept k3 (by simp)
    go_wp2_with (refine wpList_store_nd zeroN zeroN rfl _ _ rfl w.heap.size rfl rfl b3 ?_; intro w5 b5 k5)
    refine bodyPost_ret (v := .tuple #[.slice none 0 0, ndV zeroN, .int .i64 kr]) (results_ndm rfl _ _ w.heap.size rfl _ b5 _ _ rfl rfl) rfl ?_
    exact ⟨_, rfl, Mine.start _ _ _ (hk3.at0 k5 (Nat.le_refl _))⟩
  subst her
  rw [if_neg (by simp)] at hR
  have hPl := fun W (k : Only [] w W) => place_any W A c l y0 (hb.kept k (by simp)) hT.rise (by omega)
  have hne : l ≠ [] := fun q => by have := hT.head; rw [q] at this; cases this
  have hCl := fun W (k : Only [] w W) => clone_any W A c l (hb.kept k (by simp)) hl hne
  have hgi : getI l y0 = some ⟨y0, y1, y2, y3, y4⟩ := hT.get hmem
  have hpos := (List.getElem?_eq_some_iff.1 (getI_pos hT.rise hgi)).1
  rw [hgi] at hPl
  simp only [Option.isSome_some] at hPl
  try simp only at hR
  generalize posN l y0 = po at *
  have hpo5 : (po : Int) ≤ 1000 := by omega
  have hwr : IntKind.i64.wrap ((po : Int) + 1) = (po : Int) + 1 := wrap_one po (by omega)
  replace hPl := Lib.hid hPl
  replace hCl := Lib.hid hCl
  replace hgi := Lib.hid hgi
  replace hT := Lib.hid hT
  replace hmem := Lib.hid hmem
  replace hR := Lib.hid hR
  clear hne
  go_enter Tryd.func26, Tryd.ntmps26
  go_wp2_with fail
  refine (hF.out _ hk0).mono ?_; rintro e w1 ⟨rfl, k1⟩
  have hk1 := hk0.trans k1
  have hk2 := hk1.alloc (.cells #[.int .u32 y0, .int .u32 y1, .string (strOf y2), .bool y3, .int .u32 y4] 28)
  have b2 : Bx (w1.alloc (.cells #[.int .u32 y0, .int .u32 y1, .string (strOf y2), .bool y3, .int .u32 y4] 28)) w.heap.size zeroN := (bz.kept k1 (by simp)).alloc _
  have bn := Bx.new w1 ⟨y0, y1, y2, y3, y4⟩
  have hne2 : w.heap.size < w1.heap.size := Nat.lt_of_lt_of_le (by simp) k1.size
  go_wp2_with fail
  refine (hk.out _ hk2).mono ?_; rintro e w3 ⟨rfl, k3⟩
  have hk3 := hk2.trans k3
  have b3 : Bx w3 w.heap.size zeroN := b2.kept k3 (by simp)
  have bn3 : Bx w3 w1.heap.size ⟨y0, y1, y2, y3, y4⟩ := bn.kept k3 (by simp)
  clear bn b2 bz
  generalize w1.heap.size = q1 at *
  obtain ⟨c0, c1, c2, c3, c4⟩ := bn3.cells
  go_wp2_with fail
  refine (hPl.out _ hk3).mono ?_; rintro e w4 ⟨rfl, k4⟩
  have hk4 := hk3.trans k4
  have b4 : Bx w4 w.heap.size zeroN := b3.kept k4 (by simp)
  have bn4 : Bx w4 q1 ⟨y0, y1, y2, y3, y4⟩ := bn3.kept k4 (by simp)
  clear c0 c1 c2 c3 c4 b3 bn3
  go_wp2_with fail
  have KP : Hid (∀ w', Only [] w4 w' → w'.cell? ⟨q1, 0, none⟩ = some (.int .u32 y0) ∧ w'.cell? ⟨q1, 1, none⟩ = some (.int .u32 y1) ∧ w'.cell? ⟨q1, 2, none⟩ = some (.string (strOf y2)) ∧ w'.cell? ⟨q1, 3, none⟩ = some (.bool y3) ∧ w'.cell? ⟨q1, 4, none⟩ = some (.int .u32 y4)) := fun w' kk => (bn4.kept kk (by simp)).cells
  have KQ : Hid (∀ w', Only [w.heap.size] w4 w' → w'.cell? ⟨q1, 0, none⟩ = some (.int .u32 y0) ∧ w'.cell? ⟨q1, 1, none⟩ = some (.int .u32 y1) ∧ w'.cell? ⟨q1, 2, none⟩ = some (.string (strOf y2)) ∧ w'.cell? ⟨q1, 3, none⟩ = some (.bool y3) ∧ w'.cell? ⟨q1, 4, none⟩ = some (.int .u32 y4)) := fun w' kk => (bn4.kept kk (by simp; omega)).cells
  clear bn4
  refine wp_region_held_drew (S := fun w' => w'.cell? ⟨q1, 0, none⟩ = some (.int .u32 y0) ∧ w'.cell? ⟨q1, 1, none⟩ = some (.int .u32 y1) ∧ w'.cell? ⟨q1, 2, none⟩ = some (.string (strOf y2)) ∧ w'.cell? ⟨q1, 3, none⟩ = some (.bool y3) ∧ w'.cell? ⟨q1, 4, none⟩ = some (.int .u32 y4)) (by kernel_rfl) (KP.out _ (Only.refl _ _).drew) (fun hHeld => ?_)
  refine held_take 0 (.slice A l.length c) rfl (by kernel_rfl) (by kernel_rfl) (by kernel_rfl) (fun _ _ _ h => h) hHeld (Or.inl ⟨by rfl, fun w' hSw => by (try dsimp only at hSw); (try subst hSw); go_simp⟩) ?_
  simp only [Act.put, List.setIfInBounds_toArray, List.set_cons_zero, List.set_cons_succ]
  refine held_take 2 (.int .i64 po) rfl (by kernel_rfl) (by kernel_rfl) (by kernel_rfl) (fun _ _ _ h => h) hHeld (Or.inl ⟨by rfl, fun w' hSw => by (try dsimp only at hSw); (try subst hSw); go_simp⟩) ?_
  simp only [Act.put, List.setIfInBounds_toArray, List.set_cons_zero, List.set_cons_succ]
  refine held_take 3 (.int .i64 po) rfl (by kernel_rfl) (by kernel_rfl) (by kernel_rfl) (fun _ _ _ h => h) hHeld (Or.inl ⟨by rfl, fun w' hSw => by (try dsimp only at hSw); (try subst hSw); go_simp⟩) ?_
  simp only [Act.put, List.setIfInBounds_toArray, List.set_cons_zero, List.set_cons_succ]
  refine held_take 4 (.int .i64 ((po : Int) + 1)) rfl (by kernel_rfl) (by kernel_rfl) (by kernel_rfl) (fun _ _ _ h => h) hHeld (Or.inl ⟨by rfl, fun w' hSw => by (try dsimp only at hSw); (try subst hSw); go_simp⟩) ?_
  simp only [Act.put, List.setIfInBounds_toArray, List.set_cons_zero, List.set_cons_succ]
  refine held_take 6 (.agg #[.int .u32 y0, .int .u32 y1, .string (strOf y2), .bool y3, .int .u32 y4]) rfl (by kernel_rfl) (by kernel_rfl) (by kernel_rfl) (fun _ _ _ h => h) hHeld (Or.inl ⟨by rfl, fun w' hSw => by (try dsimp only at hSw); (try subst hSw); go_simp⟩) ?_
  simp only [Act.put, List.setIfInBounds_toArray, List.set_cons_zero, List.set_cons_succ]
  have hk9 := hk4.drew
  have b9 : Bx w4.drew w.heap.size zeroN := b4.kept (Only.refl [] w4).drew (by simp)
  refine held_step 1 rfl (by kernel_rfl) (fun K hK => ?_)
  go_simp
  refine (hCl.out _ hk9).mono ?_; rintro e wc ⟨vc, rfl, hmc⟩
  go_wp2_with fail
  refine hK.out _ _ (KP.out _ ((Only.refl _ _).drew.trans hmc.only)) (fun hHeld => ?_)
  clear hK K
  have b10 : Bx wc w.heap.size zeroN := b9.kept hmc.only (by simp)
  refine held_step 5 rfl (by kernel_rfl) (fun K hK => ?_)
  go_simp
  refine (delete_any w4.drew wc vc l po hmc hpos hl).mono ?_; rintro e wd ⟨vd, rfl, hmd⟩
  go_wp2_with fail
  refine hK.out _ _ (KP.out _ ((Only.refl _ _).drew.trans hmd.only)) (fun hHeld => ?_)
  clear hK K
  have b11 : Bx wd w.heap.size zeroN := b9.kept hmd.only (by simp)
  refine held_take 7 (vd) rfl (by kernel_rfl) (by kernel_rfl) (by kernel_rfl) (fun _ _ _ h => h) hHeld (Or.inl ⟨by rfl, fun w' hSw => by (try dsimp only at hSw); (try subst hSw); go_simp⟩) ?_
  simp only [Act.put, List.setIfInBounds_toArray, List.set_cons_zero, List.set_cons_succ]
  refine held_step 8 rfl (by kernel_rfl) (fun K hK => ?_)
  rw [if_pos (by rfl)]
  refine wp_store_nd ⟨y0, y1, y2, y3, y4⟩ zeroN _ _ rfl w.heap.size rfl rfl b11 ?_
  intro w5 b5 k5
  refine hK.out _ _ (KQ.out _ (((Only.refl [w.heap.size] w4).drew.then hmd.only (by simp)).trans k5)) (fun hHeld => ?_)
  clear hK K
  simp only [Act.put]
  refine held_take 9 (.int .i64 0) rfl (by kernel_rfl) (by kernel_rfl) (by kernel_rfl) (fun _ _ _ h => h) hHeld (Or.inl ⟨by rfl, fun w' hSw => by (try dsimp only at hSw); (try subst hSw); go_simp⟩) ?_
  simp only [Act.put, List.setIfInBounds_toArray, List.set_cons_zero, List.set_cons_succ]
  refine wpAnyH_done (by kernel_rfl) ?_ _
  clear hHeld
  have hmf := Mine.from hk9 hmd
  have hms : Mine ndE 5 28 w w5 vd (l.take po ++ l.drop (po + 1)) := by
    refine ⟨ownsRow_kept' hmf.own k5 (fun g hg => ?_), hmf.new, hmf.only.at0 k5 (Nat.le_refl _)⟩
    have := hmd.new g hg
    have := b9.lt
    simp
    omega
  have hr' := hR.out
  subst hr'
  replace hms := Lib.hid hms
  clear hmf hmd hmc
  go_wp2
  refine bodyPost_ret (v := .tuple #[vd, ndV ⟨y0, y1, y2, y3, y4⟩, .int .i64 0]) (results_ndm rfl _ _ w.heap.size rfl _ b5 _ _ rfl rfl) rfl ?_
  exact ⟨_, rfl, hms.out⟩
end Go.Proofs.YteiekfccfddmjaaDoor
