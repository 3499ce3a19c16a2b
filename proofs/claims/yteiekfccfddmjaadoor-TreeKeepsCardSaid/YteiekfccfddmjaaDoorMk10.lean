/- Make, by the program. -/
import Derived.Test.YteiekfccfddmjaaDoorIns10
import Derived.Test.YteiekfccfddmjaaDoorFind11
namespace Go.Proofs.YteiekfccfddmjaaDoor
open Go.RowKit

/-- What is answered: a list of the call's own, and a word. -/
def PairAns (w w' : World) (e : Ending) (l : List Nd) (x : Value) : Prop := ∃ v, e = .returned (.tuple #[v, x]) ∧ Mine ndE 5 28 w w' v l
theorem PairAns.no {w w' : World} {x : Value} (h : Only [] w w') : PairAns w w' (.returned (.tuple #[.slice none 0 0, x])) [] x := ⟨_, rfl, Mine.start _ _ _ h⟩
/-- The tree with one more. -/
def makeR (t : List Nd) (p : List UInt8) (id : Int) (dir : Bool) : List Nd × Int :=
  if errOf t p ≠ 0 then ([], errOf t p) else
  if (spotR t (namesOf t p)).2.2 ≠ 0 then ([], (spotR t (namesOf t p)).2.2) else
  if (kidN t (spotR t (namesOf t p)).1.id (spotR t (namesOf t p)).2.1).isSome = true then ([], 8) else
  if t.length = 40 ∨ 12 ≤ kidsN t (spotR t (namesOf t p)).1.id then ([], 16) else
  if id ≤ 1 ∨ (getI t id).isSome = true then ([], 1) else
  (t.take (posN t id) ++ ⟨id, (spotR t (namesOf t p)).1.id, (spotR t (namesOf t p)).2.1, dir, 0⟩ :: t.drop (posN t id), 0)

set_option maxRecDepth 100000 in
set_option maxHeartbeats 8000000 in
theorem make_any (w : World) (A : Option Addr) (c : Nat) (l : List Nd) (p : List UInt8) (id : Int) (dir : Bool) (hb : Els ndE 5 w A l) (hc : l.length ≤ c) (hl : l.length ≤ 1000) (hp : p.length ≤ 1048576) :
    Calls Tryd.prog 24 #[.slice A l.length c, .string (strOf p), .int .u32 id, .bool dir] w fun e w' => PairAns w w' e (makeR l p id dir).1 (.int .i64 (makeR l p id dir).2) := by
  have hlI : (l.length : Int) ≤ 1000 := by omega
  have hC := checked_any w A c l p hb hc (by omega) hp
  have hnl := namesOf_le l p
  obtain ⟨R, hR⟩ : ∃ R, R = makeR l p id dir := ⟨_, rfl⟩
  rw [← hR]
  unfold makeR at hR
  have hET : errOf l p = 0 → Tree l := fun h => (errOf_tree h).1
  have hSp := fun W B d (k : Only [] w W) (h : errOf l p = 0) hB hd => spot_any W A B c d l (namesOf l p) (hb.kept k (by simp)) (by omega) (hET h).get0 hB (by omega) hd
  generalize errOf l p = er at *
  generalize namesOf l p = ns at *
  have hKd := fun W (k : Only [] w W) i s => child_any W A c l i s (hb.kept k (by simp)) (by omega)
  have hFl := fun W (k : Only [] w W) i => full_any W A c l i (hb.kept k (by simp)) (by omega)
  have hPl := fun W (k : Only [] w W) (h : er = 0) i => place_any W A c l i (hb.kept k (by simp)) (hET h).rise (by omega)
  have hCl := fun W (k : Only [] w W) (h : er = 0) => clone_any W A c l (hb.kept k (by simp)) hl (fun q => by have := (hET h).head; rw [q] at this; cases this)
  have hne0 : er = 0 → l ≠ [] := fun h q => by have := (hET h).head; rw [q] at this; cases this
  have hpos := posN_le l id
  generalize hS : spotR l ns = S at *
  obtain ⟨⟨d0, d1, d2, d3, d4⟩, nm, es⟩ := S
  simp only at hR hSp
  replace hC := Lib.hid hC
  replace hR := Lib.hid hR
  replace hSp := Lib.hid hSp
  replace hKd := Lib.hid hKd
  replace hFl := Lib.hid hFl
  replace hPl := Lib.hid hPl
  replace hCl := Lib.hid hCl
  replace hET := Lib.hid hET
  replace hne0 := Lib.hid hne0
  replace hS := Lib.hid hS
  have hyv : ndV ⟨d0, d1, d2, d3, d4⟩ = .agg #[.int .u32 d0, .int .u32 d1, .string (strOf d2), .bool d3, .int .u32 d4] := rfl
  go_enter Tryd.func24, Tryd.ntmps24
  go_wp2_with fail
  refine hC.out.mono ?_; rintro e w1 ⟨B, d, rfl, h1, h2, k1⟩
  by_cases he : er = 0
  rotate_left
  · have hr : R = ([], er) := by rw [hR.out, if_pos he]
    have heb : (er != 0) = true := by simpa using he
    subst hr
    go_wp2
    go_ret2
    exact PairAns.no k1
  subst he
  go_wp2_with fail
  refine (hSp.out _ _ _ k1 (by trivial) h2 h1).mono ?_; rintro e w2 ⟨rfl, k2⟩
  have hk2 := k1.trans k2
  rw [hyv]
  by_cases he : es = 0
  rotate_left
  · have hr : R = ([], es) := by rw [hR.out, if_neg (by simp), if_pos he]
    have heb : (es != 0) = true := by simpa using he
    subst hr
    go_wp2
    go_ret2
    exact PairAns.no (hk2.alloc _)
  subst he
  have b3 := Bx.new w2 ⟨d0, d1, d2, d3, d4⟩
  simp only at b3
  have hk3 := hk2.alloc (.cells #[.int .u32 d0, .int .u32 d1, .string (strOf d2), .bool d3, .int .u32 d4] 28)
  have hg2 : w.heap.size ≤ w2.heap.size := hk2.size
  go_wp2_with fail
  refine (hKd.out _ hk3 d0 nm).mono ?_; rintro e w4 ⟨rfl, k4⟩
  have hk4 := hk3.trans k4
  have b4 : Bx w4 w2.heap.size ⟨d0, d1, d2, d3, d4⟩ := b3.kept k4 (by simp)
  generalize hq2 : w2.heap.size = g2 at *
  clear b3 hk3 k4
  obtain ⟨z0, z1, z2, z3, z4, hz⟩ := nd_vals ((kidN l d0 nm).getD zeroN)
  rw [hz]
  replace hz := Lib.hid hz
  cases hkid : kidN l d0 nm with
  | some y =>
    have hr : R = ([], 8) := by rw [hR.out, if_neg (by simp), if_neg (by simp), if_pos (by rw [hkid]; rfl)]
    subst hr
    simp only [Option.isSome_some]
    go_wp2
    go_ret2
    exact PairAns.no (hk4.alloc _)
  | none =>
  simp only [Option.isSome_none]
  have b5 := b4.alloc (.cells #[.int .u32 z0, .int .u32 z1, .string z2, .bool z3, .int .u32 z4] 28)
  have hk5 := hk4.alloc (.cells #[.int .u32 z0, .int .u32 z1, .string z2, .bool z3, .int .u32 z4] 28)
  obtain ⟨c0, c1, c2, c3, c4⟩ := b5.cells
  replace hkid := Lib.hid hkid
  by_cases h40 : l.length = 40
  · have hr : R = ([], 16) := by rw [hR.out, if_neg (by simp), if_neg (by simp), if_neg (by rw [hkid.out]; simp), if_pos (.inl h40)]
    have h40b : ((l.length : Int) == 40) = true := by simp [h40]
    subst hr
    go_wp2
    go_ret2
    exact PairAns.no hk5
  have h40b : ((l.length : Int) == 40) = false := by rw [beq_eq_false_iff_ne]; omega
  go_wp2_with fail
  refine (hFl.out _ hk5 d0).mono ?_; rintro e w6 ⟨rfl, k6⟩
  have hk6 := hk5.trans k6
  have b6 : Bx w6 g2 ⟨d0, d1, d2, d3, d4⟩ := b5.kept k6 (by simp)
  clear b5 b4 c0 c1 c2 c3 c4 hk4 hk5 k6
  by_cases h12 : 12 ≤ kidsN l d0
  · have hr : R = ([], 16) := by rw [hR.out, if_neg (by simp), if_neg (by simp), if_neg (by rw [hkid.out]; simp), if_pos (.inr h12)]
    have h12b : decide (12 ≤ kidsN l d0) = true := decide_eq_true h12
    subst hr
    rw [h12b]
    go_wp2
    go_ret2
    exact PairAns.no hk6
  have h12b : decide (12 ≤ kidsN l d0) = false := decide_eq_false h12
  rw [h12b]
  replace h12 := Lib.hid h12
  replace h12b := Lib.hid h12b
  go_wp2_with fail
  refine (hPl.out _ hk6 (by trivial) id).mono ?_; rintro e w7 ⟨rfl, k7⟩
  have hk7 := hk6.trans k7
  have b7 : Bx w7 g2 ⟨d0, d1, d2, d3, d4⟩ := b6.kept k7 (by simp)
  clear b6 hk6 k7
  by_cases hid1 : id ≤ 1
  · have hr : R = ([], 1) := by rw [hR.out, if_neg (by simp), if_neg (by simp), if_neg (by rw [hkid.out]; simp), if_neg (by intro h; rcases h with h | h; exact h40 h; exact h12.out h), if_pos (.inl hid1)]
    have hidb : decide (id ≤ 1) = true := decide_eq_true hid1
    subst hr
    go_wp2
    go_ret2
    exact PairAns.no hk7
  have hidb : decide (id ≤ 1) = false := decide_eq_false hid1
  cases hgi : getI l id with
  | some y =>
    have hr : R = ([], 1) := by rw [hR.out, if_neg (by simp), if_neg (by simp), if_neg (by rw [hkid.out]; simp), if_neg (by intro h; rcases h with h | h; exact h40 h; exact h12.out h), if_pos (.inr (by rw [hgi]; rfl))]
    subst hr
    simp only [Option.isSome_some]
    go_wp2
    go_ret2
    exact PairAns.no hk7
  | none =>
  have hr : Hid (R = (l.take (posN l id) ++ ⟨id, d0, nm, dir, 0⟩ :: l.drop (posN l id), 0)) := by rw [hR.out, if_neg (by simp), if_neg (by simp), if_neg (by rw [hkid.out]; simp), if_neg (by intro h; rcases h with h | h; exact h40 h; exact h12.out h), if_neg (by intro h; rcases h with h | h; exact hid1 h; rw [hgi] at h; cases h)]; exact rfl
  simp only [Option.isSome_none]
  replace hgi := Lib.hid hgi
  obtain ⟨c0, c1, c2, c3, c4⟩ := b7.cells
  have bn := Bx.new w7 ⟨id, d0, nm, dir, 0⟩
  simp only at bn
  have hk8 := hk7.alloc (.cells #[.int .u32 id, .int .u32 d0, .string (strOf nm), .bool dir, .int .u32 0] 28)
  generalize posN l id = po at *
  go_wp2_with fail
  generalize (w7.alloc (.cells #[.int .u32 id, .int .u32 d0, .string (strOf nm), .bool dir, .int .u32 0] 28)) = w8 at *
  generalize w7.heap.size = g7 at *
  have KP : Hid (∀ w', Only [] w8 w' → w'.cell? ⟨g7, 0, none⟩ = some (.int .u32 id) ∧ w'.cell? ⟨g7, 1, none⟩ = some (.int .u32 d0) ∧ w'.cell? ⟨g7, 2, none⟩ = some (.string (strOf nm)) ∧ w'.cell? ⟨g7, 3, none⟩ = some (.bool dir) ∧ w'.cell? ⟨g7, 4, none⟩ = some (.int .u32 0)) := fun w' kk => (bn.kept kk (by simp)).cells
  clear c0 c1 c2 c3 c4 b7 hk7 bn
  refine wp_region_held_drew (S := fun w' => w'.cell? ⟨g7, 0, none⟩ = some (.int .u32 id) ∧ w'.cell? ⟨g7, 1, none⟩ = some (.int .u32 d0) ∧ w'.cell? ⟨g7, 2, none⟩ = some (.string (strOf nm)) ∧ w'.cell? ⟨g7, 3, none⟩ = some (.bool dir) ∧ w'.cell? ⟨g7, 4, none⟩ = some (.int .u32 0)) (by kernel_rfl) (KP.out _ (Only.refl _ _).drew) (fun hHeld => ?_)
  refine held_take 0 (.slice A l.length c) rfl (by kernel_rfl) (by kernel_rfl) (by kernel_rfl) (fun _ _ _ h => h) hHeld (Or.inl ⟨by rfl, fun w' hSw => by (try dsimp only at hSw); (try subst hSw); go_simp⟩) ?_
  simp only [Act.put, List.setIfInBounds_toArray, List.set_cons_zero, List.set_cons_succ]
  refine held_take 2 (.int .i64 po) rfl (by kernel_rfl) (by kernel_rfl) (by kernel_rfl) (fun _ _ _ h => h) hHeld (Or.inl ⟨by rfl, fun w' hSw => by (try dsimp only at hSw); (try subst hSw); go_simp⟩) ?_
  simp only [Act.put, List.setIfInBounds_toArray, List.set_cons_zero, List.set_cons_succ]
  refine held_take 3 (.agg #[.int .u32 id, .int .u32 d0, .string (strOf nm), .bool dir, .int .u32 0]) rfl (by kernel_rfl) (by kernel_rfl) (by kernel_rfl) (fun _ _ _ h => h) hHeld (Or.inl ⟨by rfl, fun w' hSw => by (try dsimp only at hSw); (try subst hSw); go_simp⟩) ?_
  simp only [Act.put, List.setIfInBounds_toArray, List.set_cons_zero, List.set_cons_succ]
  have hk9 := hk8.drew
  refine held_step2 1 4 rfl rfl (by kernel_rfl) (fun K hK => ?_) (fun K hK => ?_)
  · go_simp
    refine (hCl.out _ hk9 (by trivial)).mono ?_; rintro e wc ⟨vc, rfl, hmc⟩
    go_wp2_with fail
    refine hK.out _ _ (KP.out _ ((Only.refl _ _).drew.trans hmc.only)) (fun hHeld => ?_)
    clear hK K
    have bq : Blk (wc.alloc (.cells #[.int .u32 id, .int .u32 d0, .string (strOf nm), .bool dir, .int .u32 0] 28)) wc.heap.size 28 (ndA ⟨id, d0, nm, dir, 0⟩) := Blk.new _ _ _
    have hm9 := hmc.keep ((Only.refl [] wc).alloc (.cells #[.int .u32 id, .int .u32 d0, .string (strOf nm), .bool dir, .int .u32 0] 28))
    have hvq : ∀ g, vc.ownBlock = some g → g ≠ wc.heap.size := fun g hg => by
      obtain ⟨g', c', cur', T', hv', _, hb', _⟩ := hmc.row (hne0.out (by trivial))
      rw [hv'] at hg
      have : g' = g := Option.some.inj hg
      have := hb'.lt
      omega
    have hk10 := hmc.only.alloc (.cells #[.int .u32 id, .int .u32 d0, .string (strOf nm), .bool dir, .int .u32 0] 28)
    refine held_step 4 rfl (by kernel_rfl) (fun K hK => ?_)
    go_simp
    go_wp2_with fail
    refine hK.out _ _ (KP.out _ ((Only.refl _ _).drew.trans hk10)) (fun hHeld => ?_)
    clear hK K
    generalize (wc.alloc (.cells #[.int .u32 id, .int .u32 d0, .string (strOf nm), .bool dir, .int .u32 0] 28)) = w10 at *
    generalize wc.heap.size = gq at *
    refine held_step 5 rfl (by kernel_rfl) (fun K hK => ?_)
    go_simp
    refine (insert_any w8.drew w10 vc l po ⟨id, d0, nm, dir, 0⟩ gq hm9 (hne0.out (by trivial)) hpos hl bq hvq).mono ?_; rintro e wi ⟨vi, rfl, hmi⟩
    go_wp2_with fail
    refine hK.out _ _ (KP.out _ ((Only.refl _ _).drew.trans hmi.only)) (fun hHeld => ?_)
    clear hK K
    refine held_take 6 (vi) rfl (by kernel_rfl) (by kernel_rfl) (by kernel_rfl) (fun _ _ _ h => h) hHeld (Or.inl ⟨by rfl, fun w' hSw => by (try dsimp only at hSw); (try subst hSw); go_simp⟩) ?_
    simp only [Act.put, List.setIfInBounds_toArray, List.set_cons_zero, List.set_cons_succ]
    refine held_take 7 (.int .i64 0) rfl (by kernel_rfl) (by kernel_rfl) (by kernel_rfl) (fun _ _ _ h => h) hHeld (Or.inl ⟨by rfl, fun w' hSw => by (try dsimp only at hSw); (try subst hSw); go_simp⟩) ?_
    simp only [Act.put, List.setIfInBounds_toArray, List.set_cons_zero, List.set_cons_succ]
    refine wpAnyH_done (by kernel_rfl) ?_ _
    clear hHeld
    have hmf := Mine.from hk9 hmi
    have hr' := hr.out
    subst hr'
    replace hmf := Lib.hid hmf
    go_wp2
    go_ret2
    exact ⟨_, rfl, hmf.out⟩
  · go_simp
    have bq0 : Blk (w8.alloc (.cells #[.int .u32 id, .int .u32 d0, .string (strOf nm), .bool dir, .int .u32 0] 28)).drew w8.heap.size 28 (ndA ⟨id, d0, nm, dir, 0⟩) := Blk.new _ _ _
    have hk10 : Only [] w (w8.alloc (.cells #[.int .u32 id, .int .u32 d0, .string (strOf nm), .bool dir, .int .u32 0] 28)).drew := hk9.alloc (.cells #[.int .u32 id, .int .u32 d0, .string (strOf nm), .bool dir, .int .u32 0] 28)
    have hkd : Only [] w8.drew (w8.alloc (.cells #[.int .u32 id, .int .u32 d0, .string (strOf nm), .bool dir, .int .u32 0] 28)).drew := (Only.refl [] w8.drew).alloc (.cells #[.int .u32 id, .int .u32 d0, .string (strOf nm), .bool dir, .int .u32 0] 28)
    have hkz : Only [] w8 (w8.alloc (.cells #[.int .u32 id, .int .u32 d0, .string (strOf nm), .bool dir, .int .u32 0] 28)).drew := ((Only.refl [] w8).alloc (.cells #[.int .u32 id, .int .u32 d0, .string (strOf nm), .bool dir, .int .u32 0] 28)).drew
    go_wp2_with fail
    refine hK.out _ _ (KP.out _ hkz) (fun hHeld => ?_)
    clear hK K
    have hgq : w8.heap.size < (w8.alloc (.cells #[.int .u32 id, .int .u32 d0, .string (strOf nm), .bool dir, .int .u32 0] 28)).drew.heap.size := by simp
    generalize (w8.alloc (.cells #[.int .u32 id, .int .u32 d0, .string (strOf nm), .bool dir, .int .u32 0] 28)).drew = w9 at *
    generalize w8.heap.size = gq at *
    refine held_step 1 rfl (by kernel_rfl) (fun K hK => ?_)
    go_simp
    refine (hCl.out _ hk10 (by trivial)).mono ?_; rintro e wc ⟨vc, rfl, hmc⟩
    have bq : Blk wc gq 28 (ndA ⟨id, d0, nm, dir, 0⟩) := bq0.kept hmc.only (by simp)
    go_wp2_with fail
    refine hK.out _ _ (KP.out _ (hkz.trans hmc.only)) (fun hHeld => ?_)
    clear hK K
    have hvq : ∀ g, vc.ownBlock = some g → g ≠ gq := fun g hg => by have := hmc.new g hg; omega
    have hm9 := Mine.from hkd hmc
    refine held_step 5 rfl (by kernel_rfl) (fun K hK => ?_)
    go_simp
    refine (insert_any w8.drew wc vc l po ⟨id, d0, nm, dir, 0⟩ gq hm9 (hne0.out (by trivial)) hpos hl bq hvq).mono ?_; rintro e wi ⟨vi, rfl, hmi⟩
    go_wp2_with fail
    refine hK.out _ _ (KP.out _ ((Only.refl _ _).drew.trans hmi.only)) (fun hHeld => ?_)
    clear hK K
    refine held_take 6 (vi) rfl (by kernel_rfl) (by kernel_rfl) (by kernel_rfl) (fun _ _ _ h => h) hHeld (Or.inl ⟨by rfl, fun w' hSw => by (try dsimp only at hSw); (try subst hSw); go_simp⟩) ?_
    simp only [Act.put, List.setIfInBounds_toArray, List.set_cons_zero, List.set_cons_succ]
    refine held_take 7 (.int .i64 0) rfl (by kernel_rfl) (by kernel_rfl) (by kernel_rfl) (fun _ _ _ h => h) hHeld (Or.inl ⟨by rfl, fun w' hSw => by (try dsimp only at hSw); (try subst hSw); go_simp⟩) ?_
    simp only [Act.put, List.setIfInBounds_toArray, List.set_cons_zero, List.set_cons_succ]
    refine wpAnyH_done (by kernel_rfl) ?_ _
    clear hHeld
    have hmf := Mine.from hk9 hmi
    have hr' := hr.out
    subst hr'
    replace hmf := Lib.hid hmf
    go_wp2
    go_ret2
    exact ⟨_, rfl, hmf.out⟩
end Go.Proofs.YteiekfccfddmjaaDoor
