/- How two opens stand to each other; an open's place in a list that rises (slices.BinarySearchFunc, walked). -/
import Derived.Test.YthclpefomhakdaaOp11
namespace Go.Proofs.Ythclpefomhakdaa
open Go.RowKit

def cmpI (a b : Int) : Int := if a < b then -1 else if b < a then 1 else 0
theorem nan_any (w : World) (a : Int) : Calls Try.prog 52 #[.int .u32 a] w fun e w' => e = .returned (.bool false) ∧ w' = w := by
  go_enter Try.func52, Try.ntmps52
  go_wp2
  go_ret
  exact ⟨rfl, rfl⟩
theorem cmp_any (w : World) (a b : Int) : Calls Try.prog 46 #[.int .u32 a, .int .u32 b] w fun e w' => e = .returned (.int .i64 (cmpI a b)) ∧ w' = w := by
  unfold cmpI
  by_cases h : a < b
  · rw [if_pos h]
    go_enter Try.func46, Try.ntmps46
    go_wp2_with fail
    refine (nan_any _ _).mono ?_; rintro e w1 ⟨rfl, rfl⟩
    go_wp2_with fail
    refine (nan_any _ _).mono ?_; rintro e w1 ⟨rfl, rfl⟩
    go_wp2
    go_ret
    exact ⟨rfl, rfl⟩
  · rw [if_neg h]
    by_cases h2 : b < a
    · rw [if_pos h2]
      go_enter Try.func46, Try.ntmps46
      go_wp2_with fail
      refine (nan_any _ _).mono ?_; rintro e w1 ⟨rfl, rfl⟩
      go_wp2_with fail
      refine (nan_any _ _).mono ?_; rintro e w1 ⟨rfl, rfl⟩
      go_wp2
      go_ret
      exact ⟨rfl, rfl⟩
    · rw [if_neg h2]
      go_enter Try.func46, Try.ntmps46
      go_wp2_with fail
      refine (nan_any _ _).mono ?_; rintro e w1 ⟨rfl, rfl⟩
      go_wp2_with fail
      refine (nan_any _ _).mono ?_; rintro e w1 ⟨rfl, rfl⟩
      go_wp2
      go_ret
      exact ⟨rfl, rfl⟩

def orL : List Int → Int
  | [] => 0
  | x :: r => if x = 0 then orL r else x
theorem or_any (w : World) (g c : Nat) (xs : List Int) (h : ∀ j (hj : j < xs.length), w.cell? ⟨g, j, none⟩ = some (.int .i64 xs[j])) (hl : xs.length ≤ 100) :
    Calls Try.prog 45 #[.slice (some ⟨g, 0, none⟩) xs.length c] w fun e w' => e = .returned (.int .i64 (orL xs)) ∧ w' = w := by
  obtain ⟨r, hr⟩ : ∃ r, r = orL xs := ⟨_, rfl⟩
  rw [← hr]
  have hs : r = orL (xs.drop 0) := by rw [hr]; rfl
  replace hs := Lib.hid hs
  replace h := Lib.hid h
  clear hr
  go_enter Try.func45, Try.ntmps45
  go_wp2_with fail
  go_loopw [8] (fun i wr => ∃ n : Nat, n ≤ xs.length ∧ i = .int .i64 n ∧ Hid (r = orL (xs.drop n)) ∧ wr = w) (fun i _ => xs.length - (intOf i).toNat)
  case atStart => exact ⟨0, Nat.zero_le _, rfl, hs, rfl⟩
  case round =>
    obtain ⟨n, hn, rfl, hm, rfl⟩ := hrel
    by_cases hlt : n < xs.length
    · have hc := h.out n hlt
      have hd := List.drop_eq_getElem_cons hlt
      generalize xs[n] = x at *
      have hm2 := hm.out
      rw [hd] at hm2
      simp only [orL] at hm2
      replace hd := Lib.hid hd
      by_cases hx : x = 0
      · rw [if_pos hx] at hm2
        subst hx
        replace hm2 := Lib.hid hm2
        go_wp2
        go_roundw
        case rel => exact ⟨n + 1, by omega, by go_num, hm2, by trivial⟩
        case measure => simp [intOf]; omega
      · rw [if_neg hx] at hm2
        subst hm2
        go_wp2
        go_ret
        exact ⟨rfl, rfl⟩
    · have hm2 := hm.out
      rw [List.drop_of_length_le (by omega)] at hm2
      simp only [orL] at hm2
      subst hm2
      go_wp2
      go_ret
      exact ⟨rfl, rfl⟩

def ordI (a b : Opn) : Int := orL [cmpI a.client b.client, cmpI a.handle b.handle]
theorem ordI_lt (a b : Opn) : ordI a b < 0 ↔ keyLt a b := by
  unfold ordI orL orL orL cmpI keyLt
  split <;> split <;> (try split) <;> (try split) <;> omega
theorem ordI_eq (a b : Opn) : ordI a b = 0 ↔ (a.client = b.client ∧ a.handle = b.handle) := by
  unfold ordI orL orL orL cmpI
  split <;> split <;> (try split) <;> (try split) <;> omega
set_option maxRecDepth 100000 in
set_option maxHeartbeats 2000000 in
theorem order_any (w : World) (x y : Opn) : Calls Try.prog 28 #[opV x, opV y] w fun e w' => e = .returned (.int .i64 (ordI x y)) ∧ Only [] w w' := by
  have hor : ∀ (W : World) (g : Nat), Blk W g 3 #[.int .i64 (cmpI x.client y.client), .int .i64 (cmpI x.handle y.handle)] → Calls Try.prog 45 #[.slice (some ⟨g, 0, none⟩) 2 2] W fun e w' => e = .returned (.int .i64 (orL [cmpI x.client y.client, cmpI x.handle y.handle])) ∧ w' = W := fun W g h => or_any W g 2 [cmpI x.client y.client, cmpI x.handle y.handle] (fun j hj => by
    rw [h.cell]
    match j, hj with
    | 0, _ => rfl
    | 1, _ => rfl) (by simp)
  have ho : orL [cmpI x.client y.client, cmpI x.handle y.handle] = ordI x y := rfl
  rw [ho] at hor
  clear ho
  generalize ordI x y = r at *
  obtain ⟨x0, x1, x2, x3, x4⟩ := x
  obtain ⟨y0, y1, y2, y3, y4⟩ := y
  simp only at hor
  have bx := Bx.new w ⟨x0, x1, x2, x3, x4⟩
  have by_ := Bx.new (w.alloc (.cells #[.int .u32 x0, .int .u32 x1, .int .u32 x2, .int .u32 x3, .int .u32 (x4 : Int)] 27)) ⟨y0, y1, y2, y3, y4⟩
  simp only at bx by_
  have hsz : (w.alloc (.cells #[.int .u32 x0, .int .u32 x1, .int .u32 x2, .int .u32 x3, .int .u32 (x4 : Int)] 27)).heap.size = w.heap.size + 1 := by simp
  rw [hsz] at by_
  clear hsz
  have kw : Only [] w ((w.alloc (.cells #[.int .u32 x0, .int .u32 x1, .int .u32 x2, .int .u32 x3, .int .u32 (x4 : Int)] 27)).alloc (.cells #[.int .u32 y0, .int .u32 y1, .int .u32 y2, .int .u32 y3, .int .u32 (y4 : Int)] 27)) := ((Only.refl [] w).alloc _).alloc _
  have bx2 := bx.alloc (.cells #[.int .u32 y0, .int .u32 y1, .int .u32 y2, .int .u32 y3, .int .u32 (y4 : Int)] 27)
  have hcx := cmp_any (a := x0) (b := y0)
  have hcy := cmp_any (a := x1) (b := y1)
  generalize cmpI x0 y0 = c0 at *
  generalize cmpI x1 y1 = c1 at *
  have KP : Hid (∀ w', Only [] ((w.alloc (.cells #[.int .u32 x0, .int .u32 x1, .int .u32 x2, .int .u32 x3, .int .u32 (x4 : Int)] 27)).alloc (.cells #[.int .u32 y0, .int .u32 y1, .int .u32 y2, .int .u32 y3, .int .u32 (y4 : Int)] 27)) w' → w'.cell? ⟨w.heap.size, 0, none⟩ = some (.int .u32 x0) ∧ w'.cell? ⟨w.heap.size, 1, none⟩ = some (.int .u32 x1) ∧ w'.cell? ⟨w.heap.size + 1, 0, none⟩ = some (.int .u32 y0) ∧ w'.cell? ⟨w.heap.size + 1, 1, none⟩ = some (.int .u32 y1)) :=
    fun w' kk => ⟨(bx2.kept kk (by simp)).cells.1, (bx2.kept kk (by simp)).cells.2.1, (by_.kept kk (by simp)).cells.1, (by_.kept kk (by simp)).cells.2.1⟩
  replace hor := Lib.hid hor
  replace hcx := Lib.hid hcx
  replace hcy := Lib.hid hcy
  clear bx bx2 by_
  unfold opV
  simp only
  go_enter Try.func28, Try.ntmps28
  go_wp2_with fail
  generalize ((w.alloc (.cells #[.int .u32 x0, .int .u32 x1, .int .u32 x2, .int .u32 x3, .int .u32 (x4 : Int)] 27)).alloc (.cells #[.int .u32 y0, .int .u32 y1, .int .u32 y2, .int .u32 y3, .int .u32 (y4 : Int)] 27)) = wa at *
  generalize w.heap.size = gx at *
  refine wp_region_held_drew (S := fun w' => w'.cell? ⟨gx, 0, none⟩ = some (.int .u32 x0) ∧ w'.cell? ⟨gx, 1, none⟩ = some (.int .u32 x1) ∧ w'.cell? ⟨gx + 1, 0, none⟩ = some (.int .u32 y0) ∧ w'.cell? ⟨gx + 1, 1, none⟩ = some (.int .u32 y1)) (by kernel_rfl) (KP.out _ (Only.refl _ _).drew) (fun hHeld => ?_)
  refine held_take 0 (.pointer (some ⟨gx, 0, none⟩)) rfl (by kernel_rfl) (by kernel_rfl) (by kernel_rfl) (fun _ _ _ h => h) hHeld (Or.inl ⟨by rfl, fun w' hSw => by (try dsimp only at hSw); (try subst hSw); go_simp⟩) ?_
  simp only [Act.put, List.setIfInBounds_toArray, List.set_cons_zero, List.set_cons_succ]
  refine held_take 1 (.int .u32 x0) rfl (by kernel_rfl) (by kernel_rfl) (by kernel_rfl) (fun _ _ _ h => h) hHeld (Or.inl ⟨by rfl, fun w' hSw => by (try dsimp only at hSw); (try subst hSw); go_simp⟩) ?_
  simp only [Act.put, List.setIfInBounds_toArray, List.set_cons_zero, List.set_cons_succ]
  refine held_take 2 (.pointer (some ⟨gx + 1, 0, none⟩)) rfl (by kernel_rfl) (by kernel_rfl) (by kernel_rfl) (fun _ _ _ h => h) hHeld (Or.inl ⟨by rfl, fun w' hSw => by (try dsimp only at hSw); (try subst hSw); go_simp⟩) ?_
  simp only [Act.put, List.setIfInBounds_toArray, List.set_cons_zero, List.set_cons_succ]
  refine held_take 3 (.int .u32 y0) rfl (by kernel_rfl) (by kernel_rfl) (by kernel_rfl) (fun _ _ _ h => h) hHeld (Or.inl ⟨by rfl, fun w' hSw => by (try dsimp only at hSw); (try subst hSw); go_simp⟩) ?_
  simp only [Act.put, List.setIfInBounds_toArray, List.set_cons_zero, List.set_cons_succ]
  refine held_take 5 (.pointer (some ⟨gx, 1, none⟩)) rfl (by kernel_rfl) (by kernel_rfl) (by kernel_rfl) (fun _ _ _ h => h) hHeld (Or.inl ⟨by rfl, fun w' hSw => by (try dsimp only at hSw); (try subst hSw); go_simp⟩) ?_
  simp only [Act.put, List.setIfInBounds_toArray, List.set_cons_zero, List.set_cons_succ]
  refine held_take 6 (.int .u32 x1) rfl (by kernel_rfl) (by kernel_rfl) (by kernel_rfl) (fun _ _ _ h => h) hHeld (Or.inl ⟨by rfl, fun w' hSw => by (try dsimp only at hSw); (try subst hSw); go_simp⟩) ?_
  simp only [Act.put, List.setIfInBounds_toArray, List.set_cons_zero, List.set_cons_succ]
  refine held_take 7 (.pointer (some ⟨gx + 1, 1, none⟩)) rfl (by kernel_rfl) (by kernel_rfl) (by kernel_rfl) (fun _ _ _ h => h) hHeld (Or.inl ⟨by rfl, fun w' hSw => by (try dsimp only at hSw); (try subst hSw); go_simp⟩) ?_
  simp only [Act.put, List.setIfInBounds_toArray, List.set_cons_zero, List.set_cons_succ]
  refine held_take 8 (.int .u32 y1) rfl (by kernel_rfl) (by kernel_rfl) (by kernel_rfl) (fun _ _ _ h => h) hHeld (Or.inl ⟨by rfl, fun w' hSw => by (try dsimp only at hSw); (try subst hSw); go_simp⟩) ?_
  simp only [Act.put, List.setIfInBounds_toArray, List.set_cons_zero, List.set_cons_succ]
  refine held_step 4 rfl (by kernel_rfl) (fun K hK => ?_)
  go_simp
  refine (hcx.out _).mono ?_; rintro e w3 ⟨rfl, rfl⟩
  go_wp2_with fail
  refine hK.out _ _ (KP.out _ (Only.refl _ _).drew) (fun hHeld => ?_)
  clear hK K
  refine held_step 9 rfl (by kernel_rfl) (fun K hK => ?_)
  go_simp
  refine (hcy.out _).mono ?_; rintro e w3 ⟨rfl, rfl⟩
  go_wp2_with fail
  refine hK.out _ _ (KP.out _ (Only.refl _ _).drew) (fun hHeld => ?_)
  clear hK K
  have bq : Blk (wa.drew.alloc (.cells #[.int .i64 c0, .int .i64 c1] 3)) wa.drew.heap.size 3 #[.int .i64 c0, .int .i64 c1] := Blk.new _ _ _
  have hkz : Only [] wa (wa.drew.alloc (.cells #[.int .i64 c0, .int .i64 c1] 3)) := (Only.refl [] wa).drew.alloc _
  refine held_step 10 rfl (by kernel_rfl) (fun K hK => ?_)
  go_simp
  go_wp2_with fail
  refine hK.out _ _ (KP.out _ hkz) (fun hHeld => ?_)
  clear hK K
  refine held_step 11 rfl (by kernel_rfl) (fun K hK => ?_)
  go_simp
  refine (hor.out _ _ bq).mono ?_; rintro e w4 ⟨rfl, rfl⟩
  go_wp2_with fail
  refine hK.out _ _ (KP.out _ hkz) (fun hHeld => ?_)
  clear hK K
  refine held_take 12 (.int .i64 r) rfl (by kernel_rfl) (by kernel_rfl) (by kernel_rfl) (fun _ _ _ h => h) hHeld (Or.inl ⟨by rfl, fun w' hSw => by (try dsimp only at hSw); (try subst hSw); go_simp⟩) ?_
  simp only [Act.put, List.setIfInBounds_toArray, List.set_cons_zero, List.set_cons_succ]
  refine wpAnyH_done (by kernel_rfl) ?_ _
  clear hHeld
  go_wp2
  go_ret
  exact ⟨rfl, kw.trans hkz⟩
end Go.Proofs.Ythclpefomhakdaa
